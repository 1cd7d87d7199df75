import PyProof.Rows.All
import Wide.All
import Wide.FinOn
import Lean
import PyProof.EqAt
import PyProof.EqKinds
import PyProof.TupleCall
import PyProof.AttrMissHeap
import PyProof.DictWalks
import KE.KDictObj
import KE.KEqDict
import KE.KUnpack
import PyProof.Rows.SetFrom
import KE.KRevIter
import KE.KDictSum
import KE.KFmtOwn
import PyProof.FactsAll.set_1
import PyProof.FactsAll.set_2
import PyProof.FactsAll.tuple_1
import PyProof.FactsAll.tuple_2
import KE.KSortTup
import PyProof.SetRoads
import PyProof.DictValues
import PyProof.FactsAll.dict_4
import PyProof.Rows.CallKwBuiltin
import PyProof.DictCopy
import KE.KDictList
import KE.KPairComp
import PyProof.DictItems
import PyProof.MinMaxWalk
import PyProof.WalkInts
import PyProof.RulesTry
import PyProof.ListRange
import PyProof.RangeFor
import KE.KNest
import KE.KLam
import PyProof.LongRange
import PyProof.SeqRoads2
import PySem.Challenge.RW_keepsakes_k87_what_the_desk_refuses
import OpenK.KSplit
import OpenK.KNot
import OpenK.KApp
import KE.KItem
import KE.IntText
import KE.IntTextLaws
import KE.BitLaws
import KE.KFromBytes
import KE.KMinKey
import KE.KIntText
import KE.KIsAll
import KE.KDictOf
import KE.KxBytes
import KE.KSortAsk
import KE.KDictLaws
import KE.KNestM
import KE.RegKIsAll
set_option compiler.extract_closed false
section
variable{A B C D E:Sort _}{G:Prop}
theorem ξ1{p:A→Prop}(h:∃a,p a)(g:∀a,p a→G):G:=h.elim g
theorem ξ2{p:A→B→Prop}(h:∃a b,p a b)(g:∀a b,p a b→G):G:=h.elim λa h=>ξ1 h (g a)
theorem ξ3{p:A→B→C→Prop}(h:∃a b c,p a b c)(g:∀a b c,p a b c→G):G:=h.elim λa h=>ξ2 h (g a)
theorem ξ4{p:A→B→C→D→Prop}(h:∃a b c d,p a b c d)(g:∀a b c d,p a b c d→G):G:=h.elim λa h=>ξ3 h (g a)
theorem ξ5{p:A→B→C→D→E→Prop}(h:∃a b c d e,p a b c d e)(g:∀a b c d e,p a b c d e→G):G:=h.elim λa h=>ξ4 h (g a)
theorem ψ2{p q:Prop}(h:p∧q)(g:p→q→G):G:=h.elim g
theorem ψ3{p q r:Prop}(h:p∧q∧r)(g:p→q→r→G):G:=h.elim λa b=>ψ2 b (g a)
theorem ψ4{p q r s:Prop}(h:p∧q∧r∧s)(g:p→q→r→s→G):G:=h.elim λa b=>ψ3 b (g a)
theorem ψ5{p q r s t:Prop}(h:p∧q∧r∧s∧t)(g:p→q→r→s→t→G):G:=h.elim λa b=>ψ4 b (g a)
theorem ψ6{p q r s t u:Prop}(h:p∧q∧r∧s∧t∧u)(g:p→q→r→s→t→u→G):G:=h.elim λa b=>ψ5 b (g a)
theorem ψ7{p q r s t u v:Prop}(h:p∧q∧r∧s∧t∧u∧v)(g:p→q→r→s→t→u→v→G):G:=h.elim λa b=>ψ6 b (g a)
theorem ψ8{p q r s t u v w:Prop}(h:p∧q∧r∧s∧t∧u∧v∧w)(g:p→q→r→s→t→u→v→w→G):G:=h.elim λa b=>ψ7 b (g a)
theorem ψ9{p q r s t u v w x:Prop}(h:p∧q∧r∧s∧t∧u∧v∧w∧x)(g:p→q→r→s→t→u→v→w→x→G):G:=h.elim λa b=>ψ8 b (g a)
end
open Lean Parser.Tactic in
local macro_rules|`(tactic|obtain ⟨$ps,*⟩:=$h:term)=>do
 let mut xs:Array Term:=#[]
 let mut tl:=#[]
 for p in ps.getElems do
  let s:=p.raw[0][0]
  let i:=s[0][0]
  if s.getNumArgs==1&&s[0].getKind== ``rcasesPat.one&&i.getId != `rfl then xs:=xs.push ⟨i⟩
  else
   let y:=mkIdent (←Macro.addMacroScope (.mkSimple s!"x{xs.size}"))
   xs:=xs.push y
   tl:=tl.push (←`(tactic|rcases $y:ident with $p))
 let c←if h.raw.isIdent then`(tactic|try clear $(⟨h⟩))else`(tactic|skip)
 let m:=xs.size
 let e s k:=mkIdent (.mkSimple s!"{s}{k}")
 let mut l:Array (TSyntax ``tacticSeq):=#[]
 for k in [0:6]do
  if k<m then
   let n:=m-k
   let b:=xs.extract k m
   let a:=xs.extract 0 k
   let q←if n==1 then`(tactic|intro $b*)else`(tactic|(intro z;refine $(e "ψ" n) z ?_;clear z;intro $b*))
   l:=l.push (←if k==0 then`(tacticSeq|refine $(e "ψ" n) $h ?_;$c;intro $b*;$[$tl];*)else`(tacticSeq|refine $(e "ξ" k) $h ?_;$c;intro $a*;$q;$[$tl];*))
 l:=l.push (←`(tacticSeq|rcases $h:term with ⟨$ps,*⟩))
 `(tactic|first $[|$l]*)
open Lean Parser.Tactic in
local macro_rules|`(tactic|rintro $ps*)=>do
 let l:=ps.back!.raw[0]
 if l.getKind != ``rcasesPat.tuple then Macro.throwUnsupported
 let q:TSyntaxArray ``rcasesPatLo:=l[1].getSepArgs.map (⟨·⟩)
 let i:=ps.pop
 let a←if i.isEmpty then`(tactic|skip)else`(tactic|rintro $i*)
 `(tactic|($a;intro z;obtain ⟨$q,*⟩:=z))
local macro_rules|`(tactic|omega)=>`(tactic|lia)
open Lean in
local macro_rules|`($x:ident)=>match x.getId with|`Z0=>`(none)|`Z1=>`(true)|`Z2=>`(false)|`Z3=>`(Prop)|`Z4=>`(Int)|`Z5=>`(Nat)|`Z6=>`(PySem.Str)|`Z7=>`(PySem.sizeLine)|`Z8=>pure (mkIdent `L2.V.int)|_=>Macro.throwUnsupported
open Lean Parser.Tactic in
def πp:Nat→Term→MacroM (TSyntax ``rcasesPatLo)
|n+1,x=>match x with|`(⟨$a,*⟩)=>do `(rcasesPatLo|⟨$(←a.getElems.mapM (πp n)),*⟩)|`(_)=>`(rcasesPatLo|_)|x=>`(rcasesPatLo|$(⟨x⟩):ident)
|_,_=>Macro.throwUnsupported
local macro_rules|`(tactic|let $d:letDecl)=>`(tactic|have $d:letDecl)
open Lean in
local macro_rules|`(tactic|let ⟨$a,*⟩:=$e)=>do `(tactic|obtain ⟨$(←a.getElems.mapM (πp 9)),*⟩:=$e)
local macro_rules|`(↥$n)=>`(($n : Int))
set_option hygiene false
local macro_rules|`(⋯)=>`(aM P w K mg base (CXx P w))
set_option hygiene true
local macro_rules|`(⇑$h)=>`(by simpa using $h)
open Lean in def μq(xs:Array Term):MacroM (Array Term):=do
 let mut a:=#[]
 for x in xs do
  match x with
  |`(1)=>a:=a++#[←`(_),←`(rfl)]
  |`(2)=>a:=a++#[←`(_),←`(rfl),←`(_),←`(rfl)]
  |`(3)=>a:=a++#[←`(_),←`(_),←`(rfl),←`(rfl)]
  |_=>a:=a.push x
 return a
local macro_rules(kind:=«term{_}»)|`({$xs,*})=>do let a←μq xs;`(⟨$a,*⟩)
local macro_rules|`(tactic|exists $xs,*)=>do let a←μq xs;`(tactic|refine ⟨$a,*, ?_⟩)
local macro_rules|`(~~~$s)=>`(($s).heap.objs.size)
set_option linter.all false
def al6:=@PySem.wpAny_bind
def al7:=@PySem.Heap.get?_push_of_some
def al8:=@if_neg
def al9:=@PySem.wpAny_pure
def ama:=@if_pos
def amb:=@PySem.Heap.lt_size
def amc:=@List.getElem?_eq_some_iff
def amd:=@Nat.le_refl
def ame:=@List.length_map
def amf:=@PySem.W.mg_of
def amg:=@List.getElem?_eq_getElem
def amh:=@PySem.Heap.get?_push_size
def ami:=@Option.map_eq_some_iff
def amj:=@List.mem_cons_of_mem
def amk:=@PyProof.Rows.boot_str
def aml:=@List.mem_of_getElem?
def amm:=@List.mem_append_right
def amn:=@Bool.false_ne_true
def amo:=@Nat.le_trans
def amq:=@List.mem_cons
def amr:=@List.mem_singleton
def ams:=@List.getElem?_append_left
def amt:=@PySem.Heap.get?_update_other
def amu:=@Nat.ne_of_lt
def amv:=@Nat.lt_of_lt_of_le
def amw:=@Option.some.inj
def amx:=@List.getElem?_map
def amy:=@List.mem_append
def amz:=@List.lookup_cons
def amA:=@decide_eq_true
def amB:=@PySem.wpAny_mono
def amC:=@List.nodup_cons
def amD:=@Array.getElem?_eq_some_iff
def amE:=@Nat.zero_le
def amF:=@Nat.succ.inj
def amG:=@List.getElem?_append_right
def amH:=@PySem.boot_len
def amI:=@PySem.Heap.get?_update_self
def amJ:=@List.take_add_one
def amK:=@List.length_append
def amL:=@PySem.W.mg_none_of
def amM:=@List.forall_mem_cons
def amN:=@decide_eq_false
def amO:=@PySem.PassesOwn.leaving
def amP:=@List.cons_eq_cons
def amQ:=@List.mem_iff_getElem?
def amR:=@List.map_cons
def amS:=@List.mem_map
def amT:=@List.take_length
def amU:=@PySem.wpAny_Call_Name_kw
def amV:=@Nat.le_of_lt
def amW:=@Ne.symm
def amX:=@List.length_take
def amY:=@List.mem_append_left
def amZ:=@List.all_eq_true
def am0:=@PyProof.Rows.callWith_type1
def am1:=@PySem.wpAny_field
def am2:=@List.exists_cons_of_length_eq_add_one
def am3:=@PySem.wpAny_holding
def am4:=@PySem.Heap.size_push
def am5:=@Array.length_toList
def am6:=@Array.getElem?_toList
def am7:=@PySem.Calls.spliced_cons
def am8:=@PySem.Obj.data_mapFields
def am9:=@PySem.F.plainAttrs_list
def ana:=@Array.getElem?_eq_getElem
def anb:=@List.length_replicate
def anc:=@PySem.W.callWith_K
def ane:=@PySem.F.called_set
def anf:=@Nat.lt_irrefl
def ang:=@PySem.Around.under_plainId
def anh:=@PySem.wpAny_loadPart_at
def ani:=@of_decide_eq_true
def anj:=@List.take_of_length_le
def ank:=@List.getD_eq_getElem?_getD
def anl:=@PySem.wpAny_call_entry
def anm:=@List.mem_cons_self
def ano:=@PyProof.Rows.boot_int
def anp:=@Nat.le_succ
def anq:=@List.append_nil
def anr:=@PySem.codeAny_builtin
def ans:=@PySem.F.slot_list_append
def ant:=@PySem.F.type_list_append
def anu:=@PySem.wpAny_truthy_bool
def anv:=@PySem.Calls.spliced_nil
def anw:=@List.size_toArray
def anx:=@PySem.wpAny_newObj_type
def anz:=@List.mem_map_of_mem
def anA:=@PySem.wpAny_setField
def anB:=@PySem.F.plainAttrs_str
def anC:=@PySem.codeAny_mono
def anD:=@PyProof.Rows.F.plain_set_update_loop
def anE:=@PySem.F.slot_enumerate_next
def anF:=@PySem.wpAny_passesOwn
def anG:=@PySem.Obj.isFreed_of_fields
def anH:=@Nat.mod_two_eq_zero_or_one
def anI:=@PySem.W.looks_findIn
def anJ:=@List.mem_range
def anK:=@Nat.ne_of_gt
def anL:=@Nat.lt_succ_self
def anM:=@List.length_cons
def anN:=@List.getElem_mem
def anO:=@PySem.F.plain_max_loop
def anP:=@PySem.mem_of_lookup
def anQ:=@PySem.wpAny_isSubtype_exc
def anR:=@PySem.plainObj_wpAny_Assign_Attribute
def anS:=@List.length_eq_zero_iff
def anT:=@Int.eq_ofNat_of_zero_le
def anU:=@PySem.wpAny_callSpecial?_slot
def anV:=@PySem.plainId_quiet
def anW:=@Nat.lt_of_le_of_lt
def anY:=@PySem.wpAny_updateSeq
def anZ:=@PySem.Calls.callWith_builtin
def an0:=@PySem.F.slot_str_split
def an1:=@PySem.F.type_str_split
def an2:=@PySem.wpAny_pyIter_list
def an3:=@Nat.lt_succ_of_lt
def an4:=@PySem.W.methodCall_KW
def an5:=@PySem.W.KIN.signs_num
def an6:=@PySem.builtinLookup_eq_fast
def an7:=@Nat.le_of_not_lt
def an8:=@List.any_eq_true
def an9:=@PySem.wpAny_call
def aoa:=@PySem.wpAny_askSetting
def aob:=@List.any_cons
def aoc:=@PySem.F.excBase_ValueError
def aod:=@PySem.W.looks_clsIn
def aoe:=@List.replicate_succ
def aof:=@PySem.Heap.SameBut.update
def aog:=@PySem.wpAny_execs_nil
def aoh:=@PySem.F.slot_dict_getitem
def aoi:=@PySem.F.plain_extend_loop
def aoj:=@Option.isSome_iff_exists
def aok:=@PySem.tupleKind_room_in1
def aol:=@Nat.pos_of_ne_zero
def aom:=@PySem.wpAny_comprehension_free
def aon:=@PySem.Code.quiet_builtin
def aoo:=@PySem.StrLaws.join_split
def aop:=@PyProof.Rows.F.entry_set_update_loop
def aoq:=@List.map_map
def aor:=@PySem.call_meets
def aos:=@PySem.F.plainAttrs_dict
def aot:=@Nat.toDigits_of_lt_base
def aou:=@PyProof.Rows.boot_tuple
def aov:=@PySem.Value.isInt_shape
def aow:=@PySem.wpAny_setState_of
def aox:=@List.pairwise_map
def aoy:=@List.getElem?_set
def aoz:=@PySem.Heap.size_after_update
def aoA:=@PySem.wpAny_of_eq
def aoB:=@Int.le_refl
def aoC:=@PyProof.Rows.boot_list
def aoD:=@PySem.wpAny_standAt
def aoE:=@PySem.wpAny_attempt
def aoF:=@Bool.and_eq_true
def aoG:=@PySem.F.slot_dict_get
def aoH:=@PySem.StrLaws.glued_eq_join
def aoI:=@List.take_append_drop
def aoJ:=@PyProof.Rows.boot_max
def aoK:=@List.getElem?_set_ne
def aoL:=@beq_iff_eq
def aoM:=@PyProof.Rows.callWith_builtin1
def aoN:=@PyProof.Rows.intsAre_of
def aoO:=@PySem.Calls.evalArgs_plain
def aoP:=@List.foldl_cons
def aoQ:=@Option.map_some
def aoR:=@Nat.lt_trans
def aoS:=@PySem.wpAny_specialOf
def aoT:=@List.map_append
def aoU:=@PySem.codeAny_call_builtin
def aoV:=@PySem.typeLookup_type
def aoW:=@PySem.F.args_enumerate_next_1
def aoX:=@List.filterMap_cons
def aoY:=@PySem.W.plainGet_of
def aoZ:=@PySem.W.looks_mroIn
def ao0:=@ne_true_of_eq_false
def ao1:=@PySem.wpAny_setEntries_of
def ao2:=@List.map_congr_left
def ao3:=@Nat.toDigits_append_toDigits
def ao4:=@PySem.F.slot_dict_setdefault
def ao5:=@PySem.F.entry_enumerate_next
def ao6:=@Sum.inl.inj
def ao7:=@List.getElem?_drop
def ao8:=@PySem.F.args_str_split_2
def ao9:=@Int.emod_lt_of_pos
def apa:=@List.map_filterMap
def apb:=@PySem.wpAny_setField_rec
def apc:=@PySem.Calls.Name_function_global
def apd:=@PySem.F.excAttr_ValueError
def ape:=@List.flatten_cons
def apf:=@Option.isSome_map
def apg:=@PySem.F.entry_str_split
def aph:=@Nat.lt_trichotomy
def api:=@List.ext_getElem?
def apj:=@List.nodup_append
def apk:=@Classical.not_not
def apl:=@PySem.typeIs_str
def apm:=@List.getElem?_zip_eq_some
def apn:=@PySem.Calls.call_function_entry
def apo:=@List.drop_eq_getElem_cons
def apq:=@List.perm_append_left_iff
def apr:=@PySem.F.entry_extend_loop
def aps:=@PySem.wpAny_lookBehind
def apt:=@PySem.pastItsLine_dict
def apu:=@List.getElem?_take_of_lt
def apv:=@PySem.wpAny_getItem_of
def apw:=@PySem.call_meetsIn
def apx:=@PySem.F.store_ValueError
def apy:=@List.perm_middle
def apz:=@PySem.F.slot_str_split
def apA:=@List.length_erase_of_mem
def apB:=@PySem.wpAny_isInstance
def apC:=@PySem.F.slot_dict_values
def apD:=@PySem.F.slot_list_extend
def apE:=@PySem.F.type_list_extend
def apF:=@PyProof.Rows.boot_sorted
def apG:=@PySem.F.args_dict_get_3
def apH:=@PySem.StrLaws.found_one
def apI:=@List.mem_filter
def apJ:=@Bool.eq_iff_iff
def apK:=@List.of_mem_zip
def apL:=@PySem.codeAny_of_tree
def apM:=@List.find?_cons
def apN:=@Int.emod_nonneg
def apO:=@PySem.wpAny_ite_split
def apP:=@List.getElem?_set_self
def apQ:=@PySem.W.cellsFrom_some
def apS:=@PySem.F.entry_dict_get
def apU:=@List.length_pos_of_mem
def apV:=@Array.getElem?_eq_none
def apW:=@PySem.wpAny_letGo
def apY:=@PySem.wpAny_loadPart
def apZ:=@PySem.intText_digits
def ap0:=@PySem.F.plain_set_new
def ap1:=@PySem.isSubtype_type
def ap2:=@PySem.F.slot_set_iter
def ap3:=@List.getElem?_eq_none
def ap4:=@PySem.wpAny_tryCatch
def ap6:=@List.contains_eq_mem
def ap7:=@PySem.Walks.list
def ap8:=@Nat.mod_lt
def ap9:=@List.mem_erase_of_ne
def aqd:=@PySem.W.findObj_own
def aqf:=@PySem.wpAt_of_wpAny
def aqg:=@PySem.W.callWith_K0
def aqh:=@List.findSome?_cons
def aqi:=@PySem.W.kdu_collect
def aqj:=@List.length_pos_iff
def aqn:=@List.mem_filterMap
def aqp:=@Nat.le_of_eq
def aqq:=@List.map_nil
def aqs:=@PySem.W.check_slot
def aqt:=@List.contains_cons
def aqv:=@Nat.eq_zero_or_pos
def aqw:=@Nat.lt_or_eq_of_le
def aqx:=@List.filterMap_map
def aqy:=@Nat.sub_self
def aqz:=@List.map_inj_right
def aqA:=@Int.sub_add_cancel
open PySem.W (instObj methodObj Frag lookIn plainGet hasDictIn findIn handedIn isFn plainOver takerIn set_plain Looks makesIn typeIn emptyDict bind_fn keepIn fnOf codeIn OpenLaw WalkO specialIn clsIn mroIn osa_eq readsIn findCls KdlSrc nsIn)
set_option Elab.async false
set_option linter.all false
set_option maxRecDepth 100000
def d7{p:Z3}(h:p:=by decide +kernel):p:=h
def o4{p:Z3}(h:p:=by first|decide|(dsimp only;decide)):p:=h
def o5{p:Z3}(h:p:=by omega):p:=h
def o6{p:Z3}(h:p:=by decide):p:=h
def o7{p:Z3}(h:p:=by simp):p:=h
def o8{p:Z3}(h:p:=by rfl):p:=h
def J{α:Sort u}{a:α}:a=a:=Eq.refl a
abbrev mu:=List
abbrev nt:=PySem.Addr
abbrev nF:=PySem.Value
abbrev o9:=Option
abbrev qb:=PySem.Shared
abbrev qd:=PySem.FuncData
abbrev q8:=Array
abbrev q9:=PySem.Program
abbrev wo:=PySem.World
namespace L2
open PySem PySem.Spec PyProof.Rows
abbrev Key:=Sum Z4 Z6
def sS:Key->nF->Bool
 |.inl k,v=>Value.isInt k v
 |.inr x,v=>Value.isStrOf x v
def alV(w:wo):Key->Z4
 |.inl k=>hashInt k
 |.inr x=>hashStr w x
def dO:∀{k:Key}{v:nF},sS k v=Z1->(∃i t,k=Sum.inl i/\v=Value.int i t)∨(∃x t,k=Sum.inr x/\v=Value.str x t)
 |.inl i,v,h=>by let⟨t,e⟩:=aov (k:=i) (v:=v) h;exact .inl ⟨i,t,J,e⟩
 |.inr x,v,h=>by let⟨t,e⟩:=Value.isStrOf_shape (x:=x) (v:=v) h;exact .inr ⟨x,t,J,e⟩
def KU(i:Z4)(t:Tok):sS (.inl i) (.int i t)=Z1:=by simp[sS,Value.isInt]
def uJ(x:Z6)(t:Tok):sS (.inr x) (.str x t)=Z1:=by simp[sS,Value.isStrOf]
def aeA(a b:Z4):decide ((Sum.inl a:Key)=Sum.inl b) =(a==b):=by grind
def YY(a b:Z6):decide ((Sum.inr a:Key)=Sum.inr b)=decide (a=b):=by grind
def ada(a:Z4)(b:Z6):decide ((Sum.inl a:Key)=Sum.inr b)=Z2:=amN λq=>nomatch q
def aa2(a:Z6)(b:Z4):decide ((Sum.inr a:Key)=Sum.inl b)=Z2:=amN λq=>nomatch q
def cg(prog:q9)(w:wo):PySem.KeyKind prog w Key where
 is:=sS
 hash:=alV w
 inj:=λv a b l f=>by
  rcases dO l with⟨i,t,rfl,rfl⟩|⟨x,t,rfl,rfl⟩
  .rcases dO f with⟨j,u,rfl,e⟩|⟨y,u,rfl,e⟩
   .injection e with e1 _;rw[e1]
   .exact nomatch e
  .rcases dO f with⟨j,u,rfl,e⟩|⟨y,u,rfl,e⟩
   .exact nomatch e
   .injection e with e1 _;rw[e1]
 byValue:=λk v h=>by rcases dO h with⟨i,t,rfl,rfl⟩|⟨x,t,rfl,rfl⟩ <;> rfl
 pyHash:=λc h=>by
  rcases dO c with⟨i,t,rfl,rfl⟩|⟨x,t,rfl,rfl⟩
  .exact wpAny_pyHash_int h
  .exact wpAny_pyHash_str h
 eqBool:=λg c h=>by
  rcases dO g with⟨i,t,rfl,rfl⟩|⟨x,t,rfl,rfl⟩
  .rcases dO c with⟨j,u,rfl,rfl⟩|⟨y,u,rfl,rfl⟩
   .rw[aeA] at h;exact wpAny_eqBool_int h
   .rw[ada] at h;exact SeqAt.EqAt.int_str i t y u _ _ _ _ h
  .rcases dO c with⟨j,u,rfl,rfl⟩|⟨y,u,rfl,rfl⟩
   .rw[aa2] at h;exact SeqAt.EqAt.str_int x t j u _ _ _ _ h
   .rw[YY] at h;exact wpAny_eqBool_str h
 «strs»:=λk x t v h=>by
  rcases dO h with⟨i,u,rfl,e⟩|⟨y,u,rfl,e⟩
  .exact nomatch e
  .injection e with e1 _
   subst e1;cases v <;> rfl
def FT(prog:q9)(w:wo)(i:Z4)(t:Tok):(cg prog w).is (.inl i) (.int i t)=Z1:=KU i t
def FO(prog:q9)(w:wo)(x:Z6)(t:Tok):(cg prog w).is (.inr x) (.str x t)=Z1:=uJ x t
inductive V where
 |non|bl (b:Bool)|int (i:Z4)|str (x:Z6)|byt (b:q8 UInt8)|flt (b:UInt64)|ref (a:nt)|ty (n:String)
 deriving DecidableEq
def RelV:V->nF->Z3
 |.non,u=>u=Value.none
 |.bl b,u=>u=Value.bool b
 |.int i,u=>∃t,u=Value.int i t
 |.str x,u=>∃t,u=Value.str x t
 |.byt b,u=>∃t,u=Value.bytes b t
 |.flt b,u=>∃t,u=Value.float b t
 |.ref a,u=>u=Value.ref a
 |.ty n,u=>u=Value.type n
abbrev Vals:mu V->mu nF->Z3:=Paired RelV
def Vals.length{xs:mu V}{us:mu nF}(r:Vals xs us):xs.length=us.length:=Paired.length r
def Vals.get:∀{xs:mu V}{us:mu nF}{i:Z5}{x:V},Vals xs us->xs[i]?=some x->∃u,us[i]?=some u/\RelV x u
 |_,_,_,_,.nil,e=>by simp at e
 |_,_,0,_,.cons r _,e=>by simp at e;subst e;exact{1,r}
 |_,_,i+1,x,.cons _ t,e=>by let⟨u,h1,h2⟩:=Vals.get (i:=i) (x:=x) t (⇑e);exact{u,⇑h1,h2}
def Vals.set{x:V}{u:nF}(r:RelV x u):∀{xs:mu V}{us:mu nF}(i:Z5),Vals xs us->Vals (xs.set i x) (us.set i u)
 |_,_,_,.nil=>.nil
 |_,_,0,.cons _ t=>.cons r t
 |_,_,i+1,.cons q t=>.cons q<|Vals.set r i t
def Vals.append:∀{xs ys:mu V}{us ws:mu nF},Vals xs us->Vals ys ws->Vals (xs++ys) (us++ws)
 |_,_,_,_,.nil,s=>s
 |_,_,_,_,.cons r t,s=>.cons r<|Vals.append t s
def Vals.take:∀{xs:mu V}{us:mu nF}(n:Z5),Vals xs us->Vals (xs.take n) (us.take n)
 |_,_,0,_=>.nil
 |_,_,_+1,.nil=>.nil
 |_,_,n+1,.cons r t=>.cons r<|Vals.take n t
def Vals.drop:∀{xs:mu V}{us:mu nF}(n:Z5),Vals xs us->Vals (xs.drop n) (us.drop n)
 |_,_,0,r=>r
 |_,_,_+1,.nil=>.nil
 |_,_,n+1,.cons _ t=>Vals.drop n t
def gR:o9 V->o9 nF->Z3
 |some v,some u=>RelV v u
 |none,none=>True
 |_,_=>False
def KV{κ:Type}:mu (κ×V)->mu (κ×nF)->Z3:=Paired λ(p:κ×V)(q:κ×nF)=>p.1=q.1/\RelV p.2 q.2
def kV:Key->V
 |.inl i=>.int i
 |.inr x=>.str x
inductive HO where
  |lst (xs:mu V)
  |tup (xs:mu V)
  |dK (X5:mu (Key×V))|dT (X5:mu (mu Key×V))
  |set (S:Z4->Bool) (n:Z5)
  |ins (C dx:nt) (fs:mu (Z6×V))
  |own (x:nt)
  |xd (fs:mu (Z6×V))
  |met (f x:nt)
  |rng (lo hi:Z4)
  |frz (o:Obj) (u:HO)
  |tbl (ps:q8 nF)
  |ext (φ:Heap->Z3)
abbrev Hp:=nt->o9 HO
def Z9(H:Hp)(a:nt)(o:HO):Hp:=λb=>if b=a then some o else H b
def aj{H:Hp}{a:nt}{o:HO}:Z9 H a o a=some o:=by unfold Z9;rw[ama rfl]
def au{H:Hp}{a b:nt}{o:HO}(h:b≠a):Z9 H a o b=H b:=by unfold Z9;rw[al8 h]
def gU{H:Hp}{a:nt}{o u:HO}:Z9 (Z9 H a o) a u=Z9 H a u:=by funext b;unfold Z9;split <;> rfl
def c9{H:Hp}{a b:nt}{o u:HO}(h:H a=some o)(h':H b=some u)(d:o≠u):a≠b:=by grind
def aA{H:Hp}{a b:nt}{o:HO}(h:H a=some o)(h':H b=Z0):a≠b:=by grind
section
variable(P:q9)(w:wo)
def cu(H:Hp)(h:Heap)(a:nt):HO->Z3
 |.lst xs=>xs.length≤Z7/\∃(b:mu nF)(n:Z5),Vals xs b/\h.get? a=some {.type "list",Z0,.seq b.toArray n,#[]}
 |.tup xs=>xs.length≤Z7/\∃b:mu nF,Vals xs b/\IsTup h a b.toArray
 |.dK X5=>X5.length≤Z7/\(a==sysModules)=Z2/\∃vs,KV X5 vs/\h.DictOf (cg P w) a vs
 |.dT X5=>X5.length≤Z7/\(a==sysModules)=Z2/\∃xs:mu (mu Key×nt×nF),
   Paired (λ(p:mu Key×V)(q:mu Key×nt×nF)=>p.1=q.1/\H q.2.1=some (.tup<|p.1.map kV)/\RelV p.2 q.2.2) X5 xs∧
   ∃o es ep,h.get? a=some o/\o.ExactDict/\o.data=.dict es ep/\es.toList=xs.map (entryOfKey<|tupleKind<|cg P w)/\(xs.map (·.1)).Nodup
 |.set S n=>h.SetOf (intKind P w) a S n
 |.ins C dx fs=>H dx=some (.own a)/\fs.length≤1000/\dx≠a/\h.get? a=some (instObj C dx)∧
   ∃mA,h.Ns1 dx mA/\(∀f,gR (fs.lookup f)<|mA f)/\PySem.Within mA (fs.map (·.1))
 |.own _=>∃o,h.get? a=some o
 |.xd fs=>∃mA,h.Ns1 a mA/\∀f,gR (fs.lookup f)<|mA f
 |.rng lo hi=>∃t u v,h.get? a=some {.type "range",Z0,.fields #[.int lo t,.int hi u,.int 1 v],#[]}
 |.frz o u=>h.get? a=some o/\cu H h a u
 |.tbl ps=>h.get? a=some {.none,Z0,.fields ps,#[]}
 |.met f x=>h.get? a=some (methodObj (.ref f)<|.ref x)
 |.ext c=>c h/\(∃o,h.get? a=some o)/\∀h1 h2:Heap,c h1->(∀o,h1.get? a=some o->h2.get? a=some o)->c h2
def HOk(H:Hp)(h:Heap):Z3:=∀a o,H a=some o->cu P w H h a o
end
section
variable{P:q9}{w:wo}{H H':Hp}{h h':Heap}{a:nt}{o:HO}
def cu.lt(x:cu P w H h a o):a<h.objs.size:=by
 cases o with
 |lst xs=>let⟨_,_,_,_,e⟩:=x;exact amb e
 |tup xs=>let⟨_,_,_,p⟩:=x;exact p.lt
 |dK X5=>let⟨_,_,_,_,o,_,_,e,_⟩:=x;exact amb e
 |dT X5=>let⟨_,_,_,_,o,_,_,e,_⟩:=x;exact amb e
 |set S n=>let⟨o,_,_,_,e,_⟩:=x;exact amb e
 |ins C dx fs=>let⟨_,_,_,e,_⟩:=x;exact amb e
 |own y=>let⟨_,e⟩:=x;exact amb e
 |xd fs=>let⟨_,⟨_,_,_,e,_⟩,_⟩:=x;exact amb e
 |rng lo hi=>let⟨_,_,_,e⟩:=x;exact amb e
 |frz c u=>let⟨e,_⟩:=x;exact amb e
 |tbl ps=>exact amb (show h.get? a=some _ from x)
 |met f y=>exact amb (show h.get? a=some _ from x)
 |ext b=>let⟨_,⟨_,e⟩,_⟩:=x;exact amb e
def Paired.Nh{α h:Type}{F G:α->h->Z3}:∀{g:mu α}{c:mu h},Paired F g c->(∀a b,F a b->G a b)->Paired G g c
 |_,_,.nil,_=>.nil
 |_,_,.cons r t,f=>.cons (f _ _ r)<|Paired.Nh t f
def cu.stay(x:cu P w H h a o)(k:∀b u,(b=a∨H b=some (.own a))->h.get? b=some u->h'.get? b=some u)(m:∀b,H b=some (.own a)->H' b=some (.own a))(A:∀b xs,H b=some (.tup xs)->H' b=some (.tup xs)):cu P w H' h' a o:=by
 induction o with
 |lst xs=>let⟨z,i,n,r,e⟩:=x;exact{z,i,n,r,k _ _ (.inl J) e}
 |tup xs=>let⟨z,i,r,g,e,c⟩:=x;exact{z,i,r,g,k _ _ (.inl J) e,c}
 |dK X5=>let⟨z,y,vs,r,g,es,ep,e,c⟩:=x;exact{z,y,vs,r,g,es,ep,k _ _ (.inl J) e,c}
 |dT X5=>let⟨z,y,xs,r,g,es,ep,e,c⟩:=x;exact{z,y,xs,Paired.Nh r λp q z=>{z.1,A _ _ z.2.1,z.2.2},g,es,ep,k _ _ (.inl J) e,c}
 |set S n=>let⟨g,es,ep,t,e,c⟩:=x;exact{g,es,ep,t,k _ _ (.inl J) e,c}
 |ins C dx fs=>let⟨d,z,s,e,mA,⟨od,es,ep,j,c⟩,r⟩:=x;exact{m _ d,z,s,k _ _ (.inl J) e,mA,{od,es,ep,k _ _ (.inr d) j,c},r}
 |own y=>let⟨g,e⟩:=x;exact{g,k _ _ (.inl J) e}
 |xd fs=>let⟨mA,⟨od,es,ep,e,c⟩,r⟩:=x;exact{mA,{od,es,ep,k _ _ (.inl J) e,c},r}
 |rng lo hi=>let⟨t,u,v,e⟩:=x;exact{t,u,v,k _ _ (.inl J) e}
 |frz g u l=>let⟨e,q⟩:=x;exact{k _ _ (.inl J) e,l q}
 |tbl ps=>have e:h.get? a=some {.none,Z0,.fields ps,#[]}:=x;show h'.get? a=some {.none,Z0,.fields ps,#[]};exact k a _ (.inl J) e
 |met f y=>have e:h.get? a=some (methodObj (.ref f) (.ref y)):=x;show h'.get? a=some (methodObj (.ref f)<|.ref y);exact k a _ (.inl J) e
 |ext B=>let⟨p,⟨o,e⟩,st⟩:=x;exact{st _ _ p λo q=>k _ _ (.inl J) q,{o,k _ _ (.inl J) e},st}
def HOk.lt(x:HOk P w H h)(e:H a=some o):a<h.objs.size:=(x a o e).lt
def HOk.fresh(x:HOk P w H h)(e:h.objs.size≤a):H a=Z0:=by
 cases q:H a with
 |none=>rfl
 |some u=>exact absurd (amv (x.lt q) e)<|anf _
def HOk.kept(x:HOk P w H h)(k:∀b u,h.get? b=some u->h'.get? b=some u):HOk P w H h':=λa o e=>(x a o e).stay (λb u _ q=>k b u q) (λ_ q=>q) λ_ _ q=>q
def HOk.laid(x:HOk P w H h)(k:∀b u,h.get? b=some u->h'.get? b=some u)(i:h.objs.size≤a)(new:cu P w (Z9 H a o) h' a o):HOk P w (Z9 H a o) h':=λb u e=>by
 let g:=x.fresh i;by_cases f:b=a
 .subst f;rw[aj] at e;cases e;exact new
 .rw[au f] at e;exact(x b u e).stay (λc v _ q=>k c v q) (λc q=>by rwa[au<|aA q g]) λc xs q=>by rwa[au<|aA q g]
end
def Rd(H:Hp)(a:nt)(u:HO):Z3:=H a=some u∨∃o,H a=some (.frz o u)
def Rd.ok{P:q9}{w:wo}{H:Hp}{h:Heap}{a:nt}{u:HO}(r:Rd H a u)(x:HOk P w H h):cu P w H h a u:=by
 rcases r with r|⟨o,r⟩
 .exact x a u r
 .let⟨_,q⟩:=x a _ r;exact q
def Mut:o9 HO->Z3
 |some (.lst _)=>True
 |some (.dK _)=>True
 |some (.dT _)=>True
 |some (.set _ _)=>True
 |some (.ins _ _ _)=>True
 |some (.ext _)=>True
 |_=>False
section
variable{P:q9}{w:wo}{H:Hp}{h h':Heap}{x e:nt}{o':HO}
def HOk.write(ok:HOk P w H h)(i:Mut (H x))(he:e=x∨H e=some (.own x))(k:∀b u,b≠e->h.get? b=some u->h'.get? b=some u)(j:∃u,h'.get? e=some u)(new:cu P w (Z9 H x o') h' x o'):HOk P w (Z9 H x o') h':=λb u q=>by
 let f:∀c y,H c=some (.own y)->c≠x:=λc y r z=>by subst z;rwa[r] at i
 let g:∀c xs,H c=some (.tup xs)->c≠x:=λc xs r z=>by subst z;rwa[r] at i
 by_cases l:b=x
 .subst l;rw[aj] at q;cases q;exact new
 .rw[au l] at q;by_cases a:b=e
  .let n:H b=some (.own x):=by grind
   rw[q] at n;cases n;let⟨v,o⟩:=j;exact{v,by rwa[a]}
  .refine(ok b u q).stay (λc v m r=>k c v ?_ r) (λc r=>by rwa[au<|f c b r]) λc xs r=>by rwa[au<|g c xs r]
   rcases m with rfl|m
   .exact a
   .grind
end
structure Un(fs ex:mu nt)(H H':Hp)(h h':Heap):Z3 where
 keep:∀b o,h.get? b=some o->H b=Z0->b∉fs->b∉ex->h'.get? b=some o
 slot:∀b o,h.get? b=some o->H b=Z0->b∈fs->b∉ex->∃sl,h'.get? b=some {o with slots:=sl}
 free:∀b o,h.get? b=some o->H b=Z0->b∉ex->H' b=Z0
 there:∀b o,h.get? b=some o->b∉ex->∃o',h'.get? b=some o'
 tups:∀b xs,H b=some (.tup xs)->H' b=some (.tup xs)
 oz:∀b o u,H b=some (.frz o u)->H' b=some (.frz o u)
 qV:∀b ps,H b=some (.tbl ps)->∃more,H' b=some (.tbl (ps++more))
section
variable{fs fs' ex ex':mu nt}{H H1 H2:Hp}{h h1 h2 h':Heap}{a x e:nt}{o:HO}
def Un.any(u:Un fs ex H H1 h h1){b:nt}{a:Obj}(q:h.get? b=some a)(n:H b=Z0)(c:b∉ex):∃g,h1.get? b=some {a with slots:=g}:=by
 by_cases f:b∈fs
 .exact u.slot b a q n f c
 .exact{a.slots,u.keep b a q n f c}
def Un.kept(k:∀b u,h.get? b=some u->h'.get? b=some u):Un fs ex H H h h':=
 {λb a q _ _ _=>k b a q,λb a q _ _ _=>{a.slots,k b a q},λ_ _ _ n _=>n,λb a q _=>{a,k b a q},λ_ _ q=>q,λ_ _ _ q=>q,λ_ ps q=>{#[],by rw[q];simp}}
def Un.refl:Un fs ex H H h h:=Un.kept λ_ _ q=>q
def Un.laid(k:∀b u,h.get? b=some u->h'.get? b=some u)(f:h.objs.size≤a)(c:H a=Z0):Un fs ex H (Z9 H a o) h h' where
 keep:=λb u q _ _ _=>k b u q
 slot:=λb u q _ _ _=>{u.slots,k b u q}
 free:=λb u q n _=>by rwa[au<|amu<|amv (amb q) f]
 there:=λb u q _=>{u,k b u q}
 tups:=λb xs q=>by rwa[au<|aA q c]
 oz:=λb u xs q=>by rwa[au<|aA q c]
 qV:=λb ps q=>{#[],by rw[au<|aA q c,q];simp}
def Un.write(a:Mut (H x))(he:e=x∨H e=some (.own x))(k:∀b u,b≠e->h.get? b=some u->h'.get? b=some u)(g:∃u,h'.get? e=some u):Un fs ex H (Z9 H x o) h h':=by
 let i:∀b,H b=Z0->b≠x:=λb n z=>by subst z;rwa[n] at a
 let j:∀b,H b=Z0->b≠e:=λb n z=>by
  subst z;rcases he with r|r
  .exact i b n r
  .rw[n] at r;cases r
 let f:∀b u,H b=some u->¬Mut (some u)->b≠x:=λb u q nm z=>by subst z;rw[q] at a;exact nm a
 refine⟨λb u q n _ _=>k b u (j b n) q,λb u q n _ _=>{u.slots,k b u (j b n) q},λb u q n _=>by rwa[au<|i b n],λb u q _=>?_,
  λb xs q=>by rwa[au (f b _ q λz=>z)],λb u xs q=>by rwa[au (f b _ q λz=>z)],λb ps q=>{#[],by rw[au (f b _ q λz=>z),q];simp}⟩
 by_cases c:b=e
 .subst c;exact g
 .grind
end
def trk(h:Heap)(H:Hp):mu nt:=(List.range h.objs.size).filter λa=>(H a).isSome
def sF(h:Heap)(H:Hp):Heap:=PySem.W.hideAll h<|trk h H
def JA(h:Heap)(H:Hp):(sF h H).objs.size=h.objs.size:=PySem.W.hideAll_size _ _
def MS{h:Heap}{H:Hp}{b:nt}{o:Obj}(e:h.get? b=some o)(n:H b=Z0):(sF h H).get? b=some o:=
 PySem.W.hideAll_get _ e λa=>by let q:(H b).isSome=Z1:=(apI.mp a).2;rw[n] at q;simp at q
def U8{h:Heap}{H:Hp}{b:nt}{o:Obj}(e:(sF h H).get? b=some o):h.get? b=some o/\H b=Z0:=by
 let a:h.get? b=some o:=PySem.W.of_hideAll (trk h H) e;exists a;cases q:H b with
 |none=>rfl
 |some x=>have c:b∈trk h H:=apI.mpr {anJ.mpr<|amb a,by simp[q]};let z:(sF h H).get? b=Z0:=PySem.W.hideAll_none (trk h H) c;rw[z] at e;cases e
def UQ(g h:Heap)(L:nt):mu (nt×Obj):=(List.range h.objs.size).filterMap λa=>if a=L∨(g.get? a).isSome=Z1 then Z0 else(h.get? a).map λo=>(a,o)
def rest(g h:Heap)(L d:nt):mu (nt×Obj):=(UQ g h L).filter λp=>decide (p.1≠d)
structure Mod(K:Frag)(mg:Z6->o9 nF)(base:Heap):Z3 where
 kin:K.In base
 glob:base.Ns mainGlobals mg
 blt:∃mb,base.Ns builtinsNs mb/\∀x:Z6,x≠"__name__"->mb x=bootBuiltins x
 nolimit:base.NoLimit
structure Cx where
 prog:q9
 w:wo
 K:Frag
 mg:Z6->o9 nF
 base:Heap
 A:Around
 N:mu Z6
 s₀:qb
 H₀:Hp
 env:Env
 outer:mu Env
 stack:mu Env
 ex:mu nt
 fn:Z6->Bool
 calm:Bool
 pn:mu (nt×Obj)
 xe:nF->qb->Z3
def frs(l:mu Env):mu nt:=l.filterMap (·.frame)
abbrev Cx.fs(X:Cx):mu nt:=frs X.outer
def Vis(a:Scope)(x:Z6):Z3:=a.names.lookup x=some .local∨a.names.lookup x=some .cell∨a.names.lookup x=some .free
def Loc(a:Scope)(x:Z6):Z3:=a.names.lookup x=some .local∨a.names.lookup x=some .cell
def Look(env:Env)(h:Heap)(m:Z6->o9 nF)(x:Z6)(u:nF):Z3:=
 (env.kindOf x=some .local/\m x=some u)∨((env.kindOf x=some .cell∨env.kindOf x=some .free)/\∃c,env.cells.lookup x=some c/\h.IsCell c (some u))
structure Cx.Ok(X:Cx):Z3 where
 mod:Mod X.K X.mg X.base
 kind:X.env.scope.kind=.function
 glob:X.env.globals=mainGlobals
 blt:X.env.builtins=builtinsNs
 above:X.s₀.heap.objs.size≤X.env.locals
 inj:∀x y c,X.env.cells.lookup x=some c->X.env.cells.lookup y=some c->x=y
 has:∀x,(X.env.kindOf x=some .cell∨X.env.kindOf x=some .free)->∃c,X.env.cells.lookup x=some c
 cab:∀x c,X.fn x=Z1->X.env.cells.lookup x=some c->X.s₀.heap.objs.size≤c
 hd:X.calm=Z1->X.A.handled=Z0
 frames:X.A.frames=some X.stack
 stk:X.stack=X.outer∨(X.stack=X.env::X.outer/\X.env.frame=some X.env.locals)
 exf:∀ b∈X.ex,b≠X.env.locals/\∀x c,X.env.cells.lookup x=some c->c≠b
 bs:∀b o,X.base.get? b=some o->X.s₀.heap.get? b=some o/\X.H₀ b=Z0
 bsz:X.base.objs.size≤X.s₀.heap.objs.size
 wg:∀b o,X.base.get? b=some o->b∉X.ex
 ud:∀ b∈X.ex,b∉X.fs
 kg:X.s₀.heap.FunFrames X.base X.outer
 frf:∀ b∈X.fs,X.H₀ b=Z0
structure Inv(X:Cx)(X4:mu (nt×Obj))(σ:mu (o9 V))(H:Hp)(s:qb):Z3 where
 ok:X.Ok
 os:s.os=X.s₀.os
 bare:AllBare s.gens
 base:Un X.fs X.ex X.H₀ H X.s₀.heap s.heap
 loc:∃m,s.heap.Ns X.env.locals m/\∀(i:Z5)(x:Z6)(v:V),X.N[i]?=some x->σ[i]?=some (some v)->Vis X.env.scope x->∃u,RelV v u/\Look X.env s.heap m x u
 cell:∀x c,X.env.cells.lookup x=some c->∃v,s.heap.IsCell c v
 free:H X.env.locals=Z0
 gw:∀x c,X.env.cells.lookup x=some c->H c=Z0
 pin:∀ p∈X.pn++X4,s.heap.get? p.1=some p.2/\H p.1=Z0/\p.1≠X.env.locals/\p.1∉X.fs/\∀v,p.2.data≠.cell v
 hok:HOk X.prog X.w H s.heap
 len:σ.length=X.N.length
section
variable{X:Cx}{X4:mu (nt×Obj)}{σ:mu (o9 V)}{H H':Hp}{s:qb}{h':Heap}
def Cx.Ok.alh(ok:X.Ok){b:nt}{o:Obj}(e:X.base.get? b=some o):b∉X.fs:=λa=>by let:=(ok.kg.mem a).1;rw[e] at this;cases this
def Inv.bs(I:Inv X X4 σ H s):∀b o,X.base.get? b=some o->s.heap.get? b=some o/\H b=Z0:=λb o e=>
 {I.base.keep b o (I.ok.bs b o e).1 (I.ok.bs b o e).2 (I.ok.alh e)<|I.ok.wg b o e,I.base.free b o (I.ok.bs b o e).1 (I.ok.bs b o e).2<|I.ok.wg b o e}
def Inv.bk(I:Inv X X4 σ H s):∀b o,X.base.get? b=some o->s.heap.get? b=some o:=λb o e=>(I.bs b o e).1
def Inv.mod(I:Inv X X4 σ H s):Mod X.K X.mg X.base:=I.ok.mod
def Inv.kIn(I:Inv X X4 σ H s):X.K.In s.heap:=I.ok.mod.kin.keeps I.bk
def Inv.lt(I:Inv X X4 σ H s):X.env.locals<(~~~s):=let ⟨_,hn,_⟩:=I.loc; hn.lt
def Inv.sz(I:Inv X X4 σ H s):X.s₀.heap.objs.size≤(~~~s):=amo I.ok.above<|amV I.lt
def Inv.akx(I:Inv X X4 σ H s){a:nt}(h:( ~~~s)≤a):a∉X.fs:=λb=>by let⟨_,o,c,_⟩:=I.ok.kg.mem b;exact absurd (amv (amb c)<|amo I.sz h)<|anf _
def Inv.cne(I:Inv X X4 σ H s):∀x c,X.env.cells.lookup x=some c->c≠X.env.locals:=fun x c e z=>by let⟨v,o,f,hd⟩:=I.cell x c e;let⟨m,⟨o',es,ep,a,b,_⟩,_⟩:=I.loc;rw[z,a] at f;cases f;rw[b] at hd;cases hd
def Inv.kg(I:Inv X X4 σ H s):s.heap.FunFrames X.base X.outer:=by
 let all:∀(l:mu Env),(∀ b∈frs l,b∈X.fs)->X.s₀.heap.FunFrames X.base l->s.heap.FunFrames X.base l:=by
  intro l
  induction l with
  |nil=>intro _ _;trivial
  |cons env r i=>
   intro hs h;let⟨n,⟨L,o,c,j,m,hd⟩,g⟩:=h;let f:L∈X.fs:=hs L (by unfold frs;rw[aoX,c];exact anm);let⟨p,e⟩:=I.base.slot L o m (I.ok.frf L f) f λz=>I.ok.ud L z f
   exact{n,{L,_,c,j,e,hd},i (λb a=>hs b (by unfold frs;rw[aoX,c];exact amj _ a)) g}
 exact all X.outer (λ_ a=>a) I.ok.kg
def Inv.stack(I:Inv X X4 σ H s):s.heap.FunFrames X.base X.stack:=by
 rcases I.ok.stk with e|⟨e,b⟩
 .rw[e];exact I.kg
 .rw[e];let⟨m,a,_⟩:=I.loc;refine .cons (by rw[I.ok.kind];decide) b a ?_ I.kg;exact Heap.get?_none_of_le<|amo I.ok.bsz I.ok.above
def Inv.Du(I:Inv X X4 σ H s):∀ b∈frs X.stack,b∈X.env.locals::X.fs:=fun b hb=>by
 rcases I.ok.stk with e|⟨e,a⟩
 .grind
 .rw[e] at hb;unfold frs at hb;rwa[aoX,a] at hb
def Inv.Ad(I:Inv X X4 σ H s):∀ b∈frs X.stack,H b=Z0:=λb a=>by
 rcases amq.mp (I.Du b a) with e|a
 .rw[e];exact I.free
 .let⟨_,o,c,_⟩:=I.ok.kg.mem a;exact I.base.free b o c (I.ok.frf b a) λz=>I.ok.ud b z a
def Inv.step{g':q8 GenState}{t':Z5}{d':Drawn}{ch:mu nt}(I:Inv X X4 σ H s)(f:∀ b∈ch,(b∈X.ex∨X.s₀.heap.objs.size≤b)/\b≠X.env.locals/\(∀x c,X.env.cells.lookup x=some c->c≠b)/\∀ p∈X.pn++X4,p.1≠b)(keep:∀b o,b≠X.env.locals->b∉X.fs->b∉ch->s.heap.get? b=some o->H b=Z0->h'.get? b=some o)(y:∀b o,b≠X.env.locals->b∈X.fs->b∉ch->s.heap.get? b=some o->H b=Z0->∃Y,h'.get? b=some {o with slots:=Y})(free:∀b o,b∉ch->s.heap.get? b=some o->H b=Z0->H' b=Z0)(B:∀b o,b∉ch->s.heap.get? b=some o->∃o',h'.get? b=some o')(F:∀b xs,H b=some (.tup xs)->H' b=some (.tup xs))(oz:∀b o u,H b=some (.frz o u)->H' b=some (.frz o u))(qV:∀b ps,H b=some (.tbl ps)->∃more,H' b=some (.tbl (ps++more)))(ns:∀m,s.heap.Ns X.env.locals m->h'.Ns X.env.locals m)(U:HOk X.prog X.w H' h')(hg:AllBare g') :
  Inv X X4 σ H' {s with heap:=h',gens:=g',drawn:=d',toks:=t'}:=by
 let L:∀b o,X.s₀.heap.get? b=some o->b≠X.env.locals:=fun b o e=>amu<|amv (amb e) I.ok.above
 let t:∀b o,X.s₀.heap.get? b=some o->b∉X.ex->b∉ch:=λb o e a A=>by
  rcases(f b A).1 with z|z
  .exact a z
  .exact absurd (amv (amb e) z) (anf _)
 let h:∀x c,X.env.cells.lookup x=some c->∀v,s.heap.IsCell c v->h'.IsCell c v:=λ x c e v ⟨o,C,hd⟩=>by
  let g:c∉ch:=λz=>(f c z).2.2.1 x c e J
  by_cases hc:c∈X.fs
  .let⟨Y,q⟩:=y c o (I.cne x c e) hc g C<|I.gw x c e;exact{_,q,hd}
  .exact{o,keep c o (I.cne x c e) hc g C<|I.gw x c e,hd}
 refine{I.ok,I.os,hg,{λb o e n A a=>?_,λb o e n A a=>?_,λb o e n a=>?_,λb o e a=>?_,λb xs e=>F b xs<|I.base.tups b xs e,λb o xs e=>oz b o xs<|I.base.oz b o xs e,λb ps e=>?_},?_,λx c e=>?_,?_,λx c e=>?_,λp hp=>?_,U,I.len}
 .exact keep b o (L b o e) A (t b o e a) (I.base.keep b o e n A a) (I.base.free b o e n a)
 .let⟨Y,j⟩:=I.base.slot b o e n A a;let⟨S,O⟩:=y b _ (L b o e) A (t b o e a) j<|I.base.free b o e n a;exact⟨S,O⟩
 .let⟨o',j⟩:=I.base.there b o e a;exact free b o' (t b o e a) j<|I.base.free b o e n a
 .let⟨o',j⟩:=I.base.there b o e a;exact B b o' (t b o e a) j
 .let⟨m1,j⟩:=I.base.qV b ps e;let⟨m2,O⟩:=qV b _ j;exact{m1++m2,by rw[O,Array.append_assoc]}
 .let⟨m,hn,hl⟩:=I.loc;refine{m,ns m hn,λi x v j O e3=>?_};let⟨u,r,l⟩:=hl i x v j O e3;exists u,r;rcases l with l|⟨k,c,e,z⟩
  .exact .inl l
  .exact .inr {k,c,e,h x c e _ z}
 .let⟨v,z⟩:=I.cell x c e;exact{v,h x c e v z}
 .let⟨m,⟨o,_,_,C,_⟩,_⟩:=I.loc;exact free _ o (λz=>(f _ z).2.1 J) C I.free
 .let⟨v,o,C,hd⟩:=I.cell x c e;exact free c o (λz=>(f c z).2.2.1 x c e J) C<|I.gw x c e
 .let⟨e,n,ne,nf,d⟩:=I.pin p hp;let g:p.1∉ch:=λz=>(f p.1 z).2.2.2 p hp J
  exact{keep p.1 p.2 ne nf g e n,free p.1 p.2 g e n,ne,nf,d}
def Inv.un{t':Z5}(I:Inv X X4 σ H s)(u:Un X.fs [] H H' s.heap h')(h:HOk X.prog X.w H' h'):Inv X X4 σ H' {s with heap:=h',toks:=t'}:=by
 let⟨m,⟨o,es,ep,i,r⟩,_⟩:=id I.loc;let⟨q,j⟩:=u.any i I.free o7;exact I.step (g':=s.gens) (d':=s.drawn) (ch:=[]) (λ_ z=>nomatch z) (λb o _ c _ e n=>u.keep b o e n c o7) (λb o _ c _ e n=>u.slot b o e n c o7) (λb o _ e n=>u.free b o e n o7) (λb o _ e=>u.there b o e o7) u.tups u.oz u.qV (λt l=>by let⟨o',f,g,a,p⟩:=l;rw[i] at a;cases a;exact{_,f,g,j,p}) h I.bare
def Inv.call{g':q8 GenState}{t':Z5}{d':Drawn}{ch:mu nt}(I:Inv X X4 σ H s)(u:Un (frs X.stack) ch H H' s.heap h')(l:HOk X.prog X.w H' h')(v:AllBare g')(f:∀ b∈ch,(b∈X.ex∨X.s₀.heap.objs.size≤b)/\b≠X.env.locals/\(∀x c,X.env.cells.lookup x=some c->c≠b)/\∀ p∈X.pn++X4,p.1≠b) :
  Inv X X4 σ H' {s with heap:=h',gens:=g',drawn:=d',toks:=t'}:=by
 let⟨m,⟨o,es,ep,q,r⟩,_⟩:=id I.loc;let⟨B,j⟩:=u.any q I.free λz=>(f _ z).2.1 J
 exact I.step (ch:=ch) f (λb o j t a e n=>u.keep b o e n (λz=>(amq.mp<|I.Du b z).elim j t) a) (λb o _ _ a e n=>u.any e n a) (λb o a e n=>u.free b o e n a) (λb o a e=>u.there b o e a) u.tups u.oz u.qV (λC y=>by let⟨o',h,i,g,A⟩:=y;rw[q] at g;cases g;exact{_,h,i,j,A}) l v
def Inv.turned{t':Z5}{it:nt}(I:Inv X X4 σ H s)(k:∀b o,b≠it->s.heap.get? b=some o->h'.get? b=some o)(i:H it=Z0)(g:it≠X.env.locals)(h1:it∈X.ex∨X.s₀.heap.objs.size≤it)(h2:∀x c,X.env.cells.lookup x=some c->c≠it)(h3:∀ p∈X.pn++X4,p.1≠it):Inv X X4 σ H {s with heap:=h',toks:=t'}:=by
 let f:∀b u,H b=some u->b≠it:=λb u e z=>by rw[z,i] at e;cases e
 refine I.step (g':=s.gens) (d':=s.drawn) (ch:=[it]) (λb l=>?_) (λb o _ _ a e _=>k b o (λz=>a (by simp[z])) e) (λb o _ _ a e _=>{o.slots,k b o (λz=>a (by simp[z])) e}) (λ_ _ _ _ n=>n)
  (λb o a e=>{o,k b o (λz=>a (by simp[z])) e}) (λ_ _ e=>e) (λ_ _ _ e=>e) (λb ps e=>{#[],by rw[e];simp}) (λm h=>?_) (λb u e=>?_) I.bare
 .grind
 .let⟨o,es,ep,j,r⟩:=h;exact{o,es,ep,k _ o (amW g) j,r}
 .refine(I.hok b u e).stay (λc v a q=>k c v ?_ q) (λ_ q=>q) λ_ _ q=>q
  rcases a with z|z
  .grind
  .exact f c _ z
def Inv.tok(I:Inv X X4 σ H s)(t:Z5):Inv X X4 σ H {s with toks:=t}:=I.un (h':=s.heap) (t':=t) Un.refl I.hok
def Inv.kept{t':Z5}(I:Inv X X4 σ H s)(k:∀b u,s.heap.get? b=some u->h'.get? b=some u):Inv X X4 σ H {s with heap:=h',toks:=t'}:=I.un (Un.kept k)<|I.hok.kept k
def Inv.laid{a:nt}{o:HO}{t':Z5}(I:Inv X X4 σ H s)(k:∀b u,s.heap.get? b=some u->h'.get? b=some u)(c:( ~~~s)≤a)(new:cu X.prog X.w (Z9 H a o) h' a o) :
  Inv X X4 σ (Z9 H a o) {s with heap:=h',toks:=t'}:=I.un (Un.laid k c<|I.hok.fresh c)<|I.hok.laid k c new
def Inv.write{x e:nt}{o:HO}{t':Z5}(I:Inv X X4 σ H s)(c:Mut (H x))(he:e=x∨H e=some (.own x))(k:∀b u,b≠e->s.heap.get? b=some u->h'.get? b=some u)(a:∃u,h'.get? e=some u)(new:cu X.prog X.w (Z9 H x o) h' x o):Inv X X4 σ (Z9 H x o) {s with heap:=h',toks:=t'}:=I.un (Un.write c he k a)<|I.hok.write c he k a new
def Inv.GC{a:mu (nt×Obj)}(I:Inv X X4 σ H s)(h:∀ p∈a,s.heap.get? p.1=some p.2/\H p.1=Z0/\p.1≠X.env.locals/\p.1∉X.fs/\∀v,p.2.data≠.cell v):Inv X a σ H s:=
 {I.ok,I.os,I.bare,I.base,I.loc,I.cell,I.free,I.gw,λp b=>(amy.mp b).elim (λz=>I.pin p<|amY _ z)<|h p,I.hok,I.len}
def xS{N:mu Z6}(g:N.Nodup){i j:Z5}{x:Z6}(a:N[i]?=some x)(b:N[j]?=some x):i=j:=by let⟨h1,c⟩:=amc.mp a;let⟨h2,f⟩:=amc.mp b;exact(List.getElem_inj g).mp (c.trans f.symm)
def Bm{M:Model}{A:Around}{E:nF->qb->Z3}{i:Z5}{x:Z6}{v:V}{u:nF}{Q:Unit->qb->Z3}(I:Inv X X4 σ H s)(hN:X.N.Nodup)(hi:X.N[i]?=some x)(t:Loc X.env.scope x)(r:RelV v u)(h:∀s',Inv X X4 (σ.set i (some v)) H s'->(∃a,Heap.SameBut a s.heap s'.heap/\(a=X.env.locals∨X.env.cells.lookup x=some a))->Q () s')(hf:X.fn x=Z1∨X.env.scope.names.lookup x=some .local:=by first|exact .inl rfl|exact .inr rfl|assumption):wpAny M A (storeName X.env x u) Q E s:=by
 let⟨m,hn,hl⟩:=id I.loc;let U:(X.env.scope.kind==.class||(X.env.scope.kind==.module&&X.env.locals != X.env.globals))=Z2:=by rw[I.ok.kind]; rfl
 let C:i<σ.length:=by rw[I.len];exact(amc.mp hi).1
 let cne:=I.cne;let g:∀{a:nt}{h':Heap},(∃o,s.heap.get? a=some o/\H a=Z0)->Heap.SameBut a s.heap h'->HOk X.prog X.w H h':=λ{a h'}ha hs b ob e=>by
  let⟨_,_,a5⟩:=ha;refine(I.hok b ob e).stay (λc w' l q=>(hs.2 c ?_).trans q) (λ_ q=>q) λ_ _ q=>q
  rintro rfl;rcases l with rfl|l
  .grind
  .grind
 rcases t with S|S
 .refine wpAny_storeName_local S hn (λh' a2 hs=>?_) U;let⟨oL,_,_,a1,_⟩:=id hn;refine h _ {I.ok,I.os,I.bare,{λb o e n F t=>?_,λb o e n F t=>?_,I.base.free,λb o e t=>?_,I.base.tups,I.base.oz,I.base.qV},{_,a2,λj y v' f B e3=>?_},λy c e=>?_,I.free,I.gw,λp hp=>?_,g ⟨oL,a1,I.free⟩ hs,⇑I.len} {_,hs,.inl J}
  .exact(hs.2 b<|amu<|amv (amb e) I.ok.above).trans (I.base.keep b o e n F t)
  .let⟨sl,f⟩:=I.base.slot b o e n F t;exact{sl,(hs.2 b<|amu<|amv (amb e) I.ok.above).trans f}
  .let⟨o',f⟩:=I.base.there b o e t;exact{o',(hs.2 b<|amu<|amv (amb e) I.ok.above).trans f}
  .by_cases L:j=i
   .subst L;rw[hi] at f;cases f;rw[apP C] at B;cases B;exact{u,r,.inl ⟨S,o7⟩}
   .rw[aoK<|amW L] at B;let⟨u',r',q⟩:=hl j y v' f B e3;exists u',r';rcases q with⟨k,e⟩|⟨k,c,e,z⟩
    .refine .inl {k,?_};let:y≠x:=λe=>L (xS hN f<|e ▸ hi)
     simp[this,e]
    .exact .inr {k,c,e,z.sameBut hs<|cne y c e}
  .let⟨w',z⟩:=I.cell y c e;exact{w',z.sameBut hs<|cne y c e}
  .let⟨e,n,ne,nf,d⟩:=I.pin p hp;exact{(hs.2 p.1 ne).trans e,n,ne,nf,d}
 .let O:X.fn x=Z1:=by grind
  let⟨c,l⟩:=I.ok.has x<|.inl S;let⟨w',z⟩:=I.cell x c l;refine wpAny_storeName_cell I.ok.kind S l z λh' a3 hs=>?_;let⟨oc,Y,a0⟩:=id z;refine h {s with heap:=h'} {I.ok,I.os,I.bare,{λb o e n F t=>?_,λb o e n F t=>?_,I.base.free,λb o e t=>?_,I.base.tups,I.base.oz,I.base.qV},{m,hn.sameBut hs<|amW<|cne x c l,λj y v' f B e3=>?_},λy c' e=>?_,I.free,I.gw,λp hp=>?_,g {oc,Y,I.gw x c l} hs,⇑I.len} {c,hs,.inr l}
  .exact(hs.2 b<|amu<|amv (amb e)<|I.ok.cab x c O l).trans (I.base.keep b o e n F t)
  .let⟨sl,f⟩:=I.base.slot b o e n F t;exact{sl,(hs.2 b<|amu<|amv (amb e)<|I.ok.cab x c O l).trans f}
  .let⟨o',f⟩:=I.base.there b o e t;exact{o',(hs.2 b<|amu<|amv (amb e)<|I.ok.cab x c O l).trans f}
  .by_cases L:j=i
   .subst L;rw[hi] at f;cases f;rw[apP C] at B;cases B;exact{u,r,.inr {.inl S,c,l,a3}}
   .rw[aoK<|amW L] at B;let⟨u',r',q⟩:=hl j y v' f B e3;exists u',r';rcases q with q|⟨k,c',e,z'⟩
    .exact .inl q
    .refine .inr {k,c',e,z'.sameBut hs ?_};rintro rfl;exact L<|xS hN f<|I.ok.inj _ _ _ e l ▸ hi
  .by_cases a4:c'=c
   .grind
   .let⟨w2,z2⟩:=I.cell y c' e;exact{w2,z2.sameBut hs a4}
  .let⟨e,n,ne,nf,d⟩:=I.pin p hp;refine{(hs.2 p.1 ?_).trans e,n,ne,nf,d};intro q;rw[q,Y] at e;let q':oc=p.2:=amw e;exact d w' (by rwa[←q'])
def tM{M:Model}{A:Around}{E:nF->qb->Z3}{i:Z5}{x:Z6}{v:V}{u:nF}{Q:Unit->qb->Z3}(I:Inv X X4 σ H s)(c:X.N.Nodup)(hi:X.N[i]?=some x)(a:Loc X.env.scope x)(r:RelV v u)(h:∀s',Inv X X4 (σ.set i (some v)) H s'->Q () s')(f:X.fn x=Z1∨X.env.scope.names.lookup x=some .local:=by first|exact .inl rfl|exact .inr rfl|assumption):wpAny M A (storeName X.env x u) Q E s:=
 Bm I c hi a r (λs' b _=>h s' b) f
def Inv.yR{s':qb}{ch:mu nt}(I:Inv X X4 σ H s)(h:s'.os=s.os)(u:Un (frs X.stack) ch H H' s.heap s'.heap)(a:HOk X.prog X.w H' s'.heap)(g:AllBare s'.gens)(f:∀ b∈ch,(b∈X.ex∨X.s₀.heap.objs.size≤b)/\b≠X.env.locals/\(∀x c,X.env.cells.lookup x=some c->c≠b)/\∀ p∈X.pn++X4,p.1≠b):Inv X X4 σ H' s':=by let⟨h',g',d',t',o'⟩:=s';let e:o'=s.os:=h;subst e;exact I.call (g':=g') (t':=t') (d':=d') u a g f
end
abbrev XK:=nF->o9 nt->Hp->Z3
abbrev St:=mu<|o9 V
abbrev VK:=V->Hp->Z3
abbrev TE:=St->Hp->VK->Z3
abbrev TT:=St->Hp->(Bool->Hp->Z3)->Z3
abbrev TA:=St->Hp->(mu V->Hp->Z3)->Z3
structure Ends where
 nx:St->Hp->Z3
 rt:VK
 bk:St->Hp->Z3:=λ_ _=>False
 ct:St->Hp->Z3:=λ_ _=>False
abbrev TS:=Ends->St->Hp->Z3
inductive EP(X:Cx)(X4:mu (nt×Obj))(σ:St)(Q:VK)(u:nF)(s':qb):Z3
 |m v H'(_:Inv X X4 σ H' s')(_:RelV v u)(_:Q v H')
def TP(X:Cx)(X4:mu (nt×Obj))(σ:St)(Q:Bool->Hp->Z3)(b:Bool)(s':qb):Z3:=∃H',Inv X X4 σ H' s'/\Q b H'
inductive AP(X:Cx)(X4:mu (nt×Obj))(σ:St)(Q:mu V->Hp->Z3)(us:mu nF)(s':qb):Z3
 |m vs H'(_:Inv X X4 σ H' s')(_:Vals vs us)(_:Q vs H')
def SP(X:Cx)(X4:mu (nt×Obj))(D:Ends)(f:Flow)(s':qb):Z3:=
 match f with
 |.next=>∃a H',Inv X X4 a H' s'/\D.nx a H'
 |.brk=>∃a H',Inv X X4 a H' s'/\D.bk a H'
 |.cont=>∃a H',Inv X X4 a H' s'/\D.ct a H'
 |.ret u=>∃v a H',Inv X X4 a H' s'/\RelV v u/\D.rt v H'
def PE(X:Cx)(e:Expr)(t:TE):Z3:=
 ∀(X4:mu (nt×Obj))(s:qb)(σ:St)(H:Hp)(Q:VK),Inv X X4 σ H s->t σ H Q->wpAny (model X.prog X.w) X.A (eval e X.env) (EP X X4 σ Q) X.xe s
def PT(X:Cx)(e:Expr)(t:TT):Z3:=
 ∀(X4:mu (nt×Obj))(s:qb)(σ:St)(H:Hp)(Q:Bool->Hp->Z3),Inv X X4 σ H s->t σ H Q->wpAny (model X.prog X.w) X.A (isTrue e X.env<|eval e X.env) (TP X X4 σ Q) X.xe s
def PW(X:Cx)(e:Expr)(t:TT):Z3:=
 ∀(a:Sem nF)(X4:mu (nt×Obj))(s:qb)(σ:St)(H:Hp)(Q:Bool->Hp->Z3),Inv X X4 σ H s->t σ H Q->wpAny (model X.prog X.w) X.A (isTrue e X.env a) (TP X X4 σ Q) X.xe s
def PW.pt{X:Cx}{e:Expr}{t:TT}(h:PW X e t):PT X e t:=h _
def PA(X:Cx)(es:mu Expr)(t:TA):Z3:=
 ∀(pos:Pos)(X4:mu (nt×Obj))(s:qb)(σ:St)(H:Hp)(Q:mu V->Hp->Z3),Inv X X4 σ H s->t σ H Q->wpAny (model X.prog X.w) X.A (spliced<|backTo pos<|starEach es X.env) (AP X X4 σ Q) X.xe s
def PS(X:Cx)(st:Stmt)(t:TS):Z3:=
 ∀(X4:mu (nt×Obj))(s:qb)(σ:St)(H:Hp)(D:Ends),Inv X X4 σ H s->t D σ H->wpAny (model X.prog X.w) X.A (exec st X.env) (SP X X4 D) X.xe s
def PSs(X:Cx)(st:mu Stmt)(t:TS):Z3:=
 ∀(X4:mu (nt×Obj))(s:qb)(σ:St)(H:Hp)(D:Ends),Inv X X4 σ H s->t D σ H->wpAny (model X.prog X.w) X.A (execs st X.env) (SP X X4 D) X.xe s
def thn{α:Type}{t:Sem α}{Q b:α->qb->Z3}{M:Model}{A:Around}{E:nF->qb->Z3}{s:qb}(h:wpAny M A t Q E s)(c:∀a s,Q a s->b a s):wpAny M A t b E s:=amB h c λ_ _ x=>x
section
variable{X:Cx}
inductive MR(i:Z5)(σ:St)(H:Hp)(Q:VK):Z3
 |m v(_:σ[i]?=some (some v))(_:Q v H)
def tC(v:V):TE:=λ_ H Q=>Q v H
def Yk{i:Z5}{x:Z6}{pos:Pos}(p:X.N[i]?=some x)(n:Vis X.env.scope x)(hd:(x ==("__debug__":Str))=Z2:=by decide)(g:(x ==("__classdict__":Str))=Z2:=by decide):PE X (.Name x pos) (MR i):=by
 intro X4 s σ H Q I h;let⟨v,e,h⟩:=h;let⟨m,t,o⟩:=I.loc;let⟨u,r,l⟩:=o i x v p e n;let b:EP X X4 σ Q u s:=⟨v,H,I,r,h⟩;rcases l with⟨f,q⟩|⟨f,c,j,a⟩
 .exact wpAny_Name (wpAny_loadName_local I.ok.kind f t q b) hd
 .rcases f with f|f
  .exact wpAny_Name (wpAny_loadName_cell I.ok.kind f j a b) hd
  .exact wpAny_Name (wpAny_loadName_free I.ok.kind f j a b g) hd
def aF{i j pos}:PE X (.Constant (.int i) j pos) (tC (.int i)):=λ_ _ _ H _ I h=>wpAny_Constant_int {.int i,H,I.tok _,{1},h}
def lJ{b j pos}:PE X (.Constant (.bool b) j pos) (tC (.bl b)):=λ_ _ _ H _ I h=>Constant_bool {.bl b,H,I,J,h}
def gS{j pos}:PE X (.Constant .none j pos) (tC .non):=λ_ _ _ H _ I h=>Constant_none {.non,H,I,J,h}
def aC{x j pos}:PE X (.Constant (.str x) j pos) (tC (.str x)):=λ_ _ _ H _ I h=>Calls.Constant_str {.str x,H,I.tok _,{1},h}
def Gl(X:Cx)(x:Z6):Z3:=X.env.kindOf x=some .globalImplicit
def kP{E:nF->qb->Z3}{X4:mu (nt×Obj)}{s:qb}{σ:St}{H:Hp}{x:Z6}{u:nF}{pos:Pos}{Q:nF->qb->Z3}(I:Inv X X4 σ H s)(a:Gl X x)(b:X.mg x=some u)(h:Q u s)(hd:(x ==("__debug__":Str))=Z2:=by decide):wpAny (model X.prog X.w) X.A (eval (.Name x pos) X.env) Q E s:=
 apc I.ok.kind a (Calls.loadGlobal_global (by rw[I.ok.glob];exact I.mod.glob.keeps I.bk) b h) hd
def jK{E:nF->qb->Z3}{X4:mu (nt×Obj)}{s:qb}{σ:St}{H:Hp}{x:Z6}{u:nF}{pos:Pos}{Q:nF->qb->Z3}(I:Inv X X4 σ H s)(b:Gl X x)(c:X.mg x=Z0)(a:bootBuiltins x=some u)(h:Q u s)(f:x≠"__name__":=by decide)(hd:(x ==("__debug__":Str))=Z2:=by decide):wpAny (model X.prog X.w) X.A (eval (.Name x pos) X.env) Q E s:=by let⟨g,h1,h2⟩:=I.mod.blt;exact apc I.ok.kind b (Calls.loadGlobal_builtin (by rw[I.ok.glob];exact I.mod.glob.keeps I.bk) c (by rw[I.ok.blt];exact h1.keeps I.bk) ((h2 x f).trans a) h) hd
def fu{x:Z6}{v:V}{u:nF}{pos:Pos}(a:Gl X x)(b:X.mg x=some u)(r:RelV v u)(hd:(x ==("__debug__":Str))=Z2:=by decide):PE X (.Name x pos) (tC v):=
 λ_ _ _ H _ I h=>kP I a b ⟨v,H,I,r,h⟩ hd
variable{a b:Expr}{ta tb:TE}{pos:Pos}
def PC(X:Cx)(g:CmpOp)(a b:Expr)(t:TE):Z3:=
 ∀(X4:mu (nt×Obj))(s:qb)(σ:St)(H:Hp)(Q:VK),Inv X X4 σ H s->t σ H Q →
  wpAny (model X.prog X.w) X.A (eval a X.env) (λv f=>wpAny (model X.prog X.w) X.A (eval b X.env) (λu c=>wpAny (model X.prog X.w) X.A (compareOp g v u) (EP X X4 σ Q) X.xe c) X.xe f) X.xe s
def CV(b:Expr){a:CmpOp}(h:a≠.In)(h2:a≠.NotIn):behindInMarks a b=Z2:=by
 let c:(a==CmpOp.In)=Z2:=by grind
 let f:(a==CmpOp.NotIn)=Z2:=by grind
 cases b <;> simp[behindInMarks,c,f]
inductive aae(Q:Bool->Hp->Z3)(x:V)(H1:Hp):Z3
 |m c(_:x=.bl c)(_:Q c H1)
def tB(t:TE):TT:=λσ H Q=>t σ H λx H1=>aae Q x H1
def WT{c:CmpOp}{t:TE}(h:PC X c a b t)(h1:behindInMarks c b=Z2:=by first|exact CV _ o6 o6|rfl):PE X (.Compare a [c] [b] pos) t:=λX4 s σ H Q I f=>wpAny_Compare1 (h X4 s σ H Q I f) h1
def Lz{f:CmpOp}{t:TE}(h:PC X f a b t)(h1:behindInMarks f b=Z2:=by first|exact CV _ o6 o6|rfl):PT X (.Compare a [f] [b] pos) (tB t):=by intro X4 s σ H Q I g;refine wpAny_isTrue_Compare1 (thn (h X4 s σ H _ I g) λv s1 h1=>thn h1 λu s2 h2=>thn h2 λ c s3 ⟨x,H1,I1,r1,q1⟩=>?_) h1;let⟨d,rfl,q⟩:=q1;cases r1;exact anu ⟨H1,I1,q⟩
def nC{e:Expr}{t:TE}(h:PE X e t)(he:∀a,isTrue e X.env a =(do let v ←a;standAt e.pos;holding [v] (truthy v)):=by intro _;rfl):PT X e (tB t):=by intro X4 s σ H Q I b;refine isTrue_plain (thn (h X4 s σ H _ I b) λ v s1 ⟨x,H1,I1,r1,q1⟩=>?_)<|he _;let⟨d,rfl,q⟩:=q1;cases r1;exact anu ⟨H1,I1,q⟩
variable{tA tB':TT}{rest:mu Expr}
def ak9(t u:TT):TT:=λσ H Q=>t σ H λc H1=>if c=Z1 then u σ H1 Q else Q Z2 H1
def tOr(t u:TT):TT:=λσ H Q=>t σ H λc H1=>if c=Z1 then Q Z1 H1 else u σ H1 Q
def alJ(t:TT):TT:=λσ H Q=>t σ H λc H1=>Q (!c) H1
def pw_and1(b:PT X a tA):PW X (.BoolOp .And [a] pos) tA:=by
 intro wh X4 s σ H Q I h;refine isTrue_and (thn (b X4 s σ H Q I h) λc s1 e=>?_);cases c with
 |true=>exact isTrue_and_nil e
 |false=>exact e
def pw_or1(b:PT X a tA):PW X (.BoolOp .Or [a] pos) tA:=by
 intro wh X4 s σ H Q I h;refine isTrue_or (thn (b X4 s σ H Q I h) λc s1 e=>?_);cases c with
 |false=>exact isTrue_or_nil e
 |true=>exact e
def pw_and(g:PT X a tA)(f:PW X (.BoolOp .And (b::rest) pos) tB'):PW X (.BoolOp .And (a::b::rest) pos) (ak9 tA tB'):=by
 intro wh X4 s σ H Q I h;refine isTrue_and (thn (g X4 s σ H _ I h) λ c s1 ⟨H1,I1,q1⟩=>?_);cases c with
 |true=>exact f wh X4 s1 σ H1 Q I1 q1
 |false=>exact⟨H1,I1,q1⟩
def pw_or(g:PT X a tA)(f:PW X (.BoolOp .Or (b::rest) pos) tB'):PW X (.BoolOp .Or (a::b::rest) pos) (tOr tA tB'):=by
 intro wh X4 s σ H Q I h;refine isTrue_or (thn (g X4 s σ H _ I h) λ c s1 ⟨H1,I1,q1⟩=>?_);cases c with
 |true=>exact⟨H1,I1,q1⟩
 |false=>exact f wh X4 s1 σ H1 Q I1 q1
def rJ(b:PT X a tA):PT X (.UnaryOp .Not a pos) (alJ tA):=by intro X4 s σ H Q I h;exact isTrue_not<|b X4 s σ H (λc H1=>Q (!c) H1) I h
inductive Hh(tb:TE)(σ:St)(Q:VK)(x:V)(H1:Hp):Z3
 |m c(_:x=.bl c)(_:if c=Z1 then tb σ H1 Q else Q (.bl Z2) H1)
def ajm(ta tb:TE):TE:=λσ H Q=>ta σ H λx H1=>Hh tb σ Q x H1
inductive Ld(tb:TE)(σ:St)(Q:VK)(x:V)(H1:Hp):Z3
 |m c(_:x=.bl c)(_:if c=Z1 then Q (.bl Z1) H1 else tb σ H1 Q)
def akP(ta tb:TE):TE:=λσ H Q=>ta σ H λx H1=>Ld tb σ Q x H1
def wu{op}{t:TE}(h:PE X a t):PE X (.BoolOp op [a] pos) t:=λX4 s σ H Q I b=>BoolOp_one<|h X4 s σ H Q I b
def zB(g:PE X a ta)(f:PE X (.BoolOp .And (b::rest) pos) tb):PE X (.BoolOp .And (a::b::rest) pos) (ajm ta tb):=by
 intro X4 s σ H Q I h;refine BoolOp_and (thn (g X4 s σ H _ I h) λ v s1 ⟨x,H1,I1,r1,q1⟩=>?_);let⟨c,rfl,q1⟩:=q1;cases r1;refine anu ?_;cases c with
 |true=>exact f X4 s1 σ H1 Q I1 q1
 |false=>exact{.bl Z2,H1,I1,J,q1}
def ai7(g:PE X a ta)(f:PE X (.BoolOp .Or (b::rest) pos) tb):PE X (.BoolOp .Or (a::b::rest) pos) (akP ta tb):=by
 intro X4 s σ H Q I h;refine BoolOp_or (thn (g X4 s σ H _ I h) λ v s1 ⟨x,H1,I1,r1,q1⟩=>?_);let⟨c,rfl,q1⟩:=q1;cases r1;refine anu ?_;cases c with
 |false=>exact f X4 s1 σ H1 Q I1 q1
 |true=>exact{.bl Z1,H1,I1,J,q1}
def tIf(t:TT)(ta tb:TE):TE:=λσ H Q=>t σ H λc H1=>if c=Z1 then ta σ H1 Q else tb σ H1 Q
def pH{c:Expr}(g:PT X c tA)(i:PE X a ta)(f:PE X b tb):PE X (.IfExp c a b pos) (tIf tA ta tb):=by
 intro X4 s σ H Q I h;refine wpAny_IfExp (thn (g X4 s σ H _ I h) λ d s1 ⟨H1,I1,q1⟩=>?_);cases d with
 |true=>exact i X4 s1 σ H1 Q I1 q1
 |false=>exact f X4 s1 σ H1 Q I1 q1
end
def X0(K:Frag)(H:Hp)(a:nt)(xs:mu V):Z3:=
 Rd H a (.lst xs)∨
  ∃(o:Obj)(b:q8 nF)(n:Z5),K.lookup a=some o/\o.cls=.type "list"/\o.dict=Z0/\o.data=.seq b n/\b.size≤Z7/\Vals xs b.toList
def X3(K:Frag)(H:Hp)(a:nt)(xs:mu V):Z3:=
 Rd H a (.tup xs)∨
  ∃(o:Obj)(b:q8 nF)(n:Z5),K.lookup a=some o/\o.cls=.type "tuple"/\o.data=.seq b n/\b.size≤Z7/\Vals xs b.toList
def HN:nF->o9 V
 |.none=>some .non
 |.bool b=>some<|.bl b
 |.int i _=>some<|.int i
 |.str x _=>some<|.str x
 |.bytes b _=>some<|.byt b
 |.float b _=>some<|.flt b
 |.ref a=>some<|.ref a
 |.type n=>some<|.ty n
 |_=>Z0
def RelV.abs{x:V}{u:nF}(r:RelV x u):HN u=some x:=by
 cases x with
 |non=>cases r;rfl
 |bl _=>cases r;rfl
 |int _=>let⟨t,rfl⟩:=r;rfl
 |str _=>let⟨t,rfl⟩:=r;rfl
 |byt _=>let⟨t,rfl⟩:=r;rfl
 |flt _=>let⟨t,rfl⟩:=r;rfl
 |ref _=>cases r;rfl
 |ty _=>cases r;rfl
def RelV.inj{x y:V}{u:nF}(r:RelV x u)(q:RelV y u):x=y:=amw<|r.abs.symm.trans q.abs
def Vals.inj:∀{xs ys:mu V}{us:mu nF},Vals xs us->Vals ys us->xs=ys
 |_,_,_,.nil,.nil=>rfl
 |_,_,_,.cons r t,.cons r' t'=>by rw[r.inj r',Vals.inj t t']
section
variable{X:Cx}{X4:mu (nt×Obj)}{σ:St}{H:Hp}{s:qb}{a:nt}{xs ys:mu V}
def X0.of{K:Frag}(h:H a=some (.lst xs)):X0 K H a xs:=.inl<|.inl h
def X3.of{K:Frag}(h:H a=some (.tup xs)):X3 K H a xs:=.inl<|.inl h
def Inv.list(I:Inv X X4 σ H s)(h:X0 X.K H a xs):∃b:mu nF,Vals xs b/\PlainL s.heap a b.toArray/\xs.length≤Z7:=by
 rcases h with h|⟨o,b,n,c,f,hd,hs,g,r⟩
 .let⟨z,b,n,r,e⟩:=h.ok I.hok;exact{b,r,{_,n,e,J,J,J},z}
 .exists b.toList,r,{o,n,I.kIn a o c,f,hd,⇑hs};let e:=r.length;simp only[Array.length_toList] at e;omega
def Inv.tuple(I:Inv X X4 σ H s)(h:X3 X.K H a xs):∃b:mu nF,Vals xs b/\IsTup s.heap a b.toArray/\xs.length≤Z7:=by
 rcases h with h|⟨o,b,n,c,f,hs,g,r⟩
 .let⟨z,b,r,p⟩:=h.ok I.hok;exact⟨b,r,p,z⟩
 .exists b.toList,r,{o,I.kIn a o c,f,n,⇑hs};let e:=r.length;simp only[Array.length_toList] at e;omega
def Inv.MM(I:Inv X X4 σ H s)(h:X0 X.K H a xs)(h':X0 X.K H a ys):xs=ys:=by
 let⟨b,r,⟨o,n,e,_,_,d⟩,_⟩:=I.list h;let⟨its',f,⟨o',n',c,_,_,d'⟩,_⟩:=I.list h';rw[e] at c;cases c;rw[d] at d';injection d' with d1 _
 let:b=its':=by grind
 subst this;exact r.inj f
def Inv.KH(I:Inv X X4 σ H s)(h:X3 X.K H a xs)(h':X3 X.K H a ys):xs=ys:=by
 let⟨b,r,⟨o,e,_,n,d⟩,_⟩:=I.tuple h;let⟨its',f,⟨o',c,_,n',d'⟩,_⟩:=I.tuple h';rw[e] at c;cases c;rw[d] at d';injection d' with d1 _
 let:b=its':=by grind
 subst this;exact r.inj f
end
abbrev Cx.i7(X:Cx)(E:nF->qb->Z3):Cx:={X with xe:=E}
abbrev Cx.nox(X:Cx):Cx:=X.i7 λ_ _=>False
def Cx.Ok.i7{X:Cx}(ok:X.Ok)(E:nF->qb->Z3):(X.i7 E).Ok:=
 ⟨ok.mod,ok.kind,ok.glob,ok.blt,ok.above,ok.inj,ok.has,ok.cab,ok.hd,ok.frames,ok.stk,ok.exf,ok.bs,ok.bsz,ok.wg,ok.ud,ok.kg,ok.frf⟩
def Cx.Ok.pJ{X:Cx}{E:nF->qb->Z3}(ok:(X.i7 E).Ok):X.Ok:=
 ⟨ok.mod,ok.kind,ok.glob,ok.blt,ok.above,ok.inj,ok.has,ok.cab,ok.hd,ok.frames,ok.stk,ok.exf,ok.bs,ok.bsz,ok.wg,ok.ud,ok.kg,ok.frf⟩
section
variable{X:Cx}{X4:mu (nt×Obj)}{σ:St}{H:Hp}{s:qb}{E:nF->qb->Z3}
def Inv.i7(I:Inv X X4 σ H s)(E:nF->qb->Z3):Inv (X.i7 E) X4 σ H s:={I.ok.i7 E,I.os,I.bare,I.base,I.loc,I.cell,I.free,I.gw,I.pin,I.hok,I.len}
def Inv.pJ(I:Inv (X.i7 E) X4 σ H s):Inv X X4 σ H s:=⟨I.ok.pJ,I.os,I.bare,I.base,I.loc,I.cell,I.free,I.gw,I.pin,I.hok,I.len⟩
end
section
variable{X:Cx}{st:Stmt}{rest:mu Stmt}{t u:TS}{e:Expr}{te:TE}{pos:Pos}
def lV:TS:=λD σ H=>D.nx σ H
def Jq(t u:TS):TS:=λD σ H=>t {D with nx:=u D} σ H
def bH:PSs X [] lV:=λ_ _ σ H _ I h=>aog ⟨σ,H,I,h⟩
def aq(h1:PS X st t)(h2:PSs X rest u):PSs X (st::rest) (Jq t u):=by
 intro X4 s σ H D I h;refine wpAny_execs_cons (thn (h1 X4 s σ H {D with nx:=u D} I h) λf s1 q=>?_);cases f with
 |next=>let⟨a,H',b,q⟩:=q;exact h2 X4 s1 a H' D b q
 |ret v=>exact q
 |brk=>exact q
 |cont=>exact q
def ak(h1:PS X st t):PSs X [st] t:=by
 intro X4 s σ H D I h;refine wpAny_execs_cons (thn (h1 X4 s σ H D I h) λf s1 q=>?_);cases f with
 |next=>exact aog q
 |ret v=>exact q
 |brk=>exact q
 |cont=>exact q
def Inv.quiet{X4:mu (nt×Obj)}{σ:St}{H:Hp}{s:qb}(I:Inv X X4 σ H s):interactive X.env=Z2:=by simp[interactive,I.ok.kind]
def ajM(te:TE):TS:=λD σ H=>te σ H λ_ H1=>D.nx σ H1
def bL(he:PE X e te)(hs:swapsWith e Z0 pos.line X.env=pure Z2:=by rfl):PS X (.Expr e pos) (ajM te):=by intro X4 s σ H D I h;exact wpAny_Expr_any (thn (he X4 s σ H _ I h) λ v s1 ⟨x,H1,I1,r1,q1⟩=>⟨σ,H1,I1,q1⟩) I.quiet hs
def akZ(te:TE):TS:=λD σ H=>te σ H D.rt
def aT(he:PE X e te):PS X (.Return (some e) pos) (akZ te):=by intro X4 s σ H D I h;exact wpAny_Return_some (thn (he X4 s σ H _ I h) λ v s1 ⟨x,H1,I1,r1,q1⟩=>⟨x,σ,H1,I1,r1,q1⟩)
def Iw(c:TT)(t u:TS):TS:=λD σ H=>c σ H λb H1=>if b=Z1 then t D σ H1 else u D σ H1
def bU{c:Expr}{a b:mu Stmt}{tc:TT}(g:PT X c tc)(i:PSs X a t)(f:PSs X b u):PS X (.If c a b pos) (Iw tc t u):=by
 intro X4 s σ H D I h;refine wpAny_If (thn (g X4 s σ H _ I h) λ d s1 ⟨H1,I1,q1⟩=>?_);cases d with
 |true=>exact i X4 s1 σ H1 D I1 q1
 |false=>exact f X4 s1 σ H1 D I1 q1
def adI:TS:=λ_ _ _=>False
def ck:PS X st adI:=λ_ _ _ _ _ _ h=>h.elim
end
abbrev TG:=V->St->Hp->(St->Hp->Z3)->Z3
abbrev TGs:=mu V->St->Hp->(St->Hp->Z3)->Z3
def PG(X:Cx)(a:Expr)(t:TG):Z3:=
 ∀(X4:mu (nt×Obj))(s:qb)(σ:St)(H:Hp)(v:V)(u:nF)(Q:St->Hp->Z3),Inv X X4 σ H s->RelV v u->t v σ H Q →
  wpAny (model X.prog X.w) X.A (assign a X.env u) (λ_ s'=>∃b H',Inv X X4 b H' s'/\Q b H') X.xe s
def PGs(X:Cx)(ts:mu Expr)(t:TGs):Z3:=
 ∀(X4:mu (nt×Obj))(s:qb)(σ:St)(H:Hp)(vs:mu V)(us:mu nF)(Q:St->Hp->Z3),Inv X X4 σ H s->Vals vs us->t vs σ H Q →
  wpAny (model X.prog X.w) X.A (assignInOrder ((assignEach ts X.env).map (·.2)) us) (λ_ s'=>∃a H',Inv X X4 a H' s'/\Q a H') X.xe s
abbrev Nj:=V->V->V->Hp->(Hp->Z3)->Z3
def WQ(X:Cx)(t:Nj):Z3:=
 ∀(X4:mu (nt×Obj))(s:qb)(σ:St)(H:Hp)(o i v:V)(a b u:nF)(Q:Hp->Z3),Inv X X4 σ H s->RelV o a->RelV i b->RelV v u->t o i v H Q →
  wpAny (model X.prog X.w) X.A (setItem a b u) (λ_ s'=>∃H',Inv X X4 σ H' s'/\Q H') X.xe s
section
variable{X:Cx}{pos:Pos}
def tN(i:Z5):TG:=λv σ H Q=>Q (σ.set i<|some v) H
def U3{i:Z5}{x:Z6}(f:X.N.Nodup)(hi:X.N[i]?=some x)(a:Loc X.env.scope x)(c:X.fn x=Z1∨X.env.scope.names.lookup x=some .local:=by first|exact .inl rfl|exact .inr rfl|assumption):PG X (.Name x pos) (tN i):=by intro X4 s σ H v u Q I r h;exact wpAny_assign_Name<|tM I f hi a r (λs' b=>{_,H,b,h}) c
def akr:TGs:=λvs σ H Q=>vs=[]/\Q σ H
inductive SW(t:TG)(u:TGs)(vs:mu V)(σ:St)(H:Hp)(Q:St->Hp->Z3):Z3
 |m v r(_:vs=v::r)(_:t v σ H λσ' H'=>u r σ' H' Q)
def mY:PGs X [] akr:=by intro X4 s σ H vs us Q I r h;let⟨e,h⟩:=h;subst e;cases r;exact assignInOrder_nil ⟨σ,H,I,h⟩
def dS{e:Expr}{es:mu Expr}{t:TG}{u:TGs}(h1:PG X e t)(h2:PGs X es u)(hs:(assignEach (e::es) X.env).map (·.2)=assign e X.env ::(assignEach es X.env).map (·.2):=by rfl):PGs X (e::es) (SW t u):=by
 intro X4 s σ H vs us Q I r h;let⟨v,f,b,h⟩:=h;subst b;cases r with
 |cons r c=>rw[hs];refine assignInOrder_cons (thn (h1 X4 s σ H _ _ _ I r h) λ _ s1 ⟨a,H1,I1,q1⟩=>?_);exact h2 X4 s1 a H1 _ _ Q I1 c q1
inductive Np(K:Frag)(n:Z5)(t:TGs)(v:V)(σ:St)(H:Hp)(Q:St->Hp->Z3):Z3
 |m a xs(_:v=.ref a)(_:X3 K H a xs)(_:xs.length=n)(_:t xs σ H Q)
def su{es:mu Expr}{k:Z5}{t:TGs}{n:Z5}(l:X.calm=Z1)(h:PGs X es t)(y:(assignEach es X.env).length=n:=by rfl)(c:(assignEach es X.env).findIdx? (·.1)=Z0:=by rfl):PG X (.Tuple es k pos) (Np X.K n t):=by
 intro X4 s σ H v u Q I r f;let⟨a,xs,m,j,q,f⟩:=f;subst m;cases r;let⟨x,g,z,A⟩:=I.tuple j;refine assign_Tuple_tuple (I.ok.hd l) z (by simp[y,←q,g.length]) c λh' i=>?_
 let p:Inv X X4 σ H {s with heap:=h'}:=I.kept (t':=s.toks) λb o e=>i b o (amu<|amb e) e
 exact h X4 _ σ H xs _ Q p (⇑g) f
def akw(to b:TE)(t:Nj):TG:=λv σ H Q=>to σ H λo H1=>b σ H1 λi H2=>t o i v H2 λa=>Q σ a
def DU{o i:Expr}{to c:TE}{t:Nj}(f:PE X o to)(hi:PE X i c)(hs:WQ X t)(j:∀v,assign (.Subscript o i pos) X.env v =(do
   let a ←holding [v] (eval o X.env);let b ←holding [v,a] (eval i X.env)
   standAt pos
   holding [v,a,b] (setItem a b v)
   release [v,a,b] []):=by intro _;rfl):PG X (.Subscript o i pos) (akw to c t):=by
 intro X4 s σ H v u Q I r h;rw[j];refine al6<|am3 (thn (f X4 s σ H _ I h) λ a s1 ⟨x,H1,I1,r1,q1⟩=>?_);refine al6<|am3 (thn (hi X4 s1 σ H1 _ I1 q1) λ b s2 ⟨y,H2,I2,r2,q2⟩=>?_);refine al6<|aoD<|al6<|am3 (thn (hs X4 s2 σ H2 x y v a b u _ I2 r1 r2 r q2) λ _ s3 ⟨g,I3,q3⟩=>?_);exact wpAny_release ⟨σ,g,I3,q3⟩
def HW(te:TE)(g:TG):TS:=λD σ H=>te σ H λx H1=>g x σ H1 D.nx
def DV{tg e:Expr}{te:TE}{g:TG}(he:PE X e te)(b:PG X tg g)(hs:swapsWithSole [tg] e pos.line X.env=pure Z2:=by rfl)(a:swappedStores [tg] e X.env=pure Z0:=by rfl)(h1:(assignEach [tg] X.env).map (·.2)=[assign tg X.env]:=by rfl):PS X (.Assign [tg] e pos) (HW te g):=by intro X4 s σ H D I h;refine wpAny_Assign_stores (thn (he X4 s σ H _ I h) λ v s1 ⟨x,H1,I1,r1,q1⟩=>?_) hs a;rw[h1];exact thn (b X4 s1 σ H1 x v _ I1 r1 q1) λ_ s2 q=>q
def Ws{i:Z5}{x:Z6}{e:Expr}{te:TE}{pos':Pos}(c:X.N.Nodup)(hi:X.N[i]?=some x)(a:Loc X.env.scope x)(he:PE X e te)(hs:swapsWith e (some (.Name x pos')) pos.line X.env=pure Z2:=by rfl)(f:X.fn x=Z1∨X.env.scope.names.lookup x=some .local:=by first|exact .inl rfl|exact .inr rfl|assumption) :
  PS X (.Assign [.Name x pos'] e pos) (HW te (tN i)):=by
 intro X4 s σ H D I h;refine wpAny_Assign_Name (thn (he X4 s σ H _ I h) λ v s1 ⟨y,H1,I1,r1,q1⟩=>?_) hs;exact tM I1 c hi a r1 (λs2 b=>{_,H1,b,q1}) f
end
section
variable{X:Cx}{pos:Pos}
inductive JY(c:TT)(tb:TS)(D:Ends)(σ:St)(H:Hp):Z3
 |m (W:Z5->St->Hp->Z3)(_:∃m,W m σ H)(_:∀m σ H,W m σ H->c σ H λb H1=>if b=Z1 then ∃N:St->Hp->Z3,(∀σ' H',N σ' H'->∃m',m'<m/\W m' σ' H')/\tb {D with nx:=N,ct:=N,bk:=D.nx} σ H1 else D.nx σ H1)
def Nn{c:Expr}{i:mu Stmt}{tc:TT}{tb:TS}(y:PassesOwn (model X.prog X.w) X.A X.env X.xe)(C:PT X c tc)(B:PSs X i tb):PS X (.While c i [] pos) (JY tc tb):=by
 intro X4 s σ H D I h;let⟨W,⟨S,L⟩,j⟩:=h;refine wpAny_While<|codeAny_whileLoop (λn s'=>∃m H',Inv X X4 m H' s'/\W n m H') ?_ S ⟨σ,H,I,L⟩;rintro n s1 ⟨g,H1,O,F⟩;refine anF y (thn (C X4 s1 g H1 _ O<|j n g H1 F) λ b s2 ⟨H2,I2,o⟩=>?_);cases b with
 |true=>
  let⟨N,z,o⟩:=o;rw[ama rfl];refine anF y (thn (B X4 s2 g H2 _ I2 o) λf s3 p=>?_);cases f with
  |next=>let⟨a,l,u,q⟩:=p;let⟨r,x,t⟩:=z a l q;exact⟨r,x,a,l,u,t⟩
  |cont=>let⟨a,l,u,q⟩:=p;let⟨r,x,t⟩:=z a l q;exact⟨r,x,a,l,u,t⟩
  |brk=>exact p
  |ret v=>exact p
 |false=>rw[al8 amn];exact aog ⟨g,H2,I2,o⟩
end
structure It where
 go:Z5->Hp->Z3
 yld:Z5->Hp->V->Hp->Z3
 stop:Z5->Hp->Z3
def dU(X:Cx)(X4:mu (nt×Obj))(H:Hp)(b:nt):Z3:=
 H b=Z0/\b≠X.env.locals/\b∉X.fs/\(b∈X.ex∨X.s₀.heap.objs.size≤b)/\(∀x c,X.env.cells.lookup x=some c->c≠b)/\∀ p∈X.pn++X4,p.1≠b
def Inv.m7{X:Cx}{X4:mu (nt×Obj)}{σ:St}{H H':Hp}{s:qb}{b:nt}(I:Inv X X4 σ H s)(a:( ~~~s)≤b)(f:H' b=Z0):dU X X4 H' b:=by
 refine{f,anK<|amv I.lt a,I.akx a,.inr<|amo I.sz a,λx c e z=>?_,λp g z=>?_}
 .let⟨v,q⟩:=I.cell x c e;exact absurd (amv q.lt (by rwa[z]))<|anf _
 .exact absurd (amv (amb (I.pin p g).1) (by rwa[z])) (anf _)
structure Turn(P:q9)(w:wo)(K:Frag)(tg:Expr)(b4:It)(fp:mu nt)(it:nt)(tn:Z5->Heap->Z3):Z3 where
 mem:it∈fp
 obj:∀i h,tn i h->∀ b∈fp,∃o,h.get? b=some o/\∀v,o.data≠.cell v
 keep:∀i h h',tn i h->(∀ b∈fp,∀o,h.get? b=some o->h'.get? b=some o)->tn i h'
 item:∀(X:Cx),X.prog=P->X.w=w->X.K=K->X.calm=Z1->∀(i:Z5)(X4:mu (nt×Obj))(s:qb)(σ:St)(H:Hp)(E:nF->qb->Z3),Inv X X4 σ H s->(∀ b∈fp,dU X X4 H b)->tn i s.heap->b4.go i H →
  wpAny (model P w) X.A (pyNext (.ref it)) (λr s1=>∃u,r=some u∧
   wpAny (model P w) X.A (letOwnedTupleGo tg (.ref it) u) (λ_ s2=>∃x H',Inv X X4 σ H' s2/\RelV x u/\b4.yld i H x H'/\tn (i+1) s2.heap/\∀ b∈fp,H' b=Z0) E s1) E s
 done:∀(X:Cx),X.prog=P->X.w=w->X.K=K->X.calm=Z1->∀(i:Z5)(X4:mu (nt×Obj))(s:qb)(σ:St)(H:Hp)(E:nF->qb->Z3),Inv X X4 σ H s->(∀ b∈fp,dU X X4 H b)->tn i s.heap->b4.stop i H →
  wpAny (model P w) X.A (pyNext (.ref it)) (λr s1=>r=Z0/\Inv X X4 σ H s1) E s
 self:∀(A:Around)(i:Z5)(s:qb)(Q:nF->qb->Z3)(E:nF->qb->Z3),tn i s.heap->Q (.ref it) s->wpAny (model P w) A (pyIter (.ref it)) Q E s
abbrev TI:=St->Hp->(It->Hp->Z3)->Z3
def PIE(X:Cx)(X4:mu (nt×Obj))(σ:St)(tg:Expr)(R:It->Hp->Z3)(a:nF)(s2:qb):Z3:=
 ∃(it:nt)(fp:mu nt)(c:Z5->Heap->Z3)(b4:It)(H':Hp),a=.ref it/\Inv X X4 σ H' s2/\Turn X.prog X.w X.K tg b4 fp it c/\c 0 s2.heap/\(∀ b∈fp,dU X X4 H' b)/\R b4 H'
def PI(X:Cx)(tg iter:Expr)(wi:TI):Z3:=
 ∀(X4:mu (nt×Obj))(s:qb)(σ:St)(H:Hp)(R:It->Hp->Z3),Inv X X4 σ H s->wi σ H R →
  wpAny (model X.prog X.w) X.A (eval iter X.env) (λv s1=>wpAny (model X.prog X.w) X.A (pyIter v) (PIE X X4 σ tg R) X.xe s1) X.xe s
def wV{M:Model}{A:Around}{E:nF->qb->Z3}{s:qb}{tg:Expr}{it:nt}{u:nF}{o:Obj}{n:String}{vs:q8 nF}{Q:Unit->qb->Z3}(c:s.heap.get? it=some o)(b:o.cls=.type n)(hd:o.data=.fields vs)(f:["enumerate","zip","dict_itemiterator","dict_reverseitemiterator","odict_iterator","itertools.zip_longest","itertools.pairwise"].contains n=Z2)(a:Q () s):wpAny M A (letOwnedTupleGo tg (.ref it) u) Q E s:=by
 unfold letOwnedTupleGo;cases tg <;> first
  |exact al9 a
  |(cases u <;> first
    |exact al9 a
    |(refine al6 (wpAny_load c ?_)
      rw[b,hd];show wpAny M A (if (["enumerate","zip","dict_itemiterator","dict_reverseitemiterator","odict_iterator","itertools.zip_longest","itertools.pairwise"].contains n&&vs[0]? == some (rawInt _))=Z1 then _ else _) Q E s;rw[al8 (by grind)];exact al9 a))
def Itl(K:Frag)(a:nt):It:=
 {λi H=>∃xs x,X0 K H a xs/\xs[i]?=some x,λi H x H'=>H'=H/\∀xs,X0 K H a xs->xs[i]?=some x,λi H=>∃xs,X0 K H a xs/\xs.length≤i}
def Itt(K:Frag)(a:nt):It:=
 {λi H=>∃xs x,X3 K H a xs/\xs[i]?=some x,λi H x H'=>H'=H/\∀xs,X3 K H a xs->xs[i]?=some x,λi H=>∃xs,X3 K H a xs/\xs.length≤i}
def Itr(lo:Z4)(n:Z5):It:={λi _=>i<n,λi H x H'=>H'=H/\x=.int (lo+i),λi _=>n≤i}
def KD{P:q9}{w:wo}{K:Frag}{tg:Expr}(a it:nt):Turn P w K tg (Itl K a) [it] it (λi h=>h.IsListIter it a i) where
 mem:=by simp
 obj:=λi h st b f=>by
  let e:b=it:=⇑f
  subst e;let⟨o,e,c,d⟩:=st;exact{o,e,λv z=>by rw[d] at z;cases z}
 keep:=λi h h' st k=>st.at λo e=>k it o7 o e
 item:=by
  intro X n B t L i X4 s σ H E I l st y;subst n B t;let⟨xs,x,j,r⟩:=y;let⟨q,C,p,hz⟩:=I.list j;let⟨u,O,U⟩:=C.get r;let⟨f0,f1,f2,A,m,F⟩:=l it o7;refine wpAny_pyNext_list_item st p.isList (x:=u) (⇑O) λh' g S=>?_
  let I1:Inv X X4 σ H {s with heap:=h'}:=I.turned (t':=s.toks) (λb o f e=>(S.2 b f).trans e) f0 f1 A m F;let⟨o,e,c,d⟩:=id g;exact{u,J,wV (s:={s with heap:=h'}) e c d o6 {x,H,I1,U,{J,λys Y=>by rwa[I.MM Y j]},g,λb f=>(l b f).1}}
 done:=by intro X n B t L i X4 s σ H E I l st y;subst n B t;let⟨xs,j,r⟩:=y;let⟨q,C,p,hz⟩:=I.list j;let⟨f0,f1,f2,A,m,F⟩:=l it o7;let hl:=C.length;exact wpAny_pyNext_list_end (I.ok.hd L) st p.isList (by simp;omega) λh' eb=>{J,I.turned (t':=s.toks) (λb o f e=>eb b o f e) f0 f1 A m F}
 self:=λ_ _ _ _ _ st h=>wpAny_pyIter_listiter st h
def HC{P:q9}{w:wo}{K:Frag}{tg:Expr}(a it:nt):Turn P w K tg (Itt K a) [it] it (λi h=>h.IsTupleIter it a i) where
 mem:=by simp
 obj:=λi h st b f=>by
  let e:b=it:=⇑f
  subst e;let⟨o,e,c,d⟩:=st;exact{o,e,λv z=>by rw[d] at z;cases z}
 keep:=λi h h' st k=>st.at λo e=>k it o7 o e
 item:=by
  intro X q B t L i X4 s σ H E I m st y;subst q B t;let⟨xs,x,l,r⟩:=y;let⟨g,C,p,hz⟩:=I.tuple l;let⟨u,O,U⟩:=C.get r;let⟨f0,f1,f2,A,n,F⟩:=m it o7;refine wpAny_pyNext_tuple_item st (show s.heap.IsTuple a g.toArray from p) (x:=u) (⇑O) λh' j S=>?_
  let I1:Inv X X4 σ H {s with heap:=h'}:=I.turned (t':=s.toks) (λb o f e=>(S.2 b f).trans e) f0 f1 A n F;let⟨o,e,c,d⟩:=id j;exact{u,J,wV (s:={s with heap:=h'}) e c d o6 {x,H,I1,U,{J,λys Y=>by rwa[I.KH Y l]},j,λb f=>(m b f).1}}
 done:=by intro X q B t L i X4 s σ H E I m st y;subst q B t;let⟨xs,l,r⟩:=y;let⟨g,C,p,hz⟩:=I.tuple l;let⟨f0,f1,f2,A,n,F⟩:=m it o7;let hl:=C.length;exact wpAny_pyNext_tuple_end (I.ok.hd L) st (show s.heap.IsTuple a g.toArray from p) (by simp;omega) λh' eb=>{J,I.turned (t':=s.toks) (λb o f e=>eb b o f e) f0 f1 A n F}
 self:=λ_ _ _ _ _ st h=>wpAny_pyIter_tupleiter st h
def HL{P:q9}{w:wo}{K:Frag}{tg:Expr}(it:nt)(lo:Z4)(n:Z5):Turn P w K tg (Itr lo n) [it] it (λi h=>IsRangeIter h it (lo +(i:Z5)*1) (↥n -(i:Z5)) 1) where
 mem:=by simp
 obj:=λi h st b a=>by
  let e:b=it:=⇑a
  subst e;exact⟨_,st,λv z=>by let A:Data.fields _=Data.cell v:=z;cases A⟩
 keep:=λi h h' st k=>k it o7 _ st
 item:=by
  intro X l q u j i X4 s σ H E I f st m;subst l q u;let⟨f0,f1,f2,r,g,p⟩:=f it o7;let W:=Walks.range (prog:=X.prog) (w:=X.w) (I.ok.hd j) it lo 1 n;refine W.item i s _ _ m st λv h' x C c F=>?_
  let⟨t,rfl⟩:=C;let B:Inv X X4 σ H {s with heap:=h',toks:=x}:=I.turned (λb o a e=>F b o (⇑a) e) f0 f1 r g p;refine{1,wV (s:={s with heap:=h',toks:=x}) (n:="range_iterator") c J J o6 {.int (lo+i),H,B,{t,?_},⟨J,J⟩,c,λb a=>(f b a).1}};rw[Int.mul_one]
 done:=by intro X l q u j i X4 s σ H E I f st m;subst l q u;let⟨f0,f1,f2,r,g,p⟩:=f it o7;exact wpAny_pyNext_range_end (I.ok.hd j) st (by let:n≤i:=m;omega) λh' y=>{J,I.turned (t':=s.toks) (λb o a e=>y b o a e) f0 f1 r g p}
 self:=λ_ _ _ _ _ st h=>wpAny_pyIter_rangeiter st h
section
variable{X:Cx}{tg:Expr}
inductive GZ(K:Frag)(R:It->Hp->Z3)(x:V)(H1:Hp):Z3
 |m a(_:x=.ref a)(_:∃xs,X0 K H1 a xs)(_:R (Itl K a) H1)
def aj2(K:Frag)(tl:TE):TI:=λσ H R=>tl σ H λx H1=>GZ K R x H1
inductive Jv(K:Frag)(R:It->Hp->Z3)(x:V)(H1:Hp):Z3
 |m a(_:x=.ref a)(_:∃xs,X3 K H1 a xs)(_:R (Itt K a) H1)
def alT(K:Frag)(tl:TE):TI:=λσ H R=>tl σ H λx H1=>Jv K R x H1
def dI{l:Expr}{tl:TE}(g:PE X l tl):PI X tg l (aj2 X.K tl):=by
 intro X4 s σ H R I h;refine thn (g X4 s σ H _ I h) λ v s1 ⟨x,H1,I1,r1,q1⟩=>?_
 let⟨a,e,⟨xs,f⟩,q⟩:=q1;subst e;cases r1;let⟨i,m,p,j⟩:=I1.list f;refine an2 p.isList ?_;refine{(~~~s1),[~~~s1],_,_,H1,J,I1.kept (t':=s1.toks) λb o e=>al7 _ e,KD a _,{_,amh _ J,J,J},λb c=>?_,q};let e:b=( ~~~s1):=⇑c
 subst e;exact I1.m7 (amd _)<|I1.hok.fresh<|amd _
def En{l:Expr}{tl:TE}(i:PE X l tl):PI X tg l (alT X.K tl):=by
 intro X4 s σ H R I h;refine thn (i X4 s σ H _ I h) λ v s1 ⟨x,H1,I1,r1,q1⟩=>?_
 let⟨a,e,⟨xs,g⟩,q⟩:=q1;subst e;cases r1;let⟨c,m,p,j⟩:=I1.tuple g;refine wpAny_pyIter_tuple (show s1.heap.IsTuple a c.toArray from p) ?_;refine{(~~~s1),[~~~s1],_,_,H1,J,I1.kept (t':=s1.toks) λb o e=>al7 _ e,HC a _,{_,amh _ J,J,J},λb f=>?_,q};let e:b=( ~~~s1):=⇑f
 subst e;exact I1.m7 (amd _)<|I1.hok.fresh<|amd _
def yG{X4:mu (nt×Obj)}{σ:St}{H:Hp}{s:qb}{R:It->Hp->Z3}{E:nF->qb->Z3}{lo hi:Z4}{t u v:Tok}{c:Z5}(I:Inv X X4 σ H s)(h1:-(2 ^ 62)≤lo)(h2:lo<2 ^ 62)(h3:-(2 ^ 62)≤hi)(h4:hi<2 ^ 62)(q:R (Itr lo (hi-lo).toNat) H):wpAny (model X.prog X.w) X.A (pyIter (.ref (~~~s))) (PIE X X4 σ tg R) E {s with heap:=s.heap.push {.type "range",Z0,.fields #[.int lo t,.int hi u,.int 1 v],#[]},toks:=c}:=by
 refine wpAny_pyIter_range (IsRange.new ..) (small_one h1 h2 h3 h4) ?_;let a:Inv X X4 σ H {s with heap:=s.heap.push {.type "range",Z0,.fields #[.int lo t,.int hi u,.int 1 v],#[]},toks:=c}:=I.kept λb o e=>al7 _ e
 refine⟨(s.heap.push {.type "range",Z0,.fields #[.int lo t,.int hi u,.int 1 v],#[]}).objs.size,[(s.heap.push {.type "range",Z0,.fields #[.int lo t,.int hi u,.int 1 v],#[]}).objs.size],_,_,H,J,
  a.kept (t':=c) λb o e=>al7 _ e,HL _ lo (hi-lo).toNat,?_,λb f=>?_,q⟩
 .let h:lo +((0:Z5):Z4)*1=lo:=by simp
  let g:(((hi-lo).toNat:Z5):Z4) -((0:Z5):Z4)=Builtin.Range.rangeSize lo hi 1:=by rw[rangeSize_one];split <;> omega
  show IsRangeIter _ _ (lo +((0:Z5):Z4)*1) ((((hi-lo).toNat:Z5):Z4) -((0:Z5):Z4)) 1;rw[h,g];exact amh _ J
 .let e:b =(s.heap.push {.type "range",Z0,.fields #[.int lo t,.int hi u,.int 1 v],#[]}).objs.size:=⇑f
  subst e;exact a.m7 (amd _)<|a.hok.fresh<|amd _
inductive Gx(R:It->Hp->Z3)(vs:mu V)(H1:Hp):Z3
 |m (j:Z4)(_:vs=[.int j])(_:-(2 ^ 62)≤j)(_:j<2 ^ 62)(_:R (Itr 0 j.toNat) H1)
def ahz(ta:TA):TI:=λσ H R=>ta σ H λvs H1=>Gx R vs H1
inductive Hi(R:It->Hp->Z3)(vs:mu V)(H1:Hp):Z3
 |m (i j:Z4)(_:vs=[.int i,.int j])(_:-(2 ^ 62)≤i/\i<2 ^ 62/\-(2 ^ 62)≤j/\j<2 ^ 62)(_:R (Itr i (j-i).toNat) H1)
def akk(ta:TA):TI:=λσ H R=>ta σ H λvs H1=>Hi R vs H1
def K6{a:Expr}{ta:TA}{p pos:Pos}(c:Gl X "range")(f:X.mg "range" = Z0)(i:PA X [a] ta)(hs:starEach [a] X.env=[(Z2,eval a X.env)]:=by rfl):PI X tg (.Call (.Name "range" p) [a] [] pos) (ahz ta):=by
 intro X4 s σ H R I h;refine Call_<|jK I c f boot_range<|am0 (thn (i pos X4 s σ H _ I h) λ us s1 ⟨vs,H1,I1,r1,q1⟩=>?_) hs J;let⟨j,e,q1,g,q⟩:=q1;subst e;cases r1 with
 |cons r b=>cases b;let⟨t,rfl⟩:=r;exact call_range_1<|yG I1 o5 o5 q1 g (⇑q)
def JF{a b:Expr}{ta:TA}{p pos:Pos}(l:Gl X "range")(m:X.mg "range" = Z0)(v:PA X [a,b] ta)(hs:starEach [a,b] X.env=[(Z2,eval a X.env),(Z2,eval b X.env)]:=by rfl)(c:starEach [b] X.env=[(Z2,eval b X.env)]:=by rfl) :
  PI X tg (.Call (.Name "range" p) [a,b] [] pos) (akk ta):=by
 intro X4 s σ H R I h;refine Call_<|jK I l m boot_range<|am0 (thn (v pos X4 s σ H _ I h) λ us s1 ⟨vs,H1,I1,r1,q1⟩=>?_) (by rw[hs,c]) (by rw[c];rfl);let⟨i,j,e,⟨q1,o,g,n⟩,q⟩:=q1;subst e;cases r1 with
 |cons r f=>
  cases f with
  |cons u f=>cases f;let⟨t,rfl⟩:=r;let⟨t',rfl⟩:=u;exact call_range_2<|yG I1 q1 o g n q
def alg(wi:TI)(g:TG)(tb:TS):TS:=λD σ H=>wi σ H λb4 H1=>∃W:Z5->Z5->St->Hp->Z3,(∃m,W 0 m σ H1)/\∀i m σ H,W i m σ H →
 (b4.stop i H/\D.nx σ H)∨(b4.go i H/\∃N:St->Hp->Z3,(∀a H',N a H'->∃c,c<m/\W (i+1) c a H')/\∀x H',b4.yld i H x H'->g x σ H' λb H2=>tb {D with nx:=N,ct:=N,bk:=D.nx} b H2)
def sq(fp:mu nt)(h:Heap):mu (nt×Obj):=fp.filterMap λb=>(h.get? b).map λo=>(b,o)
def jv{fp:mu nt}{h:Heap}{b:nt}{o:Obj}(a:b∈fp)(e:h.get? b=some o):(b,o)∈sq fp h:=aqn.mpr {b,a,by rw[e];rfl}
def Lg{fp:mu nt}{h:Heap}{p:nt×Obj}(f:p∈sq fp h):p.1∈fp/\h.get? p.1=some p.2:=by
 let⟨b,a,e⟩:=aqn.mp f;cases q:h.get? b with
 |none=>rw[q] at e;cases e
 |some o=>rw[q] at e;let c:(b,o)=p:=amw e;subst c;exact⟨a,q⟩
def Inv.pinned{X4:mu (nt×Obj)}{σ:St}{H:Hp}{s:qb}{fp:mu nt}(I:Inv X X4 σ H s)(f:∀ b∈fp,dU X X4 H b)(h:∀ b∈fp,∃o,s.heap.get? b=some o/\∀v,o.data≠.cell v):Inv X (X4++sq fp s.heap) σ H s:=
 I.GC λp g=>(amy.mp g).elim (λz=>I.pin p<|amm _ z) λz=>by let⟨a,e⟩:=Lg z;let⟨f0,f1,f2,_⟩:=f p.1 a;let⟨o,c,d⟩:=h p.1 a;rw[e] at c;cases c;exact⟨e,f0,f1,f2,d⟩
def Inv.pP{X4 pl:mu (nt×Obj)}{σ:St}{H:Hp}{s:qb}(I:Inv X (X4++pl) σ H s):Inv X X4 σ H s:=I.GC λp a=>I.pin p<|amm _<|amY _ a
def gp{iter:Expr}{z:mu Stmt}{wi:TI}{g:TG}{tb:TS}{pos:Pos}(S:PassesOwn (model X.prog X.w) X.A X.env X.xe)(hc:X.calm=Z1)(hi:PI X tg iter wi)(hg:PG X tg g)(c:PSs X z tb)(hs:∀x,foldedSetIterable iter X.env x=pure x:=by intro _;rfl):PS X (.For tg iter z [] pos) (alg wi g tb):=by
 intro X4 s σ H D I h;refine wpAny_For (thn (hi X4 s σ H _ I h) λv s1 h1=>thn h1 λa3 s2 h2=>?_) hs;let⟨it,fp,tn,b4,H2,e,I2,T,a0,f2,W,⟨m0,w0⟩,O⟩:=h2;subst e;let p:∀{H':Hp},(∀ b∈fp,H' b=Z0)->∀ b∈fp,dU X X4 H' b:=λhn b c=>{hn b c,(f2 b c).2}
 refine codeAny_forLoop_any (λn s'=>∃i t H',Inv X X4 t H' s'/\tn i s'.heap/\(∀ b∈fp,H' b=Z0)/\W i n t H') ?_ m0 {(0),σ,H2,I2,a0,λb c=>(f2 b c).1,w0};rintro n s3 ⟨i,j,U,I3,B,F,w3⟩;rcases O i n j U w3 with⟨L,qn⟩|⟨go,N,hN,step⟩
 .refine anF S (thn (T.done X J J J hc i X4 s3 j U X.xe I3 (p F) B L) λ r s4 ⟨Y,I4⟩=>?_);subst Y;exact aog ⟨j,U,I4,qn⟩
 .refine anF S (thn (T.item X J J J hc i X4 s3 j U X.xe I3 (p F) B go) λ r s4 ⟨u,Y,h4⟩=>?_);subst Y;refine anF S (thn h4 λ _ s5 ⟨x,H5,I5,r5,y5,st5,fr5⟩=>?_);let a2:=I5.pinned (p fr5)<|T.obj _ _ st5;refine anF S (thn (hg _ s5 j H5 x u _ a2 r5<|step x H5 y5) λ _ s6 ⟨a1,H6,I6,q6⟩=>?_);refine anF S (thn (c _ s6 a1 H6 _ I6 q6) λf s7 y=>?_);let again:∀{a:St}{l:Hp},Inv X (X4++sq fp s5.heap) a l s7->N a l->∃m,m<n/\∃i t H',Inv X X4 t H' s7/\tn i s7.heap/\(∀ b∈fp,H' b=Z0)/\W i m t H':=λ{a l}q C=>by let⟨m',hm,w7⟩:=hN a l C;refine{m',hm,i+1,a,l,q.pP,T.keep _ _ _ st5 λb c o e=>(q.pin (b,o)<|amm _<|amm _<|jv c e).1,λb c=>?_,w7};let⟨o,e,d⟩:=T.obj _ _ st5 b c;exact(q.pin (b,o)<|amm _<|amm _<|jv c e).2.1
  cases f with
  |next=>let⟨a,l,q,C⟩:=y;exact again q C
  |cont=>let⟨a,l,q,C⟩:=y;exact again q C
  |brk=>let⟨a,l,q,y⟩:=y;exact⟨a,l,q.pP,y⟩
  |ret v=>let⟨x7,a,l,q,r7,y⟩:=y;exact⟨x7,a,l,q.pP,r7,y⟩
end
def fE{K:Frag}{a:nt}{xs:mu V}{g:TG}{tb:TS}{D:Ends}{σ:St}{H:Hp}(b:Z5->St->Hp->Z3)(h0:b 0 σ H)(l:∀i σ H,i≤xs.length->b i σ H->X0 K H a xs)(hs:∀i x σ H,xs[i]?=some x->b i σ H->g x σ H λc H2=>tb {D with nx:=b (i+1),ct:=b (i+1),bk:=D.nx} c H2)(hd:∀σ H,b xs.length σ H->D.nx σ H) :
  ∃W:Z5->Z5->St->Hp->Z3,(∃m,W 0 m σ H)/\∀i m σ H,W i m σ H →
   ((Itl K a).stop i H/\D.nx σ H)∨((Itl K a).go i H/\∃N:St->Hp->Z3,(∀f H',N f H'->∃j,j<m/\W (i+1) j f H')/\∀x H',(Itl K a).yld i H x H'->g x σ H' λc H2=>tb {D with nx:=N,ct:=N,bk:=D.nx} c H2):=by
 exists λi m σ H=>m=xs.length-i/\i≤xs.length/\b i σ H,{xs.length,o7,amE _,h0};rintro i m σ H ⟨rfl,hi,p⟩;let q:=l i σ H hi p;by_cases h:i<xs.length
 .refine .inr {{xs,xs[i],q,by simp[h]},b (i+1),λf H' n=>{xs.length -(i+1),o5,J,h,n},λx H' y=>?_};let⟨e,y⟩:=y;subst e;exact hs i x σ _ (y xs q) p
 .let e:i=xs.length:=by omega
  subst e;exact .inl {{xs,q,amd _},hd σ H p}
def Ve{K:Frag}{a:nt}{xs:mu V}{g:TG}{tb:TS}{D:Ends}{σ:St}{H:Hp}(b:Z5->St->Hp->Z3)(h0:b 0 σ H)(l:∀i σ H,i≤xs.length->b i σ H->X3 K H a xs)(hs:∀i x σ H,xs[i]?=some x->b i σ H->g x σ H λc H2=>tb {D with nx:=b (i+1),ct:=b (i+1),bk:=D.nx} c H2)(hd:∀σ H,b xs.length σ H->D.nx σ H) :
  ∃W:Z5->Z5->St->Hp->Z3,(∃m,W 0 m σ H)/\∀i m σ H,W i m σ H →
   ((Itt K a).stop i H/\D.nx σ H)∨((Itt K a).go i H/\∃N:St->Hp->Z3,(∀f H',N f H'->∃j,j<m/\W (i+1) j f H')/\∀x H',(Itt K a).yld i H x H'->g x σ H' λc H2=>tb {D with nx:=N,ct:=N,bk:=D.nx} c H2):=by
 exists λi m σ H=>m=xs.length-i/\i≤xs.length/\b i σ H,{xs.length,o7,amE _,h0};rintro i m σ H ⟨rfl,hi,p⟩;let q:=l i σ H hi p;by_cases h:i<xs.length
 .refine .inr {{xs,xs[i],q,by simp[h]},b (i+1),λf H' n=>{xs.length -(i+1),o5,J,h,n},λx H' y=>?_};let⟨e,y⟩:=y;subst e;exact hs i x σ _ (y xs q) p
 .let e:i=xs.length:=by omega
  subst e;exact .inl {{xs,q,amd _},hd σ H p}
def vV{lo:Z4}{n:Z5}{g:TG}{tb:TS}{D:Ends}{σ:St}{H:Hp}(b:Z5->St->Hp->Z3)(h0:b 0 σ H)(hs:∀i σ H,i<n->b i σ H->g (.int (lo+i)) σ H λa H2=>tb {D with nx:=b (i+1),ct:=b (i+1),bk:=D.nx} a H2)(hd:∀σ H,b n σ H->D.nx σ H) :
  ∃W:Z5->Z5->St->Hp->Z3,(∃m,W 0 m σ H)/\∀i m σ H,W i m σ H →
   ((Itr lo n).stop i H/\D.nx σ H)∨((Itr lo n).go i H/\∃N:St->Hp->Z3,(∀f H',N f H'->∃h,h<m/\W (i+1) h f H')/\∀x H',(Itr lo n).yld i H x H'->g x σ H' λa H2=>tb {D with nx:=N,ct:=N,bk:=D.nx} a H2):=by
 exists λi m σ H=>m=n-i/\i≤n/\b i σ H,{n,o7,amE _,h0};rintro i m σ H ⟨rfl,hi,p⟩;by_cases c:i<n
 .refine .inr {c,b (i+1),λf H' j=>{n -(i+1),o5,J,c,j},λx H' y=>?_};let⟨e,y⟩:=y;subst e y;exact hs i σ _ c p
 .let e:i=n:=by omega
  subst e;exact .inl {amd _,hd σ H p}
abbrev R2:=V->V->Hp->VK->Z3
def OpR(X:Cx)(f:nF->nF->Sem nF)(r:R2):Z3:=
 ∀(X4:mu (nt×Obj))(s:qb)(σ:St)(H:Hp)(x y:V)(v u:nF)(Q:VK),Inv X X4 σ H s->RelV x v->RelV y u->r x y H Q →
  wpAny (model X.prog X.w) X.A (f v u) (EP X X4 σ Q) X.xe s
def UnR(X:Cx)(f:nF->Sem nF)(r:V->Hp->VK->Z3):Z3:=
 ∀(X4:mu (nt×Obj))(s:qb)(σ:St)(H:Hp)(x:V)(v:nF)(Q:VK),Inv X X4 σ H s->RelV x v->r x H Q →
  wpAny (model X.prog X.w) X.A (f v) (EP X X4 σ Q) X.xe s
def jw(X:Cx)(f:nF)(r:mu V->Hp->VK->Z3):Z3:=
 ∀(X4:mu (nt×Obj))(s:qb)(σ:St)(H:Hp)(xs:mu V)(us:mu nF)(Q:VK),Inv X X4 σ H s->Vals xs us->r xs H Q →
  wpAny (model X.prog X.w) X.A (call f us) (EP X X4 σ Q) X.xe s
def tOp(r:R2)(ta tb:TE):TE:=λσ H Q=>ta σ H λx H1=>tb σ H1 λy H2=>r x y H2 Q
def tUn(r:V->Hp->VK->Z3)(ta:TE):TE:=λσ H Q=>ta σ H λx H1=>r x H1 Q
inductive rI(C:Z4->Z4->Z3)(g:Z4->Z4->V)(x:V)(y:V)(H:Hp)(Q:VK):Z3
 |m i j(_:x=.int i)(_:y=.int j)(_:C i j)(_:Q (g i j) H)
inductive rI0(g:Z4->Z4->V)(x:V)(y:V)(H:Hp)(Q:VK):Z3
 |m i j(_:x=.int i)(_:y=.int j)(_:Q (g i j) H)
inductive rU(g:Z4->V)(x:V)(H:Hp)(Q:VK):Z3
 |m i(_:x=.int i)(_:Q (g i) H)
section
variable{X:Cx}{a b c:Expr}{ta tb tc:TE}{pos:Pos}
def Mq(l:PE X a ta)(i:PE X b tb){X4:mu (nt×Obj)}{s:qb}{σ:St}{H:Hp}{R:V->V->Hp->Z3}(I:Inv X X4 σ H s)(h:ta σ H λx H1=>tb σ H1 λy H2=>R x y H2){Q:nF->qb->Z3}{f:nF->nF->Sem nF}(j:∀v u s2 x y H2,Inv X X4 σ H2 s2->RelV x v->RelV y u->R x y H2->wpAny (model X.prog X.w) X.A (f v u) Q X.xe s2) :
  wpAny (model X.prog X.w) X.A (eval a X.env) (λv c=>wpAny (model X.prog X.w) X.A (eval b X.env) (λu g=>wpAny (model X.prog X.w) X.A (f v u) Q X.xe g) X.xe c) X.xe s:=by
 refine thn (l X4 s σ H _ I h) λ v s1 ⟨x,H1,I1,r1,q1⟩=>?_
 refine thn (i X4 s1 σ H1 _ I1 q1) λ u s2 ⟨y,H2,I2,r2,q2⟩=>?_
 exact j v u s2 x y H2 I2 r1 r2 q2
def aL{c:Operator}{r:R2}(j:OpR X (binaryOp c) r)(m:PE X a ta)(f:PE X b tb):PE X (.BinOp a c b pos) (tOp r ta tb):=by intro X4 s σ H Q I h;exact wpAny_BinOp (Mq m f I h λv u s2 x y H2 g l i q=>j X4 s2 σ H2 x y v u Q g l i q)
def Ct{b:UnaryOp}{r:V->Hp->VK->Z3}(c:UnR X (unaryOp b) r)(f:PE X a ta):PE X (.UnaryOp b a pos) (tUn r ta):=by intro X4 s σ H Q I h;exact UnaryOp_ (thn (f X4 s σ H _ I h) λ v s1 ⟨x,H1,I1,r1,q1⟩=>c X4 s1 σ H1 x v Q I1 r1 q1)
def opI{f:nF->nF->Sem nF}{C:Z4->Z4->Z3}{g:Z4->Z4->Z4}(rule:∀(i j:Z4)(t u:Tok)(s:qb)(Q:nF->qb->Z3)(E:nF->qb->Z3),C i j->Q (.int (g i j) s.toks) {s with toks:=s.toks+1}->wpAny (model X.prog X.w) X.A (f (.int i t) (.int j u)) Q E s) :
  OpR X f (rI C λi j=>.int (g i j)):=by
 intro X4 s σ H x y v u Q I b a h;let⟨i,j,rfl,rfl,c,q⟩:=h;let⟨t,rfl⟩:=b;let⟨t',rfl⟩:=a;exact rule i j t t' s _ _ c {.int<|g i j,H,I.tok _,{1},q}
def MD{f:nF->nF->Sem nF}{g:Z4->Z4->Z4}(rule:∀(i j:Z4)(t u:Tok)(s:qb)(Q:nF->qb->Z3)(E:nF->qb->Z3),Q (.int (g i j) s.toks) {s with toks:=s.toks+1}->wpAny (model X.prog X.w) X.A (f (.int i t) (.int j u)) Q E s) :
  OpR X f (rI0 λi j=>.int (g i j)):=by
 intro X4 s σ H x y v u Q I b a h;let⟨i,j,rfl,rfl,q⟩:=h;let⟨t,rfl⟩:=b;let⟨t',rfl⟩:=a;exact rule i j t t' s _ _ {.int<|g i j,H,I.tok _,{1},q}
def IM{f:nF->nF->Sem nF}{g:Z4->Z4->Bool}(rule:∀(i j:Z4)(t u:Tok)(s:qb)(Q:nF->qb->Z3)(E:nF->qb->Z3),Q (.bool (g i j)) s->wpAny (model X.prog X.w) X.A (f (.int i t) (.int j u)) Q E s) :
  OpR X f (rI0 λi j=>.bl (g i j)):=by
 intro X4 s σ H x y v u Q I b a h;let⟨i,j,rfl,rfl,q⟩:=h;let⟨t,rfl⟩:=b;let⟨t',rfl⟩:=a;exact rule i j t t' s _ _ {.bl<|g i j,H,I,J,q}
def alb(i j:Z4):Z3:=0≤j/\j≤1000000/\i.natAbs<2 ^ 64
def Nq(i j:Z4):Z3:=(-(2 ^ 64)<i/\i<2 ^ 64)∨(-(2 ^ 64)<j/\j<2 ^ 64)
def Nq.ok{i j:Z4}(h:Nq i j):IntMulOk i j:=by
 rcases h with⟨h1,h2⟩|⟨h1,h2⟩
 .exact .of_left (intBits_le_64 h1 h2)
 .exact .of_right (intBits_le_64 h1 h2)
def cD:OpR X (binaryOp .Add) (rI0 λi j=>.int (i+j)):=MD λ_ _ _ _ _ _ _ q=>add_int q
def adq:OpR X (binaryOp .Sub) (rI0 λi j=>.int (i-j)):=MD λ_ _ _ _ _ _ _ q=>sub_int q
def Kh:OpR X (binaryOp .Mult) (rI Nq λi j=>.int (i*j)):=opI λ_ _ _ _ _ _ _ a q=>mul_int q a.ok
def gy:OpR X (binaryOp .Mod) (rI (λ_ j=>0<j) λi j=>.int (i % j)):=opI λi j _ _ _ _ _ a q=>by let h1:↥0<j:=a;exact mod_int' o5 (by grind)
def Wy:OpR X (binaryOp .Pow) (rI alb λi j=>.int (i ^ j.toNat)):=opI λ_ _ _ _ _ _ _ a q=>pow_int_small a.1 a.2.1 a.2.2 q
def KQ:OpR X (binaryOp .BitXor) (rI0 λi j=>.int (Builtin.bitXor i j)):=MD λ_ _ _ _ _ _ _ q=>xor_int q
def unI{f:nF->Sem nF}{g:Z4->Z4}(rule:∀(i:Z4)(t:Tok)(s:qb)(Q:nF->qb->Z3)(E:nF->qb->Z3),Q (.int (g i) s.toks) {s with toks:=s.toks+1}->wpAny (model X.prog X.w) X.A (f (.int i t)) Q E s) :
  UnR X f (rU λi=>.int (g i)):=by
 intro X4 s σ H x v Q I a h;let⟨i,rfl,q⟩:=h;let⟨t,rfl⟩:=a;exact rule i t s _ _ {.int<|g i,H,I.tok _,{1},q}
def zd:UnR X (unaryOp .USub) (rU λi=>.int (-i)):=unI λ_ _ _ _ _ q=>neg_int q
end
def ZV:V->V->Bool
 |.non,.non=>true|.non,.int _=>true|.int _,.non=>true|.non,.bl _=>true|.bl _,.non=>true|.non,.str _=>true|.str _,.non=>Z1
 |.int _,.int _=>true|.bl _,.bl _=>true|.str _,.str _=>true|.byt _,.byt _=>Z1
 |.int _,.str _=>true|.str _,.int _=>true|.bl _,.str _=>true|.str _,.bl _=>Z1
 |_,_=>Z2
def rEq:R2:=λx y H Q=>ZV x y=Z1/\Q (.bl<|decide (x=y)) H
def rNe:R2:=λx y H Q=>ZV x y=Z1/\Q (.bl (!decide (x=y))) H
def Gw{i j:Z4}:decide (V.int i=V.int j) =(i==j):=by grind
def LV{i j:Bool}:decide (V.bl i=V.bl j) =(i==j):=by grind
def F1{i j:Z6}:decide (V.str i=V.str j) =(i==j):=by grind
def Gf{i j:q8 UInt8}:decide (V.byt i=V.byt j) =(i.toList==j.toList):=by rw[apJ];cases i;cases j;simp
section
variable{X:Cx}{a b c:Expr}{ta tb tc:TE}{pos:Pos}
def bZ{X4:mu (nt×Obj)}{σ:St}{H:Hp}{s:qb}{Q:VK}{k a:Bool}(I:Inv X X4 σ H s)(q:Q (.bl k) H)(e:k=a):EP X X4 σ Q (.bool a) s:=by subst e;exact{.bl k,H,I,J,q}
def dB:OpR X (compareOp .Eq) rEq:=by
 intro X4 s σ H x y v u Q I b a h;let⟨hs,q⟩:=h;cases x with
 |non=>
  cases b;cases y with
  |non=>cases a;exact PySem.EqNone.eq_none_none<|bZ I q o7
  |bl j=>cases a;exact PySem.EqNone.eq_none_bool<|bZ I q o7
  |int j=>let⟨t',rfl⟩:=a;exact PySem.EqNone.eq_none_int<|bZ I q o7
  |str j=>let⟨t',rfl⟩:=a;exact PySem.EqNone.eq_none_str<|bZ I q o7
  |_=>exact absurd (show Z2=Z1 from hs) amn
 |bl i=>
  cases b;cases y with
  |non=>cases a;exact PySem.EqNone.eq_bool_none<|bZ I q o7
  |bl j=>cases a;exact eq_bool<|bZ I q LV
  |str j=>let⟨t',rfl⟩:=a;exact PySem.EqMixed.eq_bool_str<|bZ I q o7
  |_=>exact absurd (show Z2=Z1 from hs) amn
 |int i=>
  let⟨t,rfl⟩:=b;cases y with
  |non=>cases a;exact PySem.EqNone.eq_int_none<|bZ I q o7
  |int j=>let⟨t',rfl⟩:=a;exact eq_int<|bZ I q Gw
  |str j=>let⟨t',rfl⟩:=a;exact PySem.EqMixed.eq_int_str<|bZ I q o7
  |_=>exact absurd (show Z2=Z1 from hs) amn
 |str i=>
  let⟨t,rfl⟩:=b;cases y with
  |non=>cases a;exact PySem.EqNone.eq_str_none<|bZ I q o7
  |bl j=>cases a;exact PySem.EqMixed.eq_str_bool<|bZ I q o7
  |int j=>let⟨t',rfl⟩:=a;exact PySem.EqMixed.eq_str_int<|bZ I q o7
  |str j=>let⟨t',rfl⟩:=a;exact eq_str<|bZ I q F1
  |_=>exact absurd (show Z2=Z1 from hs) amn
 |byt i=>
  let⟨t,rfl⟩:=b;cases y with
  |byt j=>let⟨t',rfl⟩:=a;exact PySem.W.eq_bytes<|bZ I q Gf
  |_=>exact absurd (show Z2=Z1 from hs) amn
 |_=>cases y <;> exact absurd (show Z2=Z1 from hs) amn
def ah0:OpR X (compareOp .NotEq) rNe:=by
 intro X4 s σ H x y v u Q I b a h;let⟨hs,q⟩:=h;cases x with
 |non=>
  cases b;cases y with
  |non=>cases a;exact PySem.EqNone.ne_none_none<|bZ I q o7
  |bl j=>cases a;exact PySem.EqNone.ne_none_bool<|bZ I q o7
  |int j=>let⟨t',rfl⟩:=a;exact PySem.EqNone.ne_none_int<|bZ I q o7
  |str j=>let⟨t',rfl⟩:=a;exact PySem.EqNone.ne_none_str<|bZ I q o7
  |_=>exact absurd (show Z2=Z1 from hs) amn
 |bl i=>
  cases b;cases y with
  |non=>cases a;exact PySem.EqNone.ne_bool_none<|bZ I q o7
  |bl j=>cases a;exact ne_bool<|bZ I q<|congrArg not LV
  |str j=>let⟨t',rfl⟩:=a;exact PySem.EqMixed.ne_bool_str<|bZ I q o7
  |_=>exact absurd (show Z2=Z1 from hs) amn
 |int i=>
  let⟨t,rfl⟩:=b;cases y with
  |non=>cases a;exact PySem.EqNone.ne_int_none<|bZ I q o7
  |int j=>let⟨t',rfl⟩:=a;exact ne_int<|bZ I q<|congrArg not Gw
  |str j=>let⟨t',rfl⟩:=a;exact PySem.EqMixed.ne_int_str<|bZ I q o7
  |_=>exact absurd (show Z2=Z1 from hs) amn
 |str i=>
  let⟨t,rfl⟩:=b;cases y with
  |non=>cases a;exact PySem.EqNone.ne_str_none<|bZ I q o7
  |bl j=>cases a;exact PySem.EqMixed.ne_str_bool<|bZ I q o7
  |int j=>let⟨t',rfl⟩:=a;exact PySem.EqMixed.ne_str_int<|bZ I q o7
  |str j=>let⟨t',rfl⟩:=a;exact ne_str<|bZ I q<|congrArg not F1
  |_=>exact absurd (show Z2=Z1 from hs) amn
 |byt i=>
  let⟨t,rfl⟩:=b;cases y with
  |byt j=>let⟨t',rfl⟩:=a;exact PySem.W.ne_bytes<|bZ I q<|congrArg not Gf
  |_=>exact absurd (show Z2=Z1 from hs) amn
 |_=>cases y <;> exact absurd (show Z2=Z1 from hs) amn
def j4:OpR X (compareOp .Lt) (rI0 λi j=>.bl (decide (i<j))):=IM λ_ _ _ _ _ _ _ q=>lt_int q
def IV:OpR X (compareOp .LtE) (rI0 λi j=>.bl (decide (i≤j))):=IM λ_ _ _ _ _ _ _ q=>le_int q
def tO:OpR X (compareOp .Gt) (rI0 λi j=>.bl (decide (j<i))):=IM λ_ _ _ _ _ _ _ q=>gt_int q
def zl:OpR X (compareOp .GtE) (rI0 λi j=>.bl (decide (j≤i))):=IM λ_ _ _ _ _ _ _ q=>ge_int q
def Kp:OpR X (compareOp .In) (λx y H Q=>∃i j,x=.str i/\y=.str j/\Q (.bl (!(Builtin.Str.occurrences j i 0 j.length 1).isEmpty)) H):=by intro X4 s σ H x y v u Q I b a h;let⟨i,j,rfl,rfl,q⟩:=h;let⟨t,rfl⟩:=b;let⟨t',rfl⟩:=a;exact in_str<|bZ I q J
def uI:OpR X (compareOp .Is) (λx y H Q=>y=.non/\Q (.bl (decide (x=.non))) H):=by
 intro X4 s σ H x y v u Q I a b h;let⟨rfl,q⟩:=h;cases b;refine is_none_gen<|bZ I q ?_;cases x <;> first
  |(cases a;rfl)
  |(let⟨t,rfl⟩:=a;rfl)
def UP:OpR X (compareOp .IsNot) (λx y H Q=>y=.non/\Q (.bl (!decide (x=.non))) H):=by
 intro X4 s σ H x y v u Q I a b h;let⟨rfl,q⟩:=h;cases b;refine isnot_none_gen<|bZ I q ?_;cases x <;> first
  |(cases a;rfl)
  |(let⟨t,rfl⟩:=a;rfl)
def aY(b:Expr){a:CmpOp}(h:a≠.In:=by decide)(h2:a≠.NotIn:=by decide):behindInMarks a b=Z2:=by
 let c:(a==CmpOp.In)=Z2:=by grind
 let f:(a==CmpOp.NotIn)=Z2:=by grind
 cases b <;> simp[behindInMarks,c,f]
def gW{c:CmpOp}{r:R2}(l:OpR X (compareOp c) r)(n:PE X a ta)(f:PE X b tb)(j:behindInMarks c b=Z2):PE X (.Compare a [c] [b] pos) (tOp r ta tb):=by intro X4 s σ H Q I h;exact wpAny_Compare1 (Mq n f I h λv u s2 x y H2 g m i q=>l X4 s2 σ H2 x y v u Q g m i q) j
inductive GO(Q:Bool->Hp->Z3)(x:V)(H':Hp):Z3
 |m k(_:x=.bl k)(_:Q k H')
def aie(t:TE):TT:=λσ H Q=>t σ H λx H'=>GO Q x H'
def aX{f:CmpOp}{r:R2}(j:OpR X (compareOp f) r)(l:PE X a ta)(g:PE X b tb)(i:behindInMarks f b=Z2):PT X (.Compare a [f] [b] pos) (aie (tOp r ta tb)):=by
 intro X4 s σ H Q I h;refine wpAny_isTrue_Compare1 (thn (l X4 s σ H _ I h) λ v s1 ⟨x,H1,I1,r1,q1⟩=>thn (g X4 s1 σ H1 _ I1 q1) λ u s2 ⟨y,H2,I2,r2,q2⟩=>thn (j X4 s2 σ H2 x y v u _ I2 r1 r2 q2) λ c s3 ⟨z,H3,I3,r3,k,e,q3⟩=>?_) i
 subst e;cases r3;exact anu ⟨H3,I3,q3⟩
def rM:(Z7:Z5)<2 ^ 63:=by rw[sizeLine_eq];decide
def aH:OpR X (binaryOp .Add) (λx y H Q=>∃i j,x=.str i/\y=.str j/\i.length+j.length≤Z7/\Q (.str (i++j)) H):=by intro X4 s σ H x y v u Q I c a h;let⟨i,j,rfl,rfl,b,q⟩:=h;let⟨t,rfl⟩:=c;let⟨t',rfl⟩:=a;exact add_str (λt' f=>{.str (i++j),H,I.tok _,{1},q}) b
def vals1{x:V}{us:mu nF}(r:Vals [x] us):∃u,us=[u]/\RelV x u:=by
 cases r with
 |cons b a=>cases a;exact{1,b}
def vals2{x y:V}{us:mu nF}(r:Vals [x,y] us):∃u w',us=[u,w']/\RelV x u/\RelV y w':=by
 cases r with
 |cons c a=>
  cases a with
  |cons f b=>cases b;exact{_,1,c,f}
inductive xO(xs:mu V)(H:Hp)(Q:VK):Z3
 |m i j(_:xs=[.int i,.int j])(_:Q (.int (if j>i then j else i)) H)
def Bw(b:X.calm=Z1):jw X (.builtin "max") xO:=by
 intro X4 s σ H xs us Q I r h;let⟨i,j,rfl,q⟩:=h;let⟨u,c,rfl,⟨t,rfl⟩,⟨t',rfl⟩⟩:=vals2 r;refine max_two_ints (I.ok.hd b) λh' f k=>{_,H,I.kept k,?_,q}
 by_cases a:j>i
 .rw[ama a,ama a];exact{1}
 .rw[al8 a,al8 a];exact{1}
inductive xJ(xs:mu V)(H:Hp)(Q:VK):Z3
 |m i j(_:xs=[.int i,.int j])(_:Q (.int (if j<i then j else i)) H)
def JS(b:X.calm=Z1):jw X (.builtin "min") xJ:=by
 intro X4 s σ H xs us Q I r h;let⟨i,j,rfl,q⟩:=h;let⟨u,c,rfl,⟨t,rfl⟩,⟨t',rfl⟩⟩:=vals2 r;refine min_two_ints (I.ok.hd b) λh' f k=>{_,H,I.kept k,?_,q}
 by_cases a:j<i
 .rw[ama a,ama a];exact{1}
 .rw[al8 a,al8 a];exact{1}
inductive rK(xs:mu V)(H:Hp)(Q:VK):Z3
 |m i(_:xs=[.int i])(_:i.natAbs.log2<1920)(_:Q (.str (toString i)) H)
def bC:jw X (.type "str") rK:=by intro X4 s σ H xs us Q I r h;let⟨i,rfl,a,q⟩:=h;let⟨u,rfl,t,rfl⟩:=vals1 r;exact PySem.P.str_of_int a {.str _,H,I.tok _,{1},q}
end
structure yd(h:Heap)(x dx C:nt)(mA:Z6->o9 nF):Z3 where
 obj:h.get? x=some (instObj C dx)
 ns:h.Ns1 dx mA
 ne:dx≠x
def uU{h:Heap}{dx:nt}{mA:Z6->o9 nF}(n:h.Ns1 dx mA):∃od,h.get? dx=some od/\∀name,lookIn name od=some (mA name):=by
 let⟨o,es,ep,i,hd,j,_,f⟩:=n;refine{o,i,λname=>?_};let e:=f name;unfold nsFind findBy at e;rw[←Array.find?_toList] at e;unfold lookIn;rw[hd];dsimp only;split
 .grind
 .rename_i q;rw[q] at e;let a:es.toList.any (·.refKey)=Z2:=by rw[List.any_eq_false];intro y c;let⟨z,t,b⟩:=j y<|Array.mem_toList_iff.mp c;simp[DictEntry.refKey,b]
  let g:¬es.toList.any (·.refKey)=Z1:=by grind
  rw[al8 g];exact congrArg some e
def yd.look{h:Heap}{x dx C:nt}{mA:Z6->o9 nF}(I:yd h x dx C mA):∃od,PySem.W.InstAt h x (instObj C dx) C (some od)/\∀name,lookIn name od=some (mA name):=
 let ⟨od,ho,hl⟩:=uU I.ns
 {od,⟨I.obj,J,J,ho⟩,hl}
section
variable{prog:q9}{w:wo}{A:Around}{E:nF->qb->Z3}{s:qb}{K:Frag}{x dx C f:nt}{mA:Z6->o9 nF}{name:Z6}{v:nF}
def get_map{a:Bool}{Q:nF->qb->Z3}(X:K.In s.heap)(I:yd s.heap x dx C mA)(g:plainGet K C name=Z1)(j:hasDictIn K C=Z1)(i:findIn K (.ref C) name=some Z0)(c:mA name=some v)(b:handedIn v=Z1)(h:Q v {s with toks:=s.toks+1}) :
  wpAny (model prog w) A (getAttr (.ref x) name a) Q E s:=by
 let⟨od,b4,f⟩:=I.look;exact PySem.W.get_value X b4 (aoY g).1 (aqd j i J (by rw[f,c])) b h
def Mi{pl:Sem Bool}{Q:nF×mu nF->qb->Z3}(X:K.In s.heap)(I:yd s.heap x dx C mA)(a:plainGet K C name=Z1)(b:findIn K (.ref C) name=some (some (.ref f)))(i:isFn K (.ref f)=Z1)(c:mA name=Z0)(h:Q (.ref f,[.ref x]) s) :
  wpAny (model prog w) A (getMethod (.ref x) name pl) Q E s:=by
 let⟨od,b4,g⟩:=I.look;exact PySem.W.method_fn X b4 (aoY a).1 (aoY a).2 b (aoL.mp i) (by show(lookIn name od).map (·.isSome)=some Z2;rw[g,c];rfl) h
def U5{ns:mu Z6}{Q:Unit->qb->Z3}(X:K.In s.heap)(I:yd s.heap x dx C mA)(hs:findIn K (.ref C) "__setattr__" = some (some (.builtin "object.__setattr__")))(p:plainOver K C=Z1)(u:takerIn K C name=some Z0)(n:hasDictIn K C=Z1)(q:PySem.Within mA ns)(hsz:ns.length≤Z7)(h:∀h',yd h' x dx C (λy=>if y=name then some v else mA y)->Heap.SameBut dx s.heap h'->Q () {s with heap:=h',toks:=s.toks+2}) :
  wpAny (model prog w) A (setAttr (.ref x) name v) Q E s:=by
 let⟨od,b4,B⟩:=I.look;refine set_plain X b4 hs (PySem.W.osa_open (s:={s with toks:=s.toks+1}) (r:=Z0) X b4 p u λb=>?_);let⟨cd,o,l⟩:=PySem.W.any_some n;let m:s.heap.get? x=some ⟨.ref C,some dx,.plain,#[]⟩:=I.obj;refine al6<|al9<|al6<|al6<|apY m<|al6<|Looks.here (s:={s with toks:=s.toks+1}) (aod X o) ?_;rw[l];refine al9 (a:=some dx)<|al6<|al9<|al6 ?_;refine wpAny_nsSet1 (s:={s with toks:=s.toks+1}) I.ns λh' c f=>?_
 let⟨F,t,z,g,i,j⟩:=c.count<|PySem.Within.cons name v q;refine al6<|aps g (by rw[i];exact apt<|amo j (by grind)) ?_;exact al9<|h _ {(f.2 _<|amW I.ne).trans I.obj,c,I.ne} f
def Eo{R:Result->qb->Z3}{vs:mu nF}{a:mu (Z6×nF)}(X:K.In s.heap)(b:makesIn K C=Z1)(hi:findIn K (.ref C) "__init__" = some (some (.ref f)))(c:typeIn K (.ref f)=some (.type "function"))(h:codeAny (model prog w) (A.under (.builtin "type.__call__" {.ref C::vs,a})) (.call (.ref f) {.ref (~~~s+1)::vs,a}) (PySem.W.InitBack (~~~s+1) R)
   {s with heap:=(s.heap.push emptyDict).push (instObj C (~~~s))}) :
  codeAny (model prog w) A (.call (.ref C) ⟨vs,a⟩) R s:=by
 let⟨i,g,d,t,os⟩:=s;exact PySem.W.make_core (PySem.W.makes_of X b) (anI X hi) (λself=>bind_fn X self c) (.inl J) h
end
def bO(f:Z6)(v:V):mu (Z6×V)->mu (Z6×V)
 |[]=>[(f,v)]
 |(g,x)::r=>if g=f then(g,v)::r else(g,x)::bO f v r
def qL(f g:Z6)(v:V):∀fs:mu (Z6×V),(bO f v fs).lookup g=if g=f then some v else fs.lookup g
 |[]=>by
  show List.lookup g [(f,v)]=_;by_cases h:g=f
  .let a:(g==f)=Z1:=aoL.mpr h;simp only[List.lookup,a,if_pos h]
  .grind
 |(k,x)::r=>by
  let c:=qL f g v r;rw[show bO f v ((k,x)::r) =(if k=f then(k,v)::r else(k,x)::bO f v r) from rfl];by_cases b:k=f
  .grind
  .grind
def nH(f:Z6)(v:V):∀fs:mu (Z6×V),f∈(bO f v fs).map (·.1)/\∀g,g∈fs.map (·.1)->g∈(bO f v fs).map (·.1)
 |[]=>{by simp[bO],λg h=>by simp at h}
 |(k,x)::r=>by
  let⟨a,c⟩:=nH f v r;rw[show bO f v ((k,x)::r) =(if k=f then(k,v)::r else(k,x)::bO f v r) from rfl];by_cases b:k=f
  .grind
  .grind
def gG(f:Z6)(v:V):∀fs:mu (Z6×V),(bO f v fs).length≤fs.length+1
 |[]=>by simp[bO]
 |(k,x)::r=>by
  let b:=gG f v r;rw[show bO f v ((k,x)::r) =(if k=f then(k,v)::r else(k,x)::bO f v r) from rfl];by_cases a:k=f
  .grind
  .grind
def gR.some_of{v:V}{o:o9 nF}(r:gR (some v) o):∃u,o=some u/\RelV v u:=by
 cases o with
 |none=>exact(show False from r).elim
 |some u=>exact⟨u,J,r⟩
def gR.none_of{o:o9 nF}(r:gR Z0 o):o=Z0:=by
 cases o with
 |none=>rfl
 |some u=>exact(show False from r).elim
def BK{v:V}{u:nF}(r:RelV v u):handedIn u=Z1:=by
 cases v with
 |non=>cases (show u=Value.none from r);rfl
 |bl b=>cases (show u=Value.bool b from r);rfl
 |int i=>let⟨t,e⟩:=(show ∃t,u=Value.int i t from r);cases e;rfl
 |str x=>let⟨t,e⟩:=(show ∃t,u=Value.str x t from r);cases e;rfl
 |byt b=>let⟨t,e⟩:=(show ∃t,u=Value.bytes b t from r);cases e;rfl
 |flt b=>let⟨t,e⟩:=(show ∃t,u=Value.float b t from r);cases e;rfl
 |ref a=>cases (show u=Value.ref a from r);rfl
 |ty n=>cases (show u=Value.type n from r);rfl
section
variable{P:q9}{w:wo}{H H':Hp}{h h':Heap}{a C dx:nt}{fs fs':mu (Z6×V)}
def Au(b:HOk P w H h)(e:H a=some (.ins C dx fs)):∃mA,yd h a dx C mA/\(∀f,gR (fs.lookup f) (mA f))/\PySem.Within mA (fs.map (·.1))/\fs.length≤1000/\H dx=some (.own a):=by let⟨d,z,c,g,mA,n,r,q⟩:=(show cu P w H h a (.ins C dx fs) from b a _ e);exact{mA,⟨g,n,c⟩,r,q,z,d}
end
structure Cls(K:Frag)(C:nt):Z3 where
 pg:plainGet K C Str.empty=Z1
 hd:hasDictIn K C=Z1
 po:plainOver K C=Z1
 sa:findIn K (.ref C) "__setattr__" = some (some (.builtin "object.__setattr__"))
def Cls.get{K:Frag}{C:nt}(c:Cls K C)(f:Z6):plainGet K C f=Z1:=c.pg
def aJ(K:Frag)(C:nt)(f:Z6):Z3:=findIn K (.ref C) f=some Z0
def aJ.aje{K:Frag}{C:nt}{f:Z6}(n:aJ K C f):takerIn K C f=some Z0:=by unfold takerIn;rw[show findIn K (.ref C) f=some Z0 from n];rfl
structure Meth(K:Frag)(C:nt)(m:Z6)(f:nt):Z3 where
 at_:findIn K (.ref C) m=some (some (.ref f))
 fn:isFn K (.ref f)=Z1
 kp:keepIn K (.ref f)=Z1
section
variable{X:Cx}{X4:mu (nt×Obj)}{σ:St}{H:Hp}{s:qb}{a C dx:nt}{fs:mu (Z6×V)}{f:Z6}{v:V}{A:Around}{E:nF->qb->Z3}
def Ig{b:Bool}{Q:nF->qb->Z3}(I:Inv X X4 σ H s)(e:H a=some (.ins C dx fs))(c:Cls X.K C)(n:aJ X.K C f)(l:fs.lookup f=some v)(h:∀u s',Inv X X4 σ H s'->RelV v u->Q u s'):wpAny (model X.prog X.w) A (getAttr (.ref a) f b) Q E s:=by let⟨mA,O,r,_,_,_⟩:=Au I.hok e;let⟨u,i,g⟩:=gR.some_of (v:=v) (o:=mA f) (by rw[←l];exact r f);exact get_map I.kIn O (c.get f) c.hd n i (BK g)<|h u _ (I.tok _) g
def zf{m:Z6}{g:nt}{pl:Sem Bool}{Q:nF×mu nF->qb->Z3}(I:Inv X X4 σ H s)(e:H a=some (.ins C dx fs))(c:Cls X.K C)(k:Meth X.K C m g)(l:fs.lookup m=Z0)(h:Q (.ref g,[.ref a]) s):wpAny (model X.prog X.w) A (getMethod (.ref a) m pl) Q E s:=by let⟨mA,O,r,_,_,_⟩:=Au I.hok e;let b:mA m=Z0:=gR.none_of (by rw[←l];exact r m);exact Mi I.kIn O (c.get m) k.at_ k.fn b h
def Ir{y:V}{u:nF}{Q:Unit->qb->Z3}(I:Inv X X4 σ H s)(e:H a=some (.ins C dx fs))(c:Cls X.K C)(n:aJ X.K C f)(B:fs.length<1000)(p:RelV y u)(h:∀s',Inv X X4 σ (Z9 H a (.ins C dx (bO f y fs))) s'->Q () s'):wpAny (model X.prog X.w) A (setAttr (.ref a) f u) Q E s:=by
 let⟨mA,O,r,wi,_,j⟩:=Au I.hok e;let m:(fs.map (·.1)).length≤Z7:=by rw[ame,sizeLine_eq];omega
 refine U5 I.kIn O c.sa c.po n.aje c.hd wi m λh' i t=>h _ ?_
 let hd:∃o,h'.get? dx=some o:=let ⟨o,_,_,e',_⟩:=i.ns;⟨o,e'⟩;refine I.write (x:=a) (e:=dx) (by rw[e];exact True.intro) (.inr j) (λb q l z=>(t.2 b l).trans z) hd ?_;refine{by rwa[au O.ne],?_,O.ne,i.obj,_,i.ns,λg=>?_,λg v=>?_}
 .let:=gG f y fs;omega
 .show gR ((bO f y fs).lookup g) (if g=f then some u else mA g);rw[qL];by_cases q:g=f
  .rw[ama q,ama q];exact p
  .grind
 .by_cases q:g=f
  .rw[q];exact(nH f y fs).1
  .refine(nH f y fs).2 g (wi g λz=>v ?_);show(if g=f then some u else mA g)=Z0;rwa[al8 q]
def Inv.made(I:Inv X X4 σ H s):Inv X X4 σ (Z9 (Z9 H (~~~s) (.own (~~~s+1))) (~~~s+1) (.ins C (~~~s) []))
  {s with heap:=(s.heap.push emptyDict).push (instObj C (~~~s))}:=by
 let c:(s.heap.push emptyDict).get? (~~~s)=some emptyDict:=amh s.heap rfl;let i:((s.heap.push emptyDict).push (instObj C (~~~s))).get? (~~~s+1)=some (instObj C (~~~s)):=by let:=amh (s.heap.push emptyDict) (o:=instObj C (~~~s)) rfl;rwa[am4] at this
 let h:(s.heap.push emptyDict).Ns (~~~s) (λ_=>Z0):={emptyDict,#[],_,c,J,(λe he=>absurd he o7),λ_=>rfl};let j:=I.laid (a:= ~~~s) (o:=.own (~~~s+1)) (h':=s.heap.push emptyDict) (t':=s.toks) (λb u q=>al7 _ q) (amd _) {_,c};refine j.laid (a:= ~~~s+1) (o:=.ins C (~~~s) []) (t':=s.toks) (λb u q=>al7 _ q) (aqp<|am4 _ _) ?_;let f:( ~~~s)≠(~~~s)+1:=amu<|anL _;refine{by rw[au f,aj],amE _,f,i,λ_=>Z0,(Heap.Ns1.of_empty h).at λo q=>al7 _ q,λ_=>True.intro,λy g=>absurd J g}
def F4{prog:q9}{w:wo}{env:Env}{e:Expr}{f:Z6}{pos:Pos}{s:qb}{Q:nF->qb->Z3}(b:attributeBase e f env (eval e env)=eval e env)(h:wpAny (model prog w) A (eval e env) (λo a=>wpAny (model prog w) A (getAttr o f Z1) Q E a) E s):wpAny (model prog w) A (eval (.Attribute e f pos) env) Q E s:=
 Attribute_any_ h (by rw[arm_eval_Attribute,b])
end
inductive Lb(K:Frag)(f:Z6)(Q:VK)(x:V)(H1:Hp):Z3
 |m a C dx fs v(_:x=.ref a)(_:H1 a=some (.ins C dx fs))(_:Cls K C)(_:aJ K C f)(_:fs.lookup f=some v)(_:Q v H1)
def acD(K:Frag)(ta:TE)(f:Z6):TE:=λσ H Q=>ta σ H λx H1=>Lb K f Q x H1
inductive K1(K:Frag)(f:Z6)(D:Ends)(σ:St)(y:V)(x:V)(H2:Hp):Z3
 |m a C dx fs(_:x=.ref a)(_:H2 a=some (.ins C dx fs))(_:Cls K C)(_:aJ K C f)(_:fs.length<1000)(_:D.nx σ (Z9 H2 a (.ins C dx (bO f y fs))))
def aey(K:Frag)(ta tv:TE)(f:Z6):TS:=λD σ H=>tv σ H λy H1=>ta σ H1 λx H2=>K1 K f D σ y x H2
section
variable{X:Cx}{o e value:Expr}{f:Z6}{pos pos' tpos:Pos}{ta tv:TE}
def bz(he:PE X e ta)(b:attributeBase e f X.env (eval e X.env)=eval e X.env):PE X (.Attribute e f pos) (acD X.K ta f):=by intro X4 s σ H Q I h;refine F4 b (thn (he X4 s σ H _ I h) λ u s1 ⟨x,H1,I1,rx,a,C,dx,fs,v,ex,ea,c,n,l,q⟩=>?_);subst ex;obtain rfl:u=Value.ref a:=rx;exact Ig I1 ea c n l λu' s2 i g=>⟨v,H1,i,g,q⟩
def cI(j:PE X o ta)(g:PE X value tv)(hs:swapsWith value (some (.Attribute o f pos')) pos.line X.env=pure Z2):PS X (.Assign [.Attribute o f pos'] value pos) (aey X.K ta tv f):=by intro X4 s σ H D I h;refine anR (thn (g X4 s σ H _ I h) λ u s1 ⟨y,H1,I1,ry,q⟩=>thn (j X4 s1 σ H1 _ I1 q) λ b s2 ⟨x,H2,I2,rx,a,C,dx,fs,ex,ea,c,n,l,q2⟩=>?_) hs;subst ex;obtain rfl:b=Value.ref a:=rx;exact Ir I2 ea c n l ry λs3 i=>{σ,_,i,q2}
end
structure cO(k:Z5)(A:Around):Z3 where
 hd:A.handled=Z0
 dp:A.depth+3*k+5<recursionLimit
 un:A.units+16*k+200<cLine
def cO.mono{j k:Z5}{A:Around}(r:cO k A)(h:j≤k):cO j A:={r.hd,by let:=r.dp;omega,by let:=r.un;omega}
def cO.deeper{k:Z5}{A:Around}(r:cO (k+1) A)(env:Env):cO k (A.deeper env):=
 {r.hd,by let:=r.dp;show A.depth+1+3*k+5<_;omega,by let:=r.un;show A.units+3+16*k+200<_;omega}
def Ib{A:Around}{C:nt}{us:mu nF}{a:mu (Z6×nF)}:(A.under (.builtin "type.__call__" {.ref C::us,a})).depth=A.depth+1:=by first|rfl|simp[Around.under,Code.weight,Code.isCreation,Code.isGuard,Code.isCaller,Code.frames,Code.isFrame,guardIds]
def Iz{A:Around}{C:nt}{us:mu nF}{a:mu (Z6×nF)}:(A.under (.builtin "type.__call__" {.ref C::us,a})).units=A.units+1:=by first|rfl|simp[Around.under,Code.cUnits,Code.frames,Code.isFrame]
def cO.make{k:Z5}{A:Around}(r:cO (k+1) A)(C:nt)(us:mu nF)(a:mu (Z6×nF)):cO k (A.under (.builtin "type.__call__" {.ref C::us,a})):=
 {r.hd,by let:=r.dp;rw[Ib];omega,by let:=r.un;rw[Iz];omega}
def cO.depth{k:Z5}{A:Around}(r:cO k A):A.depth<recursionLimit:=by let:=r.dp;omega
def cO.units{k:Z5}{A:Around}(r:cO k A):A.units+64<cLine:=by let:=r.un;omega
def xT:TA:=λ_ H Q=>Q [] H
def bV(ta:TE)(tr:TA):TA:=λσ H Q=>ta σ H λx H1=>tr σ H1 λxs H2=>Q (x::xs) H2
section
variable{X:Cx}{e:Expr}{es:mu Expr}{te:TE}{t:TA}{pos:Pos}
def af:PA X [] xT:=λ_ _ _ _ H Q I h=>anv {[],H,I,.nil,h}
def aa(b:PE X e te)(a:PA X es t)(hs:starEach (e::es) X.env =(Z2,eval e X.env)::starEach es X.env:=by rfl):PA X (e::es) (bV te t):=by intro pos X4 s σ H Q I h;rw[hs];show wpAny _ _ (spliced ((Z2,eval e X.env)::backTo pos (starEach es X.env))) _ _ s;refine am7 (thn (b X4 s σ H _ I h) λ u s1 ⟨x,H1,I1,r1,q1⟩=>?_);exact thn (a pos X4 s1 σ H1 _ I1 q1) λ us s2 ⟨xs,H2,I2,r2,q2⟩=>{x::xs,H2,I2,.cons r1 r2,q2}
def ak1(t:TA):TE:=λσ H Q=>t σ H λxs H1=>xs.length≤Z7/\∀p,H1 p=Z0->Q (.ref p) (Z9 H1 p<|.tup xs)
def akN(t:TA):TE:=λσ H Q=>t σ H λxs H1=>xs.length≤Z7/\∀p,H1 p=Z0->Q (.ref p) (Z9 H1 p<|.lst xs)
def aI{x1}(h:PA X es t):PE X (.Tuple es x1 pos) (ak1 t):=by intro X4 s σ H Q I a;refine wpAny_Tuple_spliced (thn (h pos X4 s σ H _ I a) λ us s1 ⟨xs,H1,I1,r,z,q⟩=>{by rwa[←r.length],?_});let c:H1 (~~~s1)=Z0:=I1.hok.fresh<|amd _;refine{.ref (~~~s1),Z9 H1 (~~~s1)<|.tup xs,I1.laid (t':=s1.toks) (λb u e=>al7 _ e) (amd _) ?_,J,q _ c};exact{z,us,r,{_,amh _ J,J,1}}
def dZ(h:PA X es t):PE X (.List es pos) (akN t):=by intro X4 s σ H Q I a;refine wpAny_List_spliced (thn (h pos X4 s σ H _ I a) λ us s1 ⟨xs,H1,I1,r,z,q⟩=>{by rwa[←r.length],?_});let c:H1 (~~~s1)=Z0:=I1.hok.fresh<|amd _;refine{.ref (~~~s1),Z9 H1 (~~~s1)<|.lst xs,I1.laid (t':=s1.toks) (λb u e=>al7 _ e) (amd _) ?_,J,q _ c};exact{z,us,(0),r,amh _ J}
end
abbrev Sp:=mu V->Hp->VK->XK->Z3
abbrev CXT:=mu Env->Hp->qb->XK->nF->qb->Z3
structure xX(P:q9)(w:wo)(K:Frag)(mg:Z6->o9 nF)(base:Heap)(A:Around)(outer:mu Env)(s:qb)(H:Hp):Z3 where
 frames:A.frames=some outer
 mod:Mod K mg base
 bs:∀b o,base.get? b=some o->s.heap.get? b=some o/\H b=Z0
 bsz:base.objs.size≤~~~s
 kg:s.heap.FunFrames base outer
 frf:∀ b∈frs outer,H b=Z0
 hok:HOk P w H s.heap
 bare:AllBare s.gens
inductive CE(outer:mu Env)(P:q9)(w:wo)(H:Hp)(s:qb)(Q:VK)(u:nF)(s':qb):Z3
 |m v H'(_:s'.os=s.os)(_:AllBare s'.gens)(_:Un (frs outer) [] H H' s.heap s'.heap)(_:HOk P w H' s'.heap)(_:RelV v u)(_:Q v H')
def CR(CX:CXT)(outer:mu Env)(P:q9)(w:wo)(H:Hp)(s:qb)(Q:VK)(E:XK)(r:Result)(s':qb):Z3:=
 match r with
 |.ok (.ret u)=>CE outer P w H s Q u s'
 |.ok _=>False
 |.error e=>CX outer H s E e s'
structure aM(P:q9)(w:wo)(K:Frag)(mg:Z6->o9 nF)(base:Heap)(CX:CXT)(k:Z5)(f:nt)(fd:qd)(ps:mu Z6)(sp:Sp):Z3 where
 len:∀vs H Q E,sp vs H Q E->vs.length=ps.length
 run:∀(A:Around)(outer:mu Env)(s:qb)(H:Hp)(args:Args)(us:mu nF)(vs:mu V)(Q:VK)(E:XK),cO k A->xX P w K mg base A outer s H->BindsTo s fd args (ps.zip us)->Vals vs us->sp vs H Q E →
  codeAny (model P w) A (.call (.ref f) args) (CR CX outer P w H s Q E) s
def xX.make{P:q9}{w:wo}{K:Frag}{mg:Z6->o9 nF}{base:Heap}{A:Around}{outer:mu Env}{s:qb}{H:Hp}(e:xX P w K mg base A outer s H)(C:nt)(us:mu nF)(a:mu (Z6×nF)) :
  xX P w K mg base (A.under (.builtin "type.__call__" {.ref C::us,a})) outer s H:={by first|exact e.frames|(simpa[Around.under,Code.envs,Code.isFrame,pushEnvs] using e.frames),e.mod,e.bs,e.bsz,e.kg,e.frf,e.hok,e.bare}
section
variable{X:Cx}{X4:mu (nt×Obj)}{σ:St}{H:Hp}{s s':qb}
def Inv.Dv(I:Inv X X4 σ H s):xX X.prog X.w X.K X.mg X.base X.A X.stack s H:=
 {I.ok.frames,I.ok.mod,I.bs,amo I.ok.bsz I.sz,I.stack,I.Ad,I.hok,I.bare}
def Inv.after{Q:VK}{u:nF}(I:Inv X X4 σ H s)(h:CE X.stack X.prog X.w H s Q u s'):EP X X4 σ Q u s':=by let⟨v,H',os,a,un,c,r,q⟩:=h;let⟨i,g,d,t,f⟩:=s';obtain rfl:f=s.os:=os;exact{v,H',I.call (h':=i) (g':=g) (d':=d) (t':=t) (ch:=[]) un c a λb z=>absurd z o7,r,q}
end
def Binds(K:Frag)(fd:qd)(ps:mu Z6)(ds:mu nF):Z3:=
 ∀(s:qb)(us:mu nF),K.In s.heap->(us++ds).length=ps.length->BindsTo s fd {us,[]} (ps.zip (us++ds))
def Binds.all{K:Frag}{fd:qd}{ps:mu Z6}(h:∀us:mu nF,us.length=ps.length->bindArgs fd {us,[]}=pure (ps.zip us)):Binds K fd ps []:=λs us _ a=>by rw[anq] at a ⊢;exact .of_eq<|h us a
section
variable{X:Cx}{CX:CXT}{k:Z5}{f C:nt}{fd:qd}{ps:mu Z6}{sp:Sp}{dvs:mu V}{ds:mu nF}{E:XK}{x m:Z6}{p pos apos:Pos}{e o:Expr}{es:mu Expr}{ta:TE}{t:TA}
structure Mk(K:Frag)(C f:nt):Z3 where
 makes:makesIn K C=Z1
 init:findIn K (.ref C) "__init__" = some (some (.ref f))
 fn:isFn K (.ref f)=Z1
 kp:keepIn K (.ref C)=Z1
end
structure aG(N P:mu Z6)(sc:Scope):Z3 where
 kind:sc.kind=.function
 co:sc.isCoroutine=Z2
 gen:sc.isGenerator=Z2
 nd:N.Nodup
 pre:N.take P.length=P
 par:∀ x∈P,sc.names.lookup x=some .local∨sc.names.lookup x=some .cell
 Ym:∀ y∈sc.names,y.2≠.free
def Bl{kindOf:Z6->o9 NameKind}{x:Z6}:∀{binds:mu (Z6×nF)}{m:Z6->o9 nF},(∀v,(x,v)∉binds)->bindL kindOf binds m x=m x
 |[],_,_=>rfl
 |(n,v)::r,m,h=>by
  unfold bindL;rw[Bl λw a=>h w<|amj _ a];split
  .let:x≠n:=by rintro rfl;exact h v anm
   simp[this]
  .rfl
def BR{kindOf:Z6->o9 NameKind}{x:Z6}:∀{binds:mu (Z6×nF)}{m:Z6->o9 nF},(∀v,(x,v)∉binds)->bindC kindOf binds m x=m x
 |[],_,_=>rfl
 |(n,v)::r,m,h=>by
  unfold bindC;rw[BR λw a=>h w<|amj _ a];split
  .rfl
  .let:x≠n:=by rintro rfl;exact h v anm
   simp[this]
def BF{kindOf:Z6->o9 NameKind}{x:Z6}{v:nF}:∀{P:mu Z6}{vs:mu nF}{i:Z5}{m:Z6->o9 nF},P.Nodup->P[i]?=some x->vs[i]?=some v->kindOf x=some .local →
  bindL kindOf (P.zip vs) m x=some v
 |[],_,_,_,_,h,_,_=>by simp at h
 |_::_,[],_,_,_,_,h,_=>by simp at h
 |p::P,w::vs,0,m,nd,h1,h2,hk=>by simp at h1 h2;subst h1;subst h2;show bindL kindOf ((p,w)::P.zip vs) m p=_;unfold bindL;rw[Bl λv a=>(amC.mp nd).1 (apK a).1,ama hk];simp
 |p::P,w::vs,i+1,m,nd,h1,h2,hk=>by show bindL kindOf ((p,w)::P.zip vs) m x=_;unfold bindL;exact BF (i:=i) (amC.mp nd).2 (⇑h1) (⇑h2) hk
def BQ{kindOf:Z6->o9 NameKind}{x:Z6}{v:nF}:∀{P:mu Z6}{vs:mu nF}{i:Z5}{m:Z6->o9 nF},P.Nodup->P[i]?=some x->vs[i]?=some v->kindOf x≠some .local →
  bindC kindOf (P.zip vs) m x=some v
 |[],_,_,_,_,h,_,_=>by simp at h
 |_::_,[],_,_,_,_,h,_=>by simp at h
 |p::P,w::vs,0,m,nd,h1,h2,hk=>by simp at h1 h2;subst h1;subst h2;show bindC kindOf ((p,w)::P.zip vs) m p=_;unfold bindC;rw[BR λv a=>(amC.mp nd).1 (apK a).1,al8 hk];simp
 |p::P,w::vs,i+1,m,nd,h1,h2,hk=>by show bindC kindOf ((p,w)::P.zip vs) m x=_;unfold bindC;exact BQ (i:=i) (amC.mp nd).2 (⇑h1) (⇑h2) hk
def start(N:mu Z6)(vs:mu V):St:=vs.map some++List.replicate (N.length-vs.length) Z0
def bq(CX:CXT)(P:q9)(w:wo)(K:Frag)(mg:Z6->o9 nF)(base:Heap)(N:mu Z6)(qual:Z6)(scope:Scope)(f:nt)(cd:nF)(A:Around)(outer:mu Env)(s:qb)(H:Hp)(E:XK):Cx where
 prog:=P
 w:=w
 K:=K
 mg:=mg
 base:=base
 A:=A.deeper (envOfC qual scope (~~~s) f cd)
 N:=N
 s₀:=s
 H₀:=H
 env:=envOfC qual scope (~~~s) f cd
 outer:=outer
 stack:=envOfC qual scope (~~~s) f cd::outer
 ex:=[]
 calm:=Z1
 fn:=λ_=>Z1
 pn:=[]
 xe:=λe s'=>wpAny (model P w) (A.deeper<|envOfC qual scope (~~~s) f cd) (leaving (envOfC qual scope (~~~s) f cd) e) (λ_ a=>CX outer H s E e a) (λb a=>CX outer H s E b a) s'
def Ew{a:Scope}{n:Z5}{x:Z6}(h:a.names.lookup x=some .cell):∃c,(cellsFrom n a.names []).lookup x=some c:=by let q:=apQ a.names n []<|.inl h;exact aoj.mp q
def JU{CX:CXT}{P:q9}{w:wo}{K:Frag}{mg:Z6->o9 nF}{base:Heap}{N ps:mu Z6}{qual:Z6}{scope:Scope}{f:nt}{cd:nF}{A:Around}{outer:mu Env}{s s1:qb}{H:Hp}{E:XK}{us:mu nF}{vs:mu V}(S:aG N ps scope)(hd:A.handled=Z0)(g:xX P w K mg base A outer s H)(O:vs.length=ps.length)(r:Vals vs us)(x:InCallC s (~~~s) (bindL (envOfC qual scope (~~~s) f cd).kindOf (ps.zip us) λ_=>Z0) (cellsFrom (~~~s+1) scope.names []) (bindC (envOfC qual scope (~~~s) f cd).kindOf (ps.zip us) λ_=>Z0) s1) :
  Inv (bq CX P w K mg base N qual scope f cd A outer s H E) [] (start N vs) H s1:=by
 let C:ps.length≤N.length:=by let:=congrArg List.length S.pre;rw[amX] at this;omega
 let⟨h1,U,rfl,B⟩:=x.done;let j:∀b:nt,b∉(bq CX P w K mg base N qual scope f cd A outer s H E).ex:=λb z=>absurd (show b∈([]:mu nt) from z) o7
 refine⟨{g.mod,S.kind,J,J,amd _,λy z c h1 h2=>?_,λy l=>?_,λy c _ h=>?_,λ_=>hd,Around.frames_deeper g.frames,.inr ⟨J,J⟩,λb z=>absurd z<|j b,g.bs,g.bsz,λb _ _=>j b,λb z=>absurd z<|j b,g.kg,g.frf},
  J,g.bare,Un.kept B,{_,x.toInCall.ns,λi y v h1 h2 h3=>?_},λy c h=>{_,x.cell y c h},g.hok.fresh<|amd _,λy c h=>?_,λp m=>absurd (show p∈([]:mu (nt×Obj)) from m) o7,g.hok.kept B,?_⟩
 .exact name_of_addr x.apart (anP h1) (anP h2)
 .let l:scope.names.lookup y=some .cell∨scope.names.lookup y=some .free:=l;rcases l with l|l
  .exact Ew l
  .exact absurd J (S.Ym _<|anP l)
 .exact amV (x.above y c<|anP h)
 .let hi:i<vs.length:=by
   unfold start at h2;by_cases hi:i<vs.length
   .exact hi
   .grind
  let L:vs[i]?=some v:=by
   unfold start at h2;rw[ams (⇑hi),amx] at h2;cases e:vs[i]? with
   |none=>rw[e] at h2;cases h2
   |some a=>rw[e] at h2;cases h2;rfl
  let⟨u,t,F⟩:=r.get L;let m:ps[i]?=some y:=by rwa[←S.pre,apu o5]
  let o:ps.Nodup:=by rw[←S.pre];exact S.nd.sublist<|List.take_sublist _ _
  exists u,F;rcases S.par y (aml m) with k|k
  .exact .inl {k,BF o m t k}
  .let⟨c,e⟩:=Ew (n:= ~~~s+1) k;refine .inr {.inl k,c,e,?_};let q:=x.cell y c e;rw[BQ o m t (by show scope.names.lookup y≠_;rw[k];decide)] at q;exact q
 .exact g.hok.fresh (amV<|x.above y c<|anP h)
 .unfold start;show _=N.length;rw[amK,ame,anb];omega
def Us{CX:CXT}{P:q9}{w:wo}{K:Frag}{mg:Z6->o9 nF}{base:Heap}{k:Z5}{f:nt}{name qual:Z6}{c:Arguments}{g:mu Stmt}{scope:Scope}{dV kV p pm a ct oc:nF}{Y od:o9 nt}{L:q8 (o9 nF)}{N ps:mu Z6}{sp:Sp}(lk:K.lookup f=some {oc,od,.func (fnOf name qual c g scope dV kV p pm Y a ct),L})(C:codeIn K a qual=Z1)(S:aG N ps scope)(len:∀vs H Q E,sp vs H Q E->vs.length=ps.length)(j:∀(A:Around)(outer:mu Env)(s:qb)(H:Hp)(vs:mu V)(Q:VK)(E:XK),cO k (A.deeper (envOfC qual scope (~~~s) f a))->sp vs H Q E →
   ∃t,PSs (bq CX P w K mg base N qual scope f a A outer s H E) g t/\t {nx:=λ_ H'=>Q .non H',rt:=Q} (start N vs) H) :
  aM P w K mg base CX (k+1) f (fnOf name qual c g scope dV kV p pm Y a ct) ps sp:=by
 refine{len,λA outer s H args us vs Q E F l hb r z=>?_};let hl:=len _ _ _ _ z;let U:K.In s.heap:=l.mod.kin.keeps λb o e=>(l.bs b o e).1
 let B:s.heap.NoLimit:=l.mod.nolimit.keeps λb o e=>(l.bs b o e).1
 let i:∀ y∈ps.zip us,scope.names.lookup y.1=some .local∨(scope.names.lookup y.1=some .cell/\((cellsFrom (~~~s+1) scope.names []).lookup y.1).isSome=Z1):=fun ⟨n,v⟩ hy=>by
  rcases S.par n (apK hy).1 with q|q
  .exact .inl q
  .exact .inr {q,apQ _ _ _<|.inl q}
 refine codeAny_call_function F.depth (U _ _ lk) J S.co S.gen J (PySem.W.codeRec_of U C)<|hb _ _ _ _ ?_;refine wpAny_newFunctionEnv_cells S.kind i λenv he s1 x=>?_
 subst he;refine{B.keeps x.toInCall.keep,codeAny_func ?_};let⟨t,ht,hq⟩:=j A outer s H vs Q E (F.deeper _) z;let I:Inv (bq CX P w K mg base N qual scope f a A outer s H E) [] (start N vs) H s1:=JU S F.hd l hl r x;refine amB (ht [] s1 (start N vs) H _ I hq) (λfl s' hs=>?_) λe s' hs=>hs
 let m:∀{h:St}{H':Hp}{v:V}{u:nF},Inv (bq CX P w K mg base N qual scope f a A outer s H E) [] h H' s'->RelV v u->Q v H'->CE outer P w H s Q u s':=
  λ{h H' v u}b4 O q=>⟨v,H',b4.os,b4.bare,b4.base,b4.hok,O,q⟩
 cases fl with
 |ret u=>let⟨v,h,H',b4,O,q⟩:=hs;exact m b4 O q
 |next=>let⟨h,H',b4,q⟩:=hs;exact m (v:=V.non) (u:=Value.none) b4 J q
 |brk=>let⟨_,_,_,q⟩:=hs;exact False.elim q
 |cont=>let⟨_,_,_,q⟩:=hs;exact False.elim q
section
variable{X:Cx}{x:Z6}{p pos:Pos}{e:Expr}{es:mu Expr}{t:TA}{id T:String}{r:mu V->Hp->VK->Z3}
def tCB(r:mu V->Hp->VK->Z3)(t:TA):TE:=λσ H Q=>t σ H λvs H1=>r vs H1 Q
def bQ(c:jw X (.builtin id) r)(g:Gl X x)(i:X.mg x=Z0)(f:bootBuiltins x=some (.builtin id))(l:PA X (e::es) t)(j:x≠"__name__":=by decide)(a:(x ==("__debug__":Str))=Z2:=by decide)(he:starEach (e::es) X.env =(Z2,eval e X.env)::starEach es X.env:=by rfl)(b:(backTo pos (starEach es X.env)).any (·.1)=Z2:=by rfl):PE X (.Call (.Name x p) (e::es) [] pos) (tCB r t):=by intro X4 s σ H Q I h;refine amU<|jK I g i f ?_ j a;exact aoM (thn (l pos X4 s σ H _ I h) λ us s1 ⟨vs,H1,I1,r1,q1⟩=>c X4 s1 σ H1 vs us Q I1 r1 q1) he b
def bx(c:jw X (.type T) r)(g:Gl X x)(i:X.mg x=Z0)(f:bootBuiltins x=some (.type T))(l:PA X (e::es) t)(j:x≠"__name__":=by decide)(a:(x ==("__debug__":Str))=Z2:=by decide)(he:starEach (e::es) X.env =(Z2,eval e X.env)::starEach es X.env:=by rfl)(b:(backTo pos (starEach es X.env)).any (·.1)=Z2:=by rfl):PE X (.Call (.Name x p) (e::es) [] pos) (tCB r t):=by intro X4 s σ H Q I h;refine amU<|jK I g i f ?_ j a;exact am0 (thn (l pos X4 s σ H _ I h) λ us s1 ⟨vs,H1,I1,r1,q1⟩=>c X4 s1 σ H1 vs us Q I1 r1 q1) he b
end
end L2
namespace HT
open PySem PyProof.Rows
section
variable{prog:q9}{w:wo}{A:Around}{E:nF->qb->Z3}{s:qb}
def sIx(n d:Z5):o9 Z4->Z5
 |none=>d
 |some v=>if v<0 then(v +↥n).toNat else min v.toNat n
def Gz(n d k:Z5):sIx n d (some ↥k)=min k n:=by show(if ↥k<0 then(↥k +↥n).toNat else min (k:Z4).toNat n)=min k n;rw[al8 o5,Int.toNat_natCast]
end
end HT
namespace L2
open PySem PySem.Spec PyProof.Rows
abbrev TO:=St->Hp->(o9 Z4->Hp->Z3)->Z3
def PO(X:Cx)(e:o9 Expr)(t:TO):Z3:=
 ∀(X4:mu (nt×Obj))(s:qb)(σ:St)(H:Hp)(Q:o9 Z4->Hp->Z3),Inv X X4 σ H s->t σ H Q →
  wpAny (model X.prog X.w) X.A (evalPart e X.env) (λu s'=>∃o H',Inv X X4 σ H' s'/\IsPart u o/\Q o H') X.xe s
def Vv:TO:=λ_ H Q=>Q Z0 H
inductive GH(Q:o9 Z4->Hp->Z3)(x:V)(H1:Hp):Z3
 |m i(_:x=.int i)(_:Q (some i) H1)
def ahZ(t:TE):TO:=λσ H Q=>t σ H λx H1=>GH Q x H1
def aoN{ns:mu Z4}:∀{us:mu nF},Vals (ns.map Z8) us->IntsAre us ns:=by
 induction ns with
 |nil=>intro us r;rw[aqq] at r;cases r;exact .nil
 |cons n ns c=>
  intro us r;rw[amR] at r;cases r with
  |cons b a=>let⟨t,e⟩:=b;subst e;exact .cons n t<|c a
section
variable{X:Cx}{e:Expr}{te:TE}{lo hi:o9 Expr}{tl th:TO}{pos p2:Pos}
def rZ:PO X Z0 Vv:=by intro X4 s σ H Q I h;rw[evalPart_none];exact al9 {Z0,H,I,.none,h}
def jk(h:PE X e te):PO X (some e) (ahZ te):=by
 intro X4 s σ H Q I a;rw[evalPart_some];refine thn (h X4 s σ H _ I a) λ u s1 ⟨x,H1,I1,r1,q1⟩=>?_
 let⟨i,rfl,q⟩:=q1;let⟨t,rfl⟩:=r1;exact{some i,H1,I1,.int i t,q}
def SlR(X:Cx)(r:V->o9 Z4->o9 Z4->Hp->VK->Z3):Z3:=
 ∀(X4:mu (nt×Obj))(s:qb)(σ:St)(H:Hp)(x:V)(v c a:nF)(lo hi:o9 Z4)(b:nt)(Q:VK),Inv X X4 σ H s->RelV x v->s.heap.IsSliceOf b c a .none->IsPart c lo->IsPart a hi->r x lo hi H Q →
  ∃T id,typeLookup (.type T) "__getitem__" = pure (some<|.builtin id)/\s.TypeIs v T/\wpAny (model X.prog X.w) X.A (getItem v<|.ref b) (EP X X4 σ Q) X.xe s
def tSl(r:V->o9 Z4->o9 Z4->Hp->VK->Z3)(te:TE)(tl th:TO):TE:=λσ H Q=>te σ H λx H1=>tl σ H1 λl H2=>th σ H2 λu a=>r x l u a Q
def kc{r:V->o9 Z4->o9 Z4->Hp->VK->Z3}(f:SlR X r)(he:PE X e te)(i:PO X lo tl)(g:PO X hi th):PE X (.Subscript e (.Slice lo hi Z0 p2) pos) (tSl r te tl th):=by
 intro X4 s σ H Q I h;refine Subscript_ (thn (he X4 s σ H _ I h) λ v s1 ⟨x,H1,I1,r1,q1⟩=>?_);refine wpAny_Slice (thn (i X4 s1 σ H1 _ I1 q1) λ c s2 ⟨l,H2,I2,pl,q2⟩=>thn (g X4 s2 σ H2 _ I2 q2) λ a s3 ⟨u,H3,I3,pu,q3⟩=>?_);rw[evalPart_none];refine al9 ?_;let o:Inv X X4 σ H3 {s3 with heap:=s3.heap.push {.type "slice",Z0,.fields #[c,a,.none],#[]}}:=I3.kept (t':=s3.toks) λb p q=>al7 _ q
 let⟨T,id,j,n,m⟩:=f X4 {s3 with heap:=s3.heap.push {.type "slice",Z0,.fields #[c,a,.none],#[]}} σ H3 x v c a l u (~~~s3) Q o r1 (Heap.IsSliceOf.new ..) pl pu q3;show wpAny (model X.prog X.w) X.A (subscriptTail e (.Slice lo hi Z0 p2) v<|.ref (~~~s3)) (EP X X4 σ Q) X.xe {s3 with heap:=s3.heap.push {.type "slice",Z0,.fields #[c,a,.none],#[]}};exact tail_any (ops:=[.ref (~~~s3),v]) n j m (by with_unfolding_all rfl)
def gg(xs:mu V)(lo hi:o9 Z4):mu V:=(xs.drop<|HT.sIx xs.length 0 lo).take<|HT.sIx xs.length xs.length hi-HT.sIx xs.length 0 lo
def Fq(xs:mu V)(lo hi:o9 Z4):(gg xs lo hi).length≤xs.length:=by unfold gg;rw[amX,List.length_drop];omega
end
def ixN(n:Z5)(i:Z4):o9 Z5:=if 0≤i then(if i<n then some i.toNat else Z0) else if -↥n≤i then some (i+n).toNat else Z0
def atI{α:Type}(xs:mu α)(i:Z4):o9 α:=(ixN xs.length i).bind λj=>xs[j]?
def GR{n:Z5}{i:Z4}{j:Z5}(h:ixN n i=some j):seqIndex? i n=some j/\j<n/\-↥n≤i/\i<n:=by
 unfold ixN at h;by_cases h0:0≤i
 .rw[ama h0] at h;by_cases h1:i<n
  .rw[ama h1] at h;let e:i.toNat=j:=amw h;exact{by rw[seqIndex_of h0 h1,e],o5,o5,h1}
  .grind
 .rw[al8 h0] at h;by_cases h1:-↥n≤i
  .rw[ama h1] at h;let e:(i+n).toNat=j:=amw h;exact{by rw[seqIndex_neg o5 h1,e],o5,h1,o5}
  .grind
def Am{α:Type}{xs:mu α}{i:Z4}{v:α}(h:atI xs i=some v):∃j,seqIndex? i xs.length=some j/\xs[j]?=some v/\j<xs.length/\-↥xs.length≤i/\i<xs.length:=by
 unfold atI at h;cases e:ixN xs.length i with
 |none=>rw[e] at h;cases h
 |some j=>rw[e] at h;let⟨h1,h2,h3,h4⟩:=GR e;exact⟨j,h1,h,h2,h3,h4⟩
def br{α:Type}{xs:mu α}{j:Z5}{v:α}(h:xs[j]?=some v):atI xs ↥j=some v:=by
 let a:j<xs.length:=(amc.mp h).1;let e:ixN xs.length ↥j=some j:=by unfold ixN;rw[ama o5,ama o5];simp
 unfold atI;rwa[e]
def U7(b:Expr):Z3:=∀o i,subscripted b Z2 o i=operate [o,i] (getItem o i)
def IxR(X:Cx)(r:R2):Z3:=
 ∀(value a:Expr)(X4:mu (nt×Obj))(s:qb)(σ:St)(H:Hp)(x y:V)(v u:nF)(Q:VK),Inv X X4 σ H s->RelV x v->RelV y u->r x y H Q →
  subscripted a Z2 v u=operate [v,u] (getItem v u)->wpAny (model X.prog X.w) X.A (subscriptTail value a v u) (EP X X4 σ Q) X.xe s
def MtR(X:Cx)(id:String)(r:V->mu V->Hp->VK->Z3):Z3:=
 ∀(X4:mu (nt×Obj))(s:qb)(σ:St)(H:Hp)(x:V)(xs:mu V)(v:nF)(us:mu nF)(Q:VK),Inv X X4 σ H s->RelV x v->Vals xs us->r x xs H Q →
  wpAny (model X.prog X.w) X.A (call (.builtin id) (v::us)) (EP X X4 σ Q) X.xe s
section
variable{X:Cx}{a b:Expr}{ta tb:TE}{pos:Pos}
def bG{r:R2}(f:IxR X r)(l:PE X a ta)(c:PE X b tb)(hs:U7 b):PE X (.Subscript a b pos) (tOp r ta tb):=by intro X4 s σ H Q I h;exact Subscript_ (Mq l c I h λv u s2 x y H2 g j i q=>f a b X4 s2 σ H2 x y v u Q g j i q<|hs _ _)
inductive ZG(K:Frag)(x:V)(y:V)(H:Hp)(Q:VK):Z3
 |m p xs i v(_:x=.ref p)(_:y=.int i)(_:X0 K H p xs)(_:atI xs i=some v)(_:Q v H)
inductive W7(K:Frag)(x:V)(y:V)(H:Hp)(Q:VK):Z3
 |m p xs i v(_:x=.ref p)(_:y=.int i)(_:X3 K H p xs)(_:atI xs i=some v)(_:Q v H)
inductive ad5(x:V)(y:V)(H:Hp)(Q:VK):Z3
 |m z i c(_:x=.str z)(_:y=.int i)(_:z.length≤Z7)(_:atI z.cps.toList i=some c)(_:Q (.str ⟨#[c]⟩) H)
def bw:IxR X (ZG X.K):=by
 intro value f X4 s σ H x y v u Q I o m h hs;let⟨p,xs,i,z,rfl,rfl,g,he,q⟩:=h;cases o;let⟨t,rfl⟩:=m;let⟨c,r,pl,A⟩:=I.list g;let⟨j,h1,h2,h3,h4,h5⟩:=Am he;let⟨w,B,b⟩:=r.get h2;let l:=r.length;let C:=rM;let a:EP X X4 σ Q w s:=⟨z,H,I,b,q⟩;by_cases h0:0≤i
 .let n:i.toNat=j:=by rw[seqIndex_of h0 h5] at h1;exact amw h1
  exact item_listR pl.isList h0 o5 (by grind) a hs
 .let n:(i +↥c.toArray.size).toNat=j:=by rw[seqIndex_neg o5 h4] at h1;rw[anw,←l];exact amw h1
  exact subscriptTail_builtinR (x:=w) pl.isList.typeIs slot_list_getitem.lookup
   (wpAny_getItem_list_neg (Q:=λr s'=>r=w/\EP X X4 σ Q r s') pl.isList o5 (by grind) o5 (by grind) ⟨J,a⟩) hs
def lW:IxR X (W7 X.K):=by
 intro value c X4 s σ H x y v u Q I n l h hs;let⟨p,xs,i,z,rfl,rfl,f,he,q⟩:=h;cases n;let⟨t,rfl⟩:=l;let⟨m,r,pl,o⟩:=I.tuple f;let⟨j,h1,h2,h3,h4,h5⟩:=Am he;let⟨w,g,b⟩:=r.get h2;let A:=r.length;let B:=rM;let a:EP X X4 σ Q w s:=⟨z,H,I,b,q⟩;exact subscriptTail_builtinR (x:=w) pl.typeIs slot_tuple_getitem.lookup
  (getItem_tuple (j:=j) (Q:=λr s'=>r=w/\EP X X4 σ Q r s') pl o5 o5 (by grind) (⇑g) ⟨J,a⟩) hs
def afg:IxR X ad5:=by
 intro value a X4 s σ H x y v u Q I m g h hs;let⟨z,i,c,rfl,rfl,n,he,q⟩:=h;let⟨t,rfl⟩:=m;let⟨t',rfl⟩:=g;let⟨j,h1,h2,h3,h4,h5⟩:=Am he;let l:z.cps.toList.length=z.length:=by simp[Str.length]
 rw[l] at h1 h4 h5;let o:=rM;exact tail_any (apl s z t) slot_str_getitem.lookup (getItem_str (c:=c) (by let f:decide (i < -(2 ^ 63:Z4))=Z2:=amN o5;let b:decide (i≥2 ^ 63)=Z2:=amN o5;rw[f,b,Bool.or_false]) (by grind) {.str ⟨#[c]⟩,H,I.tok _,{1},q}) hs
def Hl(a:mu nF)(n j:Z5)(u:nF):Obj.mapSeq (·.setIfInBounds j u) {.type "list",Z0,.seq a.toArray n,#[]}={.type "list",Z0,.seq (a.set j u).toArray n,#[]}:=by simp[Obj.mapSeq]
def Inv.lst{X4:mu (nt×Obj)}{σ:St}{H:Hp}{s:qb}{p:nt}{xs:mu V}(I:Inv X X4 σ H s)(h:H p=some (.lst xs)) :
  ∃(a:mu nF)(n:Z5),Vals xs a/\s.heap.get? p=some {.type "list",Z0,.seq a.toArray n,#[]}/\xs.length≤Z7:=by
 let⟨z,a,n,r,e⟩:=I.hok p _ h;exact⟨a,n,r,e,z⟩
def Inv.afO{X4:mu (nt×Obj)}{σ:St}{H:Hp}{s:qb}{p:nt}{xs ys:mu V}{a its':mu nF}{n n':Z5}{f:Obj->Obj}(I:Inv X X4 σ H s)(h:H p=some (.lst xs))(j:s.heap.get? p=some {.type "list",Z0,.seq a.toArray n,#[]})(c:f {.type "list",Z0,.seq a.toArray n,#[]}={.type "list",Z0,.seq its'.toArray n',#[]})(r:Vals ys its')(i:ys.length≤Z7)(t:Z5) :
  Inv X X4 σ (Z9 H p (.lst ys)) {s with heap:=s.heap.update p f,toks:=t}:=by
 let e:(s.heap.update p f).get? p=some {.type "list",Z0,.seq its'.toArray n',#[]}:=by rw[amI f j (by rw[c] <;> rfl),c]
 refine I.write (x:=p) (e:=p) (by rw[h];trivial) (.inl J) (λb u g q=>(amt _ _<|amW g).trans q) {_,e} ?_;exact⟨i,its',n',r,e⟩
inductive TR(o:V)(i:V)(v:V)(H:Hp)(Q:Hp->Z3):Z3
 |m p xs k j(_:o=.ref p)(_:i=.int k)(_:H p=some (.lst xs))(_:ixN xs.length k=some j)(_:Q (Z9 H p (.lst (xs.set j v))))
def set_list:WQ X TR:=by
 intro X4 s σ H o i v B C u Q I g x y h;let⟨p,xs,k,j,rfl,rfl,c,m,q⟩:=h;cases g;let⟨t,rfl⟩:=x;let⟨a,n,r,b,z⟩:=I.lst c;let⟨h1,h2,h3,h4⟩:=GR m;let l:=r.length;let A:=rM;let F:Inv X X4 σ (Z9 H p (.lst (xs.set j v))) {s with heap:=s.heap.update p (Obj.mapSeq (·.setIfInBounds j u))}:=
  I.afO c b (Hl a n j u) (r.set y j) (by grind) s.toks
 by_cases h0:0≤k
 .let f:k.toNat=j:=by rw[seqIndex_of h0 h4] at h1;exact amw h1
  exact PySem.W.ki_setAt b h0 o5 (by grind) (by grind)
 .let f:(k +↥a.toArray.size).toNat=j:=by rw[seqIndex_neg o5 h3] at h1;rw[anw,←l];exact amw h1
  exact PySem.W.ki_setBack b o5 (by grind) o5 (by grind)
def EM(lo hi:o9 Z4)(n:Z5):(sliceBounds lo hi Z0 n).1 =((HT.sIx n 0 lo:Z5):Z4)/\(sliceBounds lo hi Z0 n).2.1 =((HT.sIx n n hi:Z5):Z4)/\(sliceBounds lo hi Z0 n).2.2=1:=by
 refine{?_,?_,J}
 .cases lo with
  |none=>simp[sliceBounds,HT.sIx]
  |some i=>
   simp only[sliceBounds,HT.sIx,Option.getD_none,show↥1>0 by decide,if_true];by_cases h:i<0
   .grind
   .grind
 .cases hi with
  |none=>simp[sliceBounds,HT.sIx]
  |some i=>
   simp only[sliceBounds,HT.sIx,Option.getD_none,show↥1>0 by decide,if_true];by_cases h:i<0
   .grind
   .grind
def B5(a:mu nF)(lo hi:o9 Z4):slicePick a.toArray lo hi Z0 =((a.drop (HT.sIx a.length 0 lo)).take (HT.sIx a.length a.length hi-HT.sIx a.length 0 lo)).toArray:=by let⟨h1,h2,h3⟩:=EM lo hi a.toArray.size;unfold slicePick;rw[h1,h2,h3];simp only[sliceRange_one,pick_run,List.size_toArray] <;> rfl
inductive Wi(K:Frag)(x:V)(lo:o9 Z4)(hi:o9 Z4)(H:Hp)(Q:VK):Z3
 |m a xs(_:x=.ref a)(_:X0 K H a xs)(_:∀p,H p=Z0->Q (.ref p) (Z9 H p (.lst (gg xs lo hi))))
def m6:SlR X (Wi X.K):=by intro X4 s σ H x v u t lo hi n Q I m hs pl j h;let⟨a,xs,rfl,g,q⟩:=h;cases m;let⟨l,r,f,i⟩:=I.list g;let c:=r.length;exists "list",_,slot_list_getitem.lookup,f.isList.typeIs;refine wpAny_getItem_list_slice f.isList hs pl j .none o7 ?_ (by grind);rw[B5,←c];refine{.ref (~~~s),_,I.laid (t':=s.toks) (o:=.lst<|gg xs lo hi) (λb p q=>al7 _ q) (amd _) ?_,J,q _<|I.hok.fresh<|amd _};exact{amo (Fq xs lo hi) i,_,(0),(r.drop<|HT.sIx xs.length 0 lo).take<|HT.sIx xs.length xs.length hi-HT.sIx xs.length 0 lo,amh _ J}
def gb:V->Bool
 |.non=>Z1
 |.bl _=>Z1
 |.int _=>Z1
 |.str _=>Z1
 |_=>Z2
def eqV:V->V->Bool
 |.non,.non=>Z1
 |.bl a,.bl b=>a==b
 |.bl a,.int b=>(if a then 1 else 0)==b
 |.int a,.bl b=>a ==(if b then 1 else 0)
 |.int a,.int b=>a==b
 |.str a,.str b=>a==b
 |_,_=>Z2
def Kd{A:Around}{s:qb}{y x:V}{u v:nF}(f:RelV y u)(c:RelV x v)(h:gb y=Z1)(g:gb x=Z1):SeqAt.EqAt A s u v (eqV y x):=by
 cases y with
 |non=>
  cases f;cases x with
  |non=>cases c;exact SeqAt.EqAt.same _
  |bl b=>cases c;exact SeqAt.EqAt.none_bool b
  |int b=>let⟨t,rfl⟩:=c;exact SeqAt.EqAt.none_int b t
  |str b=>let⟨t,rfl⟩:=c;exact SeqAt.EqAt.none_str b t
  |_=>exact absurd (show Z2=Z1 from g) amn
 |bl a=>
  cases f;cases x with
  |non=>cases c;exact SeqAt.EqAt.bool_none a
  |bl b=>cases c;exact SeqAt.EqAt.bool_bool a b
  |int b=>let⟨t,rfl⟩:=c;exact SeqAt.EqAt.bool_int a b t
  |str b=>let⟨t,rfl⟩:=c;exact SeqAt.EqAt.bool_str a b t
  |_=>exact absurd (show Z2=Z1 from g) amn
 |int a=>
  let⟨t',rfl⟩:=f;cases x with
  |non=>cases c;exact SeqAt.EqAt.int_none a t'
  |bl b=>cases c;exact SeqAt.EqAt.int_bool a t' b
  |int b=>let⟨t,rfl⟩:=c;exact SeqAt.EqAt.int_int a t' b t
  |str b=>let⟨t,rfl⟩:=c;exact SeqAt.EqAt.int_str a t' b t
  |_=>exact absurd (show Z2=Z1 from g) amn
 |str a=>
  let⟨t',rfl⟩:=f;cases x with
  |non=>cases c;exact SeqAt.EqAt.str_none a t'
  |bl b=>cases c;exact SeqAt.EqAt.str_bool a t' b
  |int b=>let⟨t,rfl⟩:=c;exact SeqAt.EqAt.str_int a t' b t
  |str b=>let⟨t,rfl⟩:=c;exact SeqAt.EqAt.str_str a t' b t
  |_=>exact absurd (show Z2=Z1 from g) amn
 |_=>exact absurd (show Z2=Z1 from h) amn
def eqU(x:V)(u:nF):Bool:=match u with
 |.none=>eqV .non x
 |.bool b=>eqV (.bl b) x
 |.int i _=>eqV (.int i) x
 |.str z _=>eqV (.str z) x
 |_=>Z2
def KP{x y:V}{u:nF}(r:RelV y u)(f:gb y=Z1):eqU x u=eqV y x:=by
 cases y with
 |non=>cases r;rfl
 |bl b=>cases r;rfl
 |int i=>let⟨t,rfl⟩:=r;rfl
 |str z=>let⟨t,rfl⟩:=r;rfl
 |_=>exact absurd (show Z2=Z1 from f) amn
def rY{x:V}:∀{xs:mu V}{us:mu nF},Vals xs us->xs.all gb=Z1->us.any (eqU x)=xs.any λy=>eqV y x
 |_,_,.nil,_=>rfl
 |y::xs,u::us,.cons r t,f=>by rw[List.all_cons,aoF] at f;rw[aob,aob,KP r f.1,rY t f.2]
def oY{A:Around}{s:qb}{x:V}{v:nF}(b:RelV x v)(c:gb x=Z1):∀{xs:mu V}{us:mu nF},Vals xs us->xs.all gb=Z1->∀ u∈us,SeqAt.EqAt A s u v (eqU x u)
 |_,_,.nil,_=>λu a=>by cases a
 |y::xs,u::us,.cons r t,f=>λu' a=>by
  rw[List.all_cons,aoF] at f;rcases amq.mp a with rfl|a
  .rw[KP r f.1];exact Kd r b f.1 c
  .exact oY b c t f.2 u' a
def inV(x:V)(xs:mu V):Bool:=xs.any λy=>eqV y x
inductive rIn(K:Frag)(neg:Bool)(x:V)(y:V)(H:Hp)(Q:VK):Z3
 |m p xs(_:y=.ref p)(_:X0 K H p xs∨X3 K H p xs)(_:gb x=Z1)(_:xs.all gb=Z1)(_:Q (.bl (if neg then !inV x xs else inV x xs)) H)
def Kv:OpR X (compareOp .In) (rIn X.K Z2):=by
 intro X4 s σ H x y v u Q I f j h;let⟨p,xs,rfl,b,g,fs,q⟩:=h;cases j;rcases b with b|b
 .let⟨a,r,pl,i⟩:=I.list b;refine SeqAt.in_listAt (eqU x) pl.isList (λw c=>oY f g r fs w (⇑c)) {.bl _,H,I,J,?_};rwa[show a.toArray.any (eqU x)=a.any (eqU x) by simp,rY r fs]
 .let⟨a,r,pl,i⟩:=I.tuple b;refine SeqAt.in_tupleAt (eqU x) pl (λw c=>oY f g r fs w (⇑c)) {.bl _,H,I,J,?_};rwa[show a.toArray.any (eqU x)=a.any (eqU x) by simp,rY r fs]
def Dk:OpR X (compareOp .NotIn) (rIn X.K Z1):=by
 intro X4 s σ H x y v u Q I f j h;let⟨p,xs,rfl,b,g,fs,q⟩:=h;cases j;rcases b with b|b
 .let⟨a,r,pl,i⟩:=I.list b;refine SeqAt.notIn_listAt (eqU x) pl.isList (λw c=>oY f g r fs w (⇑c)) {.bl _,H,I,J,?_};rwa[show a.toArray.any (eqU x)=a.any (eqU x) by simp,rY r fs]
 .let⟨a,r,pl,i⟩:=I.tuple b;refine SeqAt.notIn_tupleAt (eqU x) pl (λw c=>oY f g r fs w (⇑c)) {.bl _,H,I,J,?_};rwa[show a.toArray.any (eqU x)=a.any (eqU x) by simp,rY r fs]
inductive sd(K:Frag)(xs:mu V)(H:Hp)(Q:VK):Z3
 |m p ys(_:xs=[.ref p])(_:X0 K H p ys∨X3 K H p ys)(_:Q (.int ys.length) H)
def bP:jw X (.builtin "len") (sd X.K):=by
 intro X4 s σ H xs us Q I r h;let⟨p,ys,rfl,b,q⟩:=h;let⟨u,rfl,i⟩:=vals1 r;cases i;let j:=rM;rcases b with b|b
 .let⟨c,f,pl,g⟩:=I.list b;let a:=f.length;exact Calls.call_len_list pl.isList (by grind) {.int ys.length,H,I.tok _,{s.toks+1,by rw[anw,a]},q}
 .let⟨c,f,pl,g⟩:=I.tuple b;let a:=f.length;exact len_tuple pl (by grind) {.int ys.length,H,I.tok _,{s.toks+1,by rw[anw,a]},q}
inductive sC(xs:mu V)(H:Hp)(Q:VK):Z3
 |m z(_:xs=[.str z])(_:z.length≤Z7)(_:Q (.int z.length) H)
def vz:jw X (.builtin "len") sC:=by intro X4 s σ H xs us Q I r h;let⟨z,rfl,b,q⟩:=h;let⟨u,rfl,t,rfl⟩:=vals1 r;let a:=rM;exact len_str o5 {.int z.length,H,I.tok _,{1},q}
inductive rC(K:Frag)(xs:mu V)(H:Hp)(Q:VK):Z3
 |m p ys(_:xs=[.ref p])(_:X0 K H p ys∨X3 K H p ys)(_:∀l,H l=Z0->Q (.ref l) (Z9 H l (.lst ys)))
def pZ:jw X (.type "list") (rC X.K):=by
 intro X4 s σ H xs us Q I r h;let⟨p,ys,rfl,g,q⟩:=h;let⟨u,rfl,x⟩:=vals1 r;cases x;let l:∀(a:mu nF),Vals ys a->ys.length≤Z7->∀(h':Heap)(c:Z5),(∀b o',s.heap.get? b=some o'->h'.get? b=some o') →
   h'.get? (~~~s)=some {.type "list",Z0,.seq a.toArray c,#[]}->EP X X4 σ Q (.ref (~~~s)) {s with heap:=h'}:=λa f j h' c m e=>
  {.ref (~~~s),_,I.laid (t':=s.toks) m (amd _) (show cu X.prog X.w _ h' _ (.lst ys) from⟨j,a,c,f,e⟩),J,q _<|I.hok.fresh<|amd _}
 rcases g with g|g
 .let⟨a,f,pl,j⟩:=I.list g;let i:=f.length;let⟨o,v,t,n,hd⟩:=pl.isList;exact call_list_seq p (.inl J) v t hd (λh' c m e=>l a f j h' c m e) (by grind)
 .let⟨a,f,pl,j⟩:=I.tuple g;let i:=f.length;let⟨o,v,t,n,hd⟩:=pl;exact call_list_seq p (.inr J) v t hd (λh' c m e=>l a f j h' c m e) (by grind)
inductive qv(K:Frag)(xs:mu V)(H:Hp)(Q:VK):Z3
 |m p ys(_:xs=[.ref p])(_:(X0 K H p ys/\∀l,H l=Z0->Q (.ref l) (Z9 H l (.tup ys)))∨(X3 K H p ys/\Q (.ref p) H))
def nV:jw X (.type "tuple") (qv X.K):=by
 intro X4 s σ H xs us Q I r h;let⟨p,ys,rfl,h⟩:=h;let⟨u,rfl,n⟩:=vals1 r;cases n;rcases h with⟨c,q⟩|⟨c,q⟩
 .let⟨a,f,pl,i⟩:=I.list c;let g:=f.length;refine call_tuple_list pl.isList (λh' m=>?_) (by grind);let j:Inv X X4 σ H {s with heap:=h'}:=I.kept (t':=s.toks) m;let l:Inv X X4 σ (Z9 H h'.objs.size (.tup ys)) {s with heap:=h'.push {.type "tuple",Z0,.seq a.toArray,#[]}}:=
   j.laid (t':=s.toks) (λb o e=>al7 _ e) (amd _) (show cu X.prog X.w _ _ _ (.tup ys) from{i,a,f,IsTup.new _ _})
  exact{.ref h'.objs.size,_,l,J,q _<|j.hok.fresh<|amd _}
 .let⟨a,f,pl,i⟩:=I.tuple c;exact call_tuple_same pl {.ref p,H,I,J,q}
def tyV(K:Frag)(T:String)(x:V)(H:Hp):Z3:=match x with
 |.str _=>T = "str"
 |.int _=>T = "int"
 |.ref p=>(T = "list"/\∃xs,X0 K H p xs)∨(T = "tuple"/\∃o,K.lookup p=some o/\o.cls=.type "tuple"/\o.dict=Z0)∨
   (T = "dict"/\((∃X5,H p=some (.dK X5))∨∃X5,H p=some (.dT X5)))∨(T = "set"/\∃S n,H p=some (.set S n))
 |_=>False
def ac4{X4:mu (nt×Obj)}{σ:St}{H:Hp}{s:qb}{T:String}{x:V}{v:nF}(I:Inv X X4 σ H s)(r:RelV x v)(ty:tyV X.K T x H) :
  s.TypeIs v T/\∀a,v=.ref a->∃g,s.heap.get? a=some g/\g.dict=Z0:=by
 cases x with
 |str z=>let⟨t,rfl⟩:=r;cases (show T = "str" from ty);exact{apl s z t,λ_ e=>nomatch e}
 |int i=>let⟨t,rfl⟩:=r;cases (show T = "int" from ty);exact{typeIs_int s i t,λ_ e=>nomatch e}
 |ref p=>
  cases r;rcases ty with⟨rfl,xs,h⟩|⟨rfl,o,b,j,hd⟩|⟨rfl,b⟩|⟨rfl,S,n,b⟩
  .let⟨l,_,pl,_⟩:=I.list h;refine{pl.isList.typeIs,λa e=>?_};cases e;let⟨o,n,e,c,hd,_⟩:=pl;exact⟨o,e,hd⟩
  .refine{{o,I.kIn p o b,j},λa e=>?_};cases e;exact{o,I.kIn _ o b,hd}
  .let z:∃o,s.heap.get? p=some o/\o.ExactDict:=by
    rcases b with⟨X5,b⟩|⟨X5,b⟩
    .let⟨_,_,_,_,o,_,_,e,ex,_⟩:=I.hok p _ b;exact⟨o,e,ex⟩
    .let⟨_,_,_,_,o,_,_,e,ex,_⟩:=I.hok p _ b;exact⟨o,e,ex⟩
   let⟨o,e,ex⟩:=z;refine{⟨o,e,ex.1⟩,λa f=>?_};cases f;exact⟨o,e,ex.2.1⟩
  .let⟨o,_,_,_,e,ex,_⟩:=I.hok p _ b;refine{⟨o,e,ex.1⟩,λa f=>?_};cases f;exact⟨o,e,ex.2.1⟩
 |_=>exact False.elim ty
def tBM(K:Frag)(T:String)(r:V->mu V->Hp->VK->Z3)(to:TE)(t:TA):TE:=λσ H Q=>to σ H λx H1=>tyV K T x H1/\t σ H1 λxs H2=>r x xs H2 Q
variable{o e:Expr}{es:mu Expr}{to:TE}{t:TA}{name:Z6}{apos cpos:Pos}{T id:String}{r:V->mu V->Hp->VK->Z3}
def j6(j:PlainAttrs T)(f:Slot T name id)(g:typeOf (.builtin id)=pure (.type "method_descriptor"))(l:MtR X id r)(m:PE X o to)(n:PA X (e::es) t)(a:attributeBase o name X.env (eval o X.env)=eval o X.env:=by rfl)(c:((backTo cpos (starEach (e::es) X.env)).all (λx=>!x.1) &&(backToKw cpos (keywordEach [] X.env)).all (λx=>x.1.isSome)
   && decide ((e::es).length +([]:mu Keyword).length +(if ([]:mu Keyword).isEmpty then 0 else 1)<30))=Z1:=by rfl)(b:(apos.endLine==cpos.line)=Z1:=by rfl)(hs:starEach (e::es) X.env =(Z2,eval e X.env)::starEach es X.env:=by rfl)(hplain:(backTo cpos (starEach es X.env)).any (·.1)=Z2:=by rfl) :
  PE X (.Call (.Attribute o name apos) (e::es) [] cpos) (tBM X.K T r to t):=by
 intro X4 s σ H Q I h;refine wpAny_Call_method_late a c b J (thn (m X4 s σ H _ I h) λ v s1 ⟨x,H1,I1,r1,ty,q1⟩=>?_);let⟨h1,h2⟩:=ac4 I1 r1 ty;exists T,id,j,f,g,h1,h2;let i:=n cpos X4 s1 σ H1 _ I1 q1;rw[hs] at i ⊢;refine anZ (by grind)<|aoO ?_;exact thn i λ us s2 ⟨vs,H2,I2,r2,q2⟩=>l X4 s2 σ H2 x vs v us Q I2 r1 r2 q2
end
def MtM(X:Cx)(id:String)(r:V->mu V->Hp->VK->Z3):Z3:=
 ∀(X4:mu (nt×Obj))(s:qb)(σ:St)(H:Hp)(x:V)(xs:mu V)(v:nF)(us:mu nF)(Q:VK),Inv X X4 σ H s->RelV x v->Vals xs us->r x xs H Q →
  wpAny (model X.prog X.w) X.A (call (.builtin id) (v::us)) (EP X X4 σ Q) X.xe s
def Vals.one:∀{x:V}{us:mu nF},Vals [x] us->∃u,us=[u]/\RelV x u
 |_,_,.cons r .nil=>{1,r}
def Vals.rep{xs:mu V}{us:mu nF}(h:Vals xs us):∀k:Z5,Vals (List.replicate k xs).flatten (List.replicate k us).flatten
 |0=>.nil
 |k+1=>by rw[aoe,aoe,ape,ape];exact Vals.append h<|Vals.rep h k
def foldl_rep(a:mu nF):∀(k:Z5)(acc:mu nF),
  List.foldl (λc b=>c++b) acc.toArray (List.replicate k a.toArray) =(acc ++(List.replicate k a).flatten).toArray
 |0,acc=>by simp
 |k+1,acc=>by
  let e:acc.toArray++a.toArray =(acc++a).toArray:=by simp
  let f:(acc++a) ++(List.replicate k a).flatten=acc ++(List.replicate (k+1) a).flatten:=by grind
  rw[←f,←foldl_rep a k (acc++a),←e,aoe,aoP]
section
variable{X:Cx}{X4:mu (nt×Obj)}{σ:St}{H:Hp}{s:qb}{l b:nt}{xs ys zs:mu V}
def Inv.Nu{a its':mu nF}{n:Z5}{f:q8 nF->q8 nF}{t':Z5}(I:Inv X X4 σ H s)(j:H l=some (.lst xs))(e:s.heap.get? l=some {.type "list",Z0,.seq a.toArray n,#[]})(g:f a.toArray=its'.toArray)(i:Vals ys its')(c:ys.length≤Z7) :
  Inv X X4 σ (Z9 H l (.lst ys)) {s with heap:=s.heap.update l (Obj.mapSeq f),toks:=t'}:=by
 let q:=PySem.IsL.update e f;rw[g] at q;refine I.write (x:=l) (e:=l) (by rw[j];exact trivial) (.inl J) (λm u b h=>(amt s.heap (Obj.mapSeq f)<|amW b).trans h) {_,q} ?_;exact{c,its',_,i,q}
def Inv.abx{a:mu nF}{t':Z5}(I:Inv X X4 σ H s)(b:Vals ys a)(c:ys.length≤Z7) :
  Inv X X4 σ (Z9 H (~~~s) (.lst ys)) {s with heap:=s.heap.push {.type "list",Z0,.seq a.toArray,#[]},toks:=t'}:=
 I.laid (λ_ _ q=>al7 _ q) (amd _) {c,a,(0),b,amh _ J}
def Inv.fresh(I:Inv X X4 σ H s):H (~~~s)=Z0:=I.hok.fresh<|amd _
def Inv.x6(I:Inv X X4 σ H s)(b:H l=some (.lst xs)):xs.length≤Z7/\∃(a:mu nF)(n:Z5),Vals xs a/\xs.length=a.length/\s.heap.get? l=some {.type "list",Z0,.seq a.toArray n,#[]}:=by let⟨z,a,n,r,e⟩:=I.hok l _ b;exact⟨z,a,n,r,r.length,e⟩
def DA{n:Z5}(h:n≤Z7):Builtin.List.listTooLong n=Z2:=by unfold Builtin.List.listTooLong;exact amN o5
end
section
variable{X:Cx}
inductive F5(x:V)(vs:mu V)(H:Hp)(Q:VK):Z3
 |m l xs y(_:x=.ref l)(_:vs=[y])(_:H l=some (.lst xs))(_:xs.length<Z7)(_:Q .non (Z9 H l (.lst (xs++[y]))))
def iU:MtM X "list.append" F5:=by intro X4 s σ H x vs v us Q I g f h;let⟨l,xs,y,rfl,rfl,b,i,q⟩:=h;cases g;let⟨u,rfl,c⟩:=f.one;let⟨z,a,n,r,j,e⟩:=I.x6 b;refine aor F.slot_list_append {_,e,J} F.entry_list_append (F.args_list_append_2 _ _) (PySem.list_append l a.toArray n u (by grind)) {e,?_};refine{.non,_,I.Nu (its':=a++[u]) b e o7 (r.append<|.cons c .nil) ?_,J,q};rw[amK,List.length_singleton];omega
inductive Gv(x:V)(vs:mu V)(H:Hp)(Q:VK):Z3
 |m l b xs zs(_:x=.ref l)(_:vs=[.ref b])(_:H l=some (.lst xs))(_:H b=some (.lst zs))(_:xs.length+zs.length≤Z7)(_:Q .non (Z9 H l (.lst (xs++zs))))
def BN:MtM X "list.extend" Gv:=by
 intro X4 s σ H x vs v us Q I A y h;let⟨l,b,xs,zs,rfl,rfl,g,j,B,q⟩:=h;cases A;let⟨u,rfl,i⟩:=y.one;cases i;let⟨z,c,n,r,C,e⟩:=I.x6 g;let⟨L,a,t,p,o,m⟩:=I.x6 j;let hsz:c.toArray.size+a.toArray.size≤Z7:=by grind
 let f:¬(!c.toArray.isEmpty&&Builtin.List.listTooLong (c.toArray.size+a.toArray.size))=Z1:=by rw[DA hsz,Bool.and_false];exact amn
 refine aor F.slot_list_extend {_,e,J} F.entry_list_extend (F.args_list_extend_2 _ _)
  (AutoSeq1.list_extend_list_list_0 l c.toArray n b a.toArray t f (by grind) o5) {e,m,?_}
 refine{.non,_,I.Nu (its':=c++a) g e o7 (r.append p) ?_,J,q};rw[amK];omega
inductive afu(x:V)(y:V)(H:Hp)(Q:VK):Z3
 |m l b xs zs(_:x=.ref l)(_:y=.ref b)(_:H l=some (.lst xs))(_:H b=some (.lst zs))(_:xs.length+zs.length≤Z7)(_:∀p,H p=Z0->Q (.ref p) (Z9 H p (.lst (xs++zs))))
def Zc:OpR X (binaryOp .Add) afu:=by
 intro X4 s σ H x y v u Q I t i h;let⟨l,b,xs,zs,rfl,rfl,m,f,A,q⟩:=h;cases t;cases i;let⟨z,c,n,r,B,e⟩:=I.x6 m;let⟨F,a,C,o,j,g⟩:=I.x6 f;refine PySem.P.add_list e g ?_ (by grind);let p:c.toArray++a.toArray =(c++a).toArray:=by simp
 rw[p];exact{.ref _,_,I.abx (t':=s.toks) (r.append o) (by grind),J,q _ I.fresh}
inductive ZA(x:V)(y:V)(H:Hp)(Q:VK):Z3
 |m l k xs(_:x=.ref l)(_:y=.int k)(_:H l=some (.lst xs))(_:-(2 ^ 63)≤k)(_:k<2 ^ 63)(_:xs.length*k.toNat≤Z7)(_:∀p,H p=Z0->Q (.ref p) (Z9 H p (.lst (List.replicate k.toNat xs).flatten)))
def len_rep{α:Type}(xs:mu α)(k:Z5):(List.replicate k xs).flatten.length=k*xs.length:=by
 induction k with
 |zero=>simp
 |succ k a=>rw[aoe,ape,amK,a,Nat.succ_mul,Nat.add_comm]
def aeC:OpR X (binaryOp .Mult) ZA:=by
 intro X4 s σ H x y v u Q I L B h;let⟨l,k,xs,rfl,rfl,C,h1,h2,A,q⟩:=h;cases L;let⟨t,rfl⟩:=B;let⟨z,b,n,r,O,e⟩:=I.x6 C;let f:b.toArray.size*k.toNat≤Z7:=by grind
 let j:¬b.toArray.size*k.toNat >(2 ^ 63-1) / 8:=by
  let:(Z7:Z5)≤(2 ^ 63-1) / 8:=by decide
  omega
 let i:¬(!Builtin.List.listFitsIndex k)=Z1:=by rw[fitsIndex_both h1 h2];exact amn
 let c:¬Builtin.List.listTooLong (b.toArray.size*k.toNat)=Z1:=by rw[DA f];exact amn
 let g:List.foldl (λp o=>p++o) #[] (List.replicate (if b.toArray.isEmpty=Z1 then 0 else k.toNat) b.toArray) =(List.replicate k.toNat b).flatten.toArray:=by
  let f0:∀m:Z5,List.foldl (λp o=>p++o) #[] (List.replicate m b.toArray) =(List.replicate m b).flatten.toArray:=λm=>by let:=foldl_rep b m [];rwa[List.nil_append] at this
  rw[f0];cases b with
  |nil=>simp
  |cons a S=>rw[al8 o7]
 refine wpAny_binaryOp_repeat_ref (T:="list") (U:="int") o6 {_,e,J} (λs'=>typeIs_int s' k t) noFill_list_mul F.fills_int_mul F.slot_int_rmul repeat_list F.slot_int_index.lookup
  (aor F.slot_int_rmul (typeIs_int s k t) F.entry_int_rmul (F.args_int_rmul_2 _ _) (int___rmul___int_list k t l b.toArray n)
   {e,J,{_,e,J},aor F.slot_list_mul {_,e,J} F.entry_list_mul (F.args_list_mul_2 _ _) (AutoListH.list___mul___list_int_3 l b.toArray n k t i j c) {e,?_}})
 rw[g];exact{.ref _,_,I.abx (t':=s.toks) (r.rep k.toNat) (by rwa[len_rep,Nat.mul_comm]),J,q _ I.fresh}
end
section
variable{prog:q9}{w:wo}{A:Around}{E:nF->qb->Z3}{s:qb}
set_option maxRecDepth 100000 in
end
end L2
namespace Att
open PySem PySem.W PySem.Calls PyProof.Rows
def zN{P:Params}{h:Heap}:∀(ns:mu Z4)(vs:mu nF),WellAll P h vs (ns.map WData.int)->IntsAre vs ns:=by
 intro ns
 induction ns with
 |nil=>intro vs w;rw[aqq] at w;cases w;exact .nil
 |cons n ns c=>
  intro vs w;rw[amR] at w;cases w with
  |cons a b=>cases a;exact .cons _ _<|c _ b
def Lj{l:OpenLaw}{n:Z5}(t:l.most=some n){P:Params}{h:Heap}{args:mu WData}{c:mu nF}(b:l.row.toRowW.claim.pre args=Z1)(j:WellAll P h c args) :
  ∃a vs ns,c=[Value.ref a]/\args=[WData.list (ns.map WData.int)]/\h.get? a=some {.type "list",Z0,.seq vs.toArray,#[]}/\IntsAre vs ns/\ns.length≤n:=by
 let i:WShape.hasAll [] args [.list .int]=Z1:=(pre_splitW b).1;let m:l.pre.holds [] {args:=args}=Z1:=(pre_splitW b).2;let⟨d,r,rfl,h1,h2⟩:=hasAllW_cons i;obtain rfl:=hasAllW_nil h2;let⟨xs,rfl,h3⟩:=hasW_list h1;let⟨ns,rfl⟩:=items_int h3;let f:ns.length≤n:=by
  unfold OpenLaw.pre at m;let h4:(WTm.not (.lt (.lit (.int ↥n)) (.len (.arg 0)))).holds [] {args:=[.list (ns.map .int)]}=Z1:=by let h4:=(holds_andW m).1;rwa[t] at h4
  let h5:=condW_of h4<|w_not<|w_lt w_lit<|w_len_list<|w_arg J;rw[ame] at h5;refine an7 λq=>?_
  let s:↥n <((ns.length:Z5):Z4):=by omega
  first
   |(rw[amA s] at h5;exact absurd h5 o6)
   |(simp at h5;omega)
 cases j with
 |cons o p=>
  cases p;cases o with
  |list u g=>exact{_,_,ns,J,J,u,zN ns _ g,f}
def Kq(l:OpenLaw)(args:mu WData):l.row.toRowW.claim.post args (.bool Z1) args=Z1:=
 postW_of (r:=l.row.toRowW) (X:=(Z1==Z1))
  (show WShape.has [] (.bool Z1) .bool=Z1 by first|rfl|decide|simp[WShape.has,WShape.arms,WShape.armsAll])
  (show(WTm.eq .res<|.lit<|.bool Z1).value [] {args:=args,res:=some<|.bool Z1,after:=args}=some (.bool (Z1==Z1)) from w_eq_bool (w_res J) w_lit) J
def Fi{l:OpenLaw}{n:Z5}{q:q9}{c:mu Z6}{C:(Z6->o9 nF)->Heap->Z3}{z:wo->Heap->Z3}{d:DefRec}(L:l.most=some n)(s:d.params.defaults=[])(call:∀(w:wo)(s₀ b:qb)(mg v:Z6->o9 nF)(p:nt)(o:Obj)(y cd h:nF)(a:nt)(vs:mu nF)(ns:mu Z4),
   Ground q c [] C w s₀ mg v b.heap->z w b.heap →
   b.heap.get? p=some o->o.data=.func (docDef d.name d.params d.body d.scope y cd h)->b.heap.CodeRec cd d.name->mg d.name=some (.ref p) →
   b.heap.get? a=some {.type "list",Z0,.seq vs.toArray,#[]}->IntsAre vs ns->ns.length≤n->b.gens=#[] →
   codeAny (model l.prog w) callerA (.call (.ref p) {[.ref a],[]}) (λr s'=>r=.ok (.ret (.bool Z1))/\OldK b.heap s'.heap/\s'.os=b.os/\AllBare s'.gens) b) :
  WalkO q c C z l.row.toRowW d [] (λf vs=>PySem.call f vs):=by
 intro w s₀ b mg v G Y p o y cd h dV kV S hd t A x U args B as m F O u a0;obtain rfl:dV=.none:=Dflts.none A s;obtain rfl:kV=.none:=Dflts.noKw A;let⟨a,vs,ns,rfl,rfl,i,g,j⟩:=Lj L m u;refine enter_call (anC (call w s₀ b mg v p o y cd h a vs ns G Y S (fd_plain hd) t x i g j U) λr s' H=>?_);let⟨rfl,h2,h3,h4⟩:=H;exact{.inl {.bool Z1,.bool Z1,[],J,λ_=>rfl,.bool Z1,Kq l _,λ_=>{List.Pairwise.nil,λ_ hm=>(nomatch hm)}},h2,h3,h4}
section
variable{prog:q9}{w:wo}{A:Around}{E:nF->qb->Z3}{s:qb}{K:Frag}
def ledger(h:Heap)(L d:nt):mu (nt×Obj):=(List.range h.objs.size).filterMap λa=>if a=L∨a=d then Z0 else(h.get? a).map λo=>(a,o)
end
end Att
namespace L2
open PySem PySem.Spec PyProof.Rows
def BP:∀{vs:mu nF}{ns:mu Z4},IntsAre vs ns->Vals (ns.map Z8) vs
 |_,_,.nil=>.nil
 |_,_,.cons n t h=>.cons ⟨t,J⟩<|BP h
def LX(H:Hp):Z3:=∀b,H b=Z0∨∃o xs,H b=some (.frz o<|.lst xs)
def Mh{P:q9}{w:wo}{K:Frag}{mg Y:Z6->o9 nF}{CX:CXT}{k:Z5}{fa a:nt}{fd:qd}{x:Z6}{sp:Sp}{s₁:qb}{vs:mu nF}{ns:mu Z4}(KX:K.In s₁.heap)(p:s₁.heap.Ns mainGlobals mg)(j:s₁.heap.Ns builtinsNs Y)(a0:∀x:Z6,x≠"__name__"->Y x=bootBuiltins x)(l:s₁.heap.NoLimit)(hg:s₁.gens=#[])(L:s₁.heap.get? a=some {.type "list",Z0,.seq vs.toArray,#[]})(hi:IntsAre vs ns)(hl:ns.length≤Z7)(hr:cO k callerA)(F:∀base:Heap,K.In base->base.Ns mainGlobals mg->aM P w K mg base CX k fa fd [x] sp)(i:∀(s:qb)(u:nF),BindsTo s fd {[u],[]} [(x,u)])(a1:∀H:Hp,LX H->X0 K H a (ns.map Z8)->sp [.ref a] H (λv _=>v=.bl Z1) λ_ _ _=>False)(S:∀H e s',CX [] H s₁ (λ_ _ _=>False) e s'->False) :
  codeAny (model P w) callerA (.call (.ref fa) {[.ref a],[]}) (λr s'=>r=.ok (.ret (.bool Z1))/\OldK s₁.heap s'.heap/\s'.os=s₁.os/\AllBare s'.gens) s₁:=by
 let rv:=BP hi;let C:=hi.length;let g:∀H:Hp,LX H->X0 K H a (ns.map Z8)->HOk P w H s₁.heap->(∀b,H b≠Z0->b=a)->(H a≠Z0->K.lookup a=Z0) →
   codeAny (model P w) callerA (.call (.ref fa) {[.ref a],[]}) (λr s'=>r=.ok (.ret<|.bool Z1)/\OldK s₁.heap s'.heap/\s'.os=s₁.os/\AllBare s'.gens) s₁:=by
  intro H hO hS t hA hK;let c:∀{b:nt}{o:Obj},s₁.heap.get? b=some o->H b=Z0->(sF s₁.heap H).get? b=some o:=λe n=>MS e n
  let U:∀{b:nt}{o:Obj}{es:q8 DictEntry}{ep:Z5},s₁.heap.get? b=some o->o.data=.dict es ep->H b=Z0:=λ{b o es ep}e d=>by
   cases q:H b with
   |none=>rfl
   |some u=>have O:b=a:=hA b (by rw[q];simp);subst O;rw[L] at e;cases e;let d':Data.seq vs.toArray _=Data.dict es ep:=d;cases d'
  let f:∀{b:nt}{m:Z6->o9 nF},s₁.heap.Ns b m->(sF s₁.heap H).Ns b m:=λ {b m} ⟨o,es,ep,e,d,r⟩=>{o,es,ep,c e<|U e d,d,r}
  let B:K.In (sF s₁.heap H):=λb o e=>c (KX b o e) (by
   cases q:H b with
   |none=>rfl
   |some u=>have O:b=a:=hA b (by rw[q];simp);subst O;rw[hK (by rw[q];simp)] at e;cases e)
  let hM:Mod K mg (sF s₁.heap H):={B,f p,{Y,f j,a0},let ⟨mc,h1,h2⟩:=l;{mc,f h1,h2}};let e0:xX P w K mg (sF s₁.heap H) callerA [] s₁ H:={J,hM,λb o e=>U8 e,aqp<|JA _ _,trivial,λb j=>absurd (show b∈([]:mu nt) from j) o7,t,.of_eq hg};refine anC ((F _ B<|f p).run callerA [] s₁ H {[.ref a],[]} [.ref a] [.ref a] _ _ hr e0 (i s₁<|.ref a) (.cons J .nil)<|a1 H hO hS) λr s' h=>?_
  cases r with
  |error e=>exact(S H e s' h).elim
  |ok fl=>
   cases fl with
   |next=>exact False.elim h
   |brk=>exact False.elim h
   |cont=>exact False.elim h
   |ret u=>
    let⟨v,H',os,y,un,A,r',q⟩:=h;let q':v=.bl Z1:=q;subst q';obtain rfl:u=Value.bool Z1:=r';refine{J,OldK.of_keep λb o e=>?_,os,y};cases q:H b with
    |none=>exact un.keep b o e q (by intro z;exact absurd (show b∈([]:mu nt) from z) o7) o7
    |some u=>
     rcases hO b with z|⟨ob,xs,z⟩
     .rw[q] at z;cases z
     .let z2:=un.oz b ob _ z;let⟨e1,_⟩:=t b _ z;let⟨e2,_⟩:=A b _ z2;rw[e] at e1;cases e1;exact e2
 cases hk:K.lookup a with
 |some o=>have e:=KX a o hk;rw[L] at e;cases e;refine g (λ_=>Z0) (λ_=>.inl J) (.inr {_,vs.toArray,_,hk,J,J,J,by rwa[anw,C],⇑rv}) (λb u z=>by let z':(Z0:o9 HO)=some u:=z;cases z') (λb z=>absurd J z) λz=>absurd J z
 |none=>
  refine g (λb=>if b=a then some (.frz {.type "list",Z0,.seq vs.toArray,#[]}<|.lst<|ns.map Z8) else Z0) (λb=>?_) (.inl<|.inr {{.type "list",Z0,.seq vs.toArray,#[]},ama J}) (λb u z=>?_) (λb z=>?_) λ_=>hk
  .grind
  .by_cases j:b=a
   .let z':=(ama j).symm.trans z;cases z';subst j;exact{L,by rwa[ame],vs,_,rv,L}
   .grind
  .grind
abbrev KOf{K:Frag}{h:Heap}(_:K.In h):Frag:=K
def UW{l:OpenLaw}{n k:Z5}{q:q9}{i:mu Z6}{XP:(Z6->o9 nF)->Heap->Z3}{L:wo->Heap->Z3}{d:DefRec}{K:Params->Frag}{CX:wo->CXT}{sp:wo->Sp}{x:Z6}(U:l.most=some n)(A:n≤Z7)(t:d.params.defaults=[])(hr:cO k callerA)(hY:∀(w:wo)(h:Heap),L w h->(K w.params).In h)(F:∀(w:wo)(mg:Z6->o9 nF)(r:nt)(h:Heap),(K w.params).In h->h.Ns mainGlobals mg->mg d.name=some (.ref r) →
   ∃fd:qd,(∀(s:qb)(u:nF),BindsTo s fd {[u],[]} [(x,u)])∧
    ∀base:Heap,(K w.params).In base->base.Ns mainGlobals mg->aM l.prog w (K w.params) mg base (CX w) k r fd [x] (sp w))(B:∀(w:wo)(H:Hp)(a:nt)(ns:mu Z4),ns.length≤n->LX H->X0 (K w.params) H a (ns.map Z8)->sp w [.ref a] H (λv _=>v=.bl Z1) λ_ _ _=>False)(y:∀(w:wo)(H:Hp)(s:qb)(e:nF)(s':qb),CX w [] H s (λ_ _ _=>False) e s'->False) :
  WalkO q i XP L l.row.toRowW d [] (λf vs=>PySem.call f vs):=by
 refine Att.Fi U t λw s₀ m mg mb r o pm cd a0 a vs ns G Y ho hd S z p j c hg=>?_
 let C:=hY w _ Y;let⟨fd,O,hF⟩:=F w mg r _ C G.T.g z;exact Mh C G.T.g G.T.b G.T.builtins G.T.nolimit hg p j (amo c A) hr hF O (λH hO hS=>B w H a ns c hO hS) λH e s'=>y w H m e s'
end L2
namespace L2
open PySem PySem.Spec PyProof.Rows
def inClass(s:Stmt)(j:Z5):Stmt:=match s with
 |.ClassDef _ _ _ a _ _ _ _ _ _ _=>a.getD j<|.Pass {(0),(0),(0),(0)}
 |_=>.Pass {(0),(0),(0),(0)}
def er(s:Stmt):Arguments:=match s with
 |.FunctionDef _ a _ _ _ _ _ _ _ _=>a
 |_=>{posonlyargs:=[],args:=[],vararg:=Z0,kwonlyargs:=[],kw_defaults:=[],kwarg:=Z0,defaults:=[]}
def c7(s:Stmt):mu Stmt:=match s with
 |.FunctionDef _ _ b _ _ _ _ _ _ _=>b
 |_=>[]
def az(s:Stmt):Scope:=match s with
 |.FunctionDef _ _ _ _ _ _ a _ _ _=>a
 |_=>{kind:=.function,names:=[],isGenerator:=Z2,isCoroutine:=Z2}
abbrev E0:XK:=λ_ _ _=>False
structure Fun(K:Frag)(x qual:Z6)(st:Stmt)(f:nt)(fd:qd):Z3 where
 ex:∃(oc:nF)(od:o9 nt)(kV doc pm:nF)(an:o9 nt)(cdv ct:nF)(osl:q8 (o9 nF)),
  fd=fnOf x qual (er st) (c7 st) (az st) .none kV doc pm an cdv ct/\K.lookup f=some {oc,od,.func fd,osl}/\codeIn K cdv qual=Z1
 kp:keepIn K (.ref f)=Z1
section
variable{P:q9}{w:wo}{K:Frag}{mg:Z6->o9 nF}{base:Heap}
def Fun.binds{x qual:Z6}{st:Stmt}{f:nt}{fd:qd}{ps:mu Z6}(F:Fun K x qual st f fd)(h:∀(kV a g:nF)(c:o9 nt)(b ct:nF)(us:mu nF),us.length=ps.length->bindArgs (fnOf x qual (er st) (c7 st) (az st) .none kV a g c b ct) {us,[]}=pure (ps.zip us)):Binds K fd ps []:=by let⟨l,od,kV,a,g,c,b,ct,i,rfl,lk,j⟩:=F.ex;exact .all<|h kV a g c b ct
def Za{x qual:Z6}{st:Stmt}{f:nt}{j:nF}{od h:o9 nt}{g:q8 (o9 nF)}{kV b i a ct:nF}(l:K.lookup f=some {j,od,.func (fnOf x qual (er st) (c7 st) (az st) .none kV b i h a ct),g})(c:codeIn K a qual=Z1)(k:keepIn K (.ref f)=Z1):Fun K x qual st f (fnOf x qual (er st) (c7 st) (az st) .none kV b i h a ct):={⟨j,od,kV,b,i,h,a,ct,g,J,l,c⟩,k}
end
def sG{A:Around}{k:Z5}(a:cO k A):A.units+1<cLine:=anW (Nat.add_le_add_left (by decide:1≤64) _) a.units
def bF{n:Z5}(h:n≤1000):n<Z7:=anW h o6
section
variable{X:Cx}
def pv(i:Z5){x:Z6}{pos:Pos}(c:X.N[i]?=some x:=by rfl)(b:Vis X.env.scope x:=by first|exact Or.inl rfl|exact Or.inr (Or.inl J)|exact Or.inr (Or.inr J))(hd:(x ==("__debug__":Str))=Z2:=by decide)(a:(x ==("__classdict__":Str))=Z2:=by decide):PE X (.Name x pos) (MR i):=Yk c b hd a
end
def iK{A B:Z3}(h:B):if Z2=Z1 then A else B:=by grind
def iz{A B:Z3}(h:A):if Z1=Z1 then A else B:=by grind
def MG{c A B:Z3}[Decidable c](h1:c->A)(h2:¬c->B):if c then A else B:=by grind
def R9{c A B:Z3}[Decidable c](a:c)(h:B):if (!decide c)=Z1 then A else B:=by grind
def ao(H H':Hp):Z3:=∀b o,H b=some o->H' b=some o
def ao.refl(H:Hp):ao H H:=λ_ _ h=>h
def ao.trans{H H1 H2:Hp}(a:ao H H1)(b:ao H1 H2):ao H H2:=λc o h=>b c o<|a c o h
def ao.free{H H':Hp}(e:ao H H'){l:nt}(h:H' l=Option.none):H l=Option.none:=by
 cases q:H l with
 |none=>rfl
 |some o=>rw[e l o q] at h;cases h
def ao.seq{K:Frag}{H H':Hp}{a:nt}{xs:mu V}(e:ao H H')(h:X0 K H a xs):X0 K H' a xs:=by
 rcases h with(h|⟨o,h⟩)|h
 .exact .inl (.inl<|e _ _ h)
 .exact .inl (.inr {o,e _ _ h})
 .exact .inr h
end L2
set_option maxHeartbeats 4000000
namespace L2
open PySem PySem.Spec PyProof.Rows
section
variable{κ:Type}[DecidableEq κ]
def bu(X5:mu (κ×V))(k:κ):o9 V:=(X5.find? λa=>decide (a.1=k)).map (·.2)
def putK(X5:mu (κ×V))(k:κ)(v:V):mu (κ×V):=
 if (X5.any λa=>decide (a.1=k))=Z1 then X5.map (λa=>if a.1=k then(a.1,v) else a) else X5++[(k,v)]
def fV{p:κ×V}{r:mu (κ×V)}{k:κ}(e:p.1=k):bu (p::r) k=some p.2:=by simp[bu,List.find?_cons,e]
def fU{p:κ×V}{r:mu (κ×V)}{k:κ}(e:¬p.1=k):bu (p::r) k=bu r k:=by simp[bu,List.find?_cons,e]
def iX(k:κ):∀X5:mu (κ×V),(X5.any λa=>decide (a.1=k)) =(bu X5 k).isSome
 |[]=>rfl
 |p::r=>by
  rw[aob];by_cases e:p.1=k
  .simp only[fV e,decide_eq_true e,Bool.true_or,Option.isSome_some]
  .rw[fU e,amN e,Bool.false_or];exact iX k r
def DY(k j:κ)(y:V):∀X5:mu (κ×V),bu (X5.map λa=>if a.1=k then(a.1,y) else a) j =(bu X5 j).map λx=>if j=k then y else x
 |[]=>rfl
 |p::r=>by
  let b:=DY k j y r;rw[amR];by_cases h:p.1=k
  .rw[ama h];by_cases e:p.1=j
   .rw[fV (p:=(p.1,y)) e,fV e,aoQ,ama<|e.symm.trans h]
   .rw[fU (p:=(p.1,y)) e,fU e,b]
  .rw[al8 h];by_cases e:p.1=j
   .rw[fV (p:=p) e,fV e,aoQ,al8 λz=>h<|e.trans z]
   .rw[fU (p:=p) e,fU e,b]
def Bp(k j:κ)(y:V):∀X5:mu (κ×V),bu X5 k=Z0->bu (X5++[(k,y)]) j=if j=k then some y else bu X5 j
 |[],_=>by
  by_cases e:k=j
  .rw[ama e.symm];exact fV (p:=(k,y)) e
  .rw[al8 λz=>e z.symm];exact fU (p:=(k,y)) e
 |p::r,hn=>by
  rw[List.cons_append];let a:¬p.1=k:=λz=>by rw[fV z] at hn;cases hn
  rw[fU a] at hn;let b:=Bp k j y r hn;by_cases e:p.1=j
  .rw[fV e,fV e,al8 λz=>a<|e.trans z]
  .rw[fU e,fU e,b]
def kC(X5:mu (κ×V))(k j:κ)(y:V):bu (putK X5 k y) j=if j=k then some y else bu X5 j:=by
 unfold putK;by_cases a:(X5.any λc=>decide (c.1=k))=Z1
 .rw[ama a,DY];rw[iX] at a;by_cases e:j=k
  .let⟨x,b⟩:=aoj.mp a;rw[ama e,e,b,aoQ,ama rfl]
  .rw[al8 e];cases bu X5 j with
   |none=>rfl
   |some x=>rw[aoQ,al8 e]
 .rw[al8 a];refine Bp k j y X5 ?_;rw[iX] at a;cases q:bu X5 k with
  |none=>rfl
  |some x=>rw[q] at a;exact(a J).elim
def ng(X5:mu (κ×V))(k:κ)(v:V):(putK X5 k v).length≤X5.length+1:=by
 unfold putK;split
 .rw[ame];omega
 .rw[amK,anM,List.length_nil];omega
def MH{X5:mu (κ×V)}{k:κ}(v:V)(h:bu X5 k=Z0):putK X5 k v=X5++[(k,v)]:=by unfold putK;rw[iX,h];exact al8 o6
def gR.uH{o:o9 V}{u:o9 nF}(r:gR o u):o.isSome=u.isSome:=by
 cases o with
 |none=>cases u with
  |none=>rfl
  |some _=>exact(show False from r).elim
 |some _=>cases u with
  |none=>exact(show False from r).elim
  |some _=>rfl
def gR.getD{o:o9 V}{u:o9 nF}{d:V}{d':nF}(r:gR o u)(rd:RelV d d'):RelV (o.getD d) (u.getD d'):=by
 cases o with
 |none=>cases u with
  |none=>exact rd
  |some _=>exact(show False from r).elim
 |some _=>cases u with
  |none=>exact(show False from r).elim
  |some _=>exact r
def KV.val{X5:mu (κ×V)}{vs:mu (κ×nF)}(r:KV X5 vs)(k:κ):gR (bu X5 k) (valueAt vs k):=by
 unfold KV at r
 induction r with
 |nil=>exact True.intro
 |@cons p q ps qs h t ih=>
  let⟨h1,h2⟩:=h;by_cases e:p.1=k
  .let a:q.1=k:=h1.symm.trans e;let b:valueAt (q::qs) k=some q.2:=by simp[valueAt,List.find?_cons,a]
   rwa[fV e,b]
  .let a:¬q.1=k:=λz=>e (h1.trans z)
   let b:valueAt (q::qs) k=valueAt qs k:=by simp[valueAt,List.find?_cons,a]
   rwa[fU e,b]
def KV.any{X5:mu (κ×V)}{vs:mu (κ×nF)}(r:KV X5 vs)(k:κ):(X5.any λa=>decide (a.1=k))=vs.any λa=>decide (a.1=k):=by
 unfold KV at r
 induction r with
 |nil=>rfl
 |cons h t b=>rw[aob,aob,b,h.1]
def KV.repl{X5:mu (κ×V)}{vs:mu (κ×nF)}(r:KV X5 vs)(k:κ){y:V}{u:nF}(b:RelV y u) :
  KV (X5.map λa=>if a.1=k then(a.1,y) else a) (vs.map λa=>if a.1=k then(a.1,u) else a):=by
 unfold KV at r ⊢
 induction r with
 |nil=>exact .nil
 |@cons p q ps qs h t ih=>
  rw[amR,amR];refine .cons ?_ ih;let⟨h1,h2⟩:=h;by_cases e:p.1=k
  .rw[ama e,ama<|h1.symm.trans e];exact⟨h1,b⟩
  .rw[al8 e,al8 λz=>e<|h1.trans z];exact⟨h1,h2⟩
def KV.put{X5:mu (κ×V)}{vs:mu (κ×nF)}(r:KV X5 vs)(k:κ){y:V}{u:nF}(a:RelV y u):KV (putK X5 k y) (stored vs k u):=by
 unfold putK stored;rw[r.any k];by_cases e:(vs.any λb=>decide (b.1=k))=Z1
 .rw[ama e,ama e];exact r.repl k a
 .rw[al8 e,al8 e];exact Paired.snoc r ⟨J,a⟩
def KV.keys{X5:mu (κ×V)}{vs:mu (κ×nF)}(r:KV X5 vs):X5.map (·.1)=vs.map (·.1):=by
 unfold KV at r
 induction r with
 |nil=>rfl
 |cons h t a=>rw[amR,amR,a,h.1]
def KV.length{X5:mu (κ×V)}{vs:mu (κ×nF)}(r:KV X5 vs):X5.length=vs.length:=Paired.length r
end
def oH{P:q9}{w:wo}{k:Key}{u:nF}(r:RelV (kV k) u):(cg P w).is k u=Z1:=by
 cases k with
 |inl i=>let⟨t,e⟩:=(show ∃t,u=Value.int i t from r);subst e;exact FT P w i t
 |inr x=>let⟨t,e⟩:=(show ∃t,u=Value.str x t from r);subst e;exact FO P w x t
def BB{P:q9}{w:wo}:∀{a:mu Key}{us:mu nF},Vals (a.map kV) us->ItemsAre (cg P w) a us
 |[],_,r=>by rw[aqq] at r;cases r;exact .nil
 |k::a,_,r=>by
  rw[amR] at r;cases r with
  |cons h t=>exact .cons (oH h)<|BB t
abbrev KT(H:Hp):mu (mu Key×V)->mu (mu Key×nt×nF)->Z3:=Paired λp q=>p.1=q.1/\H q.2.1=some (.tup<|p.1.map kV)/\RelV p.2 q.2.2
def KT.val{H:Hp}{X5:mu (mu Key×V)}{xs:mu (mu Key×nt×nF)}(r:KT H X5 xs)(k:mu Key):gR (bu X5 k) ((atKey xs k).map (·.2)):=by
 induction r with
 |nil=>exact True.intro
 |@cons p q ps qs h t ih=>
  let⟨h1,_,h2⟩:=h;by_cases e:p.1=k
  .let a:q.1=k:=h1.symm.trans e;let b:atKey (q::qs) k=some q.2:=by simp[atKey,List.find?_cons,a]
   rwa[fV e,b]
  .let a:¬q.1=k:=λz=>e (h1.trans z)
   let b:atKey (q::qs) k=atKey qs k:=by simp[atKey,List.find?_cons,a]
   rwa[fU e,b]
def KT.repl{H:Hp}{X5:mu (mu Key×V)}{xs:mu (mu Key×nt×nF)}(r:KT H X5 xs)(k:mu Key){y:V}{u:nF}(b:RelV y u) :
  KT H (X5.map λa=>if a.1=k then(a.1,y) else a) (xs.map (putAt k u)):=by
 induction r with
 |nil=>exact .nil
 |@cons p q ps qs h t ih=>
  rw[amR,amR];refine .cons ?_ ih;let⟨h1,h2,h3⟩:=h;unfold putAt;by_cases e:p.1=k
  .rw[ama e,ama<|h1.symm.trans e];exact⟨h1,h2,b⟩
  .rw[al8 e,al8 λz=>e<|h1.trans z];exact⟨h1,h2,h3⟩
def KT.put{H:Hp}{X5:mu (mu Key×V)}{xs:mu (mu Key×nt×nF)}(r:KT H X5 xs)(k:mu Key){b:nt}{y:V}{u:nF}(c:H b=some (.tup (k.map kV)))(a:RelV y u) :
  KT H (putK X5 k y) (storedH xs k b u):=by
 let e:(X5.any λf=>decide (f.1=k)) =(atKey xs k).isSome:=by rw[iX,(r.val k).uH,apf]
 unfold putK storedH;rw[e];by_cases q:(atKey xs k).isSome=Z1
 .rw[ama q,ama q];exact r.repl k a
 .rw[al8 q,al8 q];exact Paired.snoc r ⟨J,c,a⟩
def KT.keeps{H H':Hp}{X5:mu (mu Key×V)}{xs:mu (mu Key×nt×nF)}(r:KT H X5 xs)(a:∀b ys,H b=some (.tup ys)->H' b=some (.tup ys)):KT H' X5 xs:=
 Paired.Nh r λ_ _ z=>{z.1,a _ _ z.2.1,z.2.2}
section
variable{P:q9}{w:wo}{H:Hp}{h:Heap}{a:nt}
def OO{u:HO}(ok:HOk P w H h)(e:Rd H a u):cu P w H h a u:=e.ok ok
def wY{X5:mu (Key×V)}(ok:HOk P w H h)(e:Rd H a (.dK X5)):X5.length≤Z7/\(a==sysModules)=Z2/\∃vs,KV X5 vs/\h.DictOf (cg P w) a vs:=
 show cu P w H h a (.dK X5) from OO ok e
def HY{X5:mu (Key×V)}(ok:HOk P w H h)(e:H a=some (.dK X5)):X5.length≤Z7/\(a==sysModules)=Z2/\∃vs,KV X5 vs/\h.DictOf (cg P w) a vs:=wY ok<|.inl e
def vd{b:mu Key}(ok:HOk P w H h)(e:H a=some (.tup (b.map kV))):(tupleKind (cg P w)).is h b a:=by let⟨_,c,r,o,h1,h2,n,h3⟩:=(show cu P w H h a (.tup<|b.map kV) from ok a _ e);exact{o,c.toArray,n,h1,h2,h3,⇑(BB r)}
def wW{X5:mu (mu Key×V)}(ok:HOk P w H h)(e:Rd H a (.dT X5)):X5.length≤Z7/\(a==sysModules)=Z2∧
  ∃xs,KT H X5 xs/\h.DictOfH (tupleKind (cg P w)) a xs:=by
 let⟨z,y,xs,r,o,es,ep,h1,h2,h3,h4,h5⟩:=(show cu P w H h a (.dT X5) from OO ok e);refine{z,y,xs,r,o,es,ep,h1,h2,h3,h4,λx b=>?_,h5};let all:∀{l:mu (mu Key×V)}{m:mu (mu Key×nt×nF)},KT H l m->∀ x∈m,(tupleKind (cg P w)).is h x.1 x.2.1:=by
  intro l m q
  induction q with
  |nil=>intro x b;exact nomatch b
  |@cons p q ps qs hq t ih=>
   intro x b;rcases amq.mp b with e|b
   .subst e;exact vd ok (by rw[←hq.1];exact hq.2.1)
   .exact ih x b
 exact all r x b
def akc{X5:mu (mu Key×V)}(ok:HOk P w H h)(e:H a=some (.dT X5)):X5.length≤Z7/\(a==sysModules)=Z2∧
  ∃xs,KT H X5 xs/\h.DictOfH (tupleKind (cg P w)) a xs:=wW ok<|.inl e
end
def qe(H:Hp)(a:nt)(y:V)(r:o9 V):Z3:=
 (∃X5 k,Rd H a (.dK X5)/\y=kV k/\r=bu X5 k)∨∃X5 k b,Rd H a (.dT X5)/\y=.ref b/\H b=some (.tup<|k.map kV)/\r=bu X5 k
def yc(H:Hp)(a:nt)(y v:V)(H':Hp):Z3:=
 (∃X5 k,H a=some (.dK X5)/\y=kV k/\X5.length<Z7/\H'=Z9 H a (.dK<|putK X5 k v))∨
 ∃X5 k b,H a=some (.dT X5)/\y=.ref b/\H b=some (.tup<|k.map kV)/\X5.length<Z7/\H'=Z9 H a (.dT<|putK X5 k v)
def qe.k{H:Hp}{a:nt}{X5:mu (Key×V)}{k:Key}(e:H a=some (.dK X5)):qe H a (kV k) (bu X5 k):=.inl {X5,k,.inl e,J,J}
def yc.k{H:Hp}{a:nt}{X5:mu (Key×V)}{k:Key}{v:V}(e:H a=some (.dK X5))(b:X5.length<Z7):yc H a (kV k) v (Z9 H a (.dK (putK X5 k v))):=.inl ⟨X5,k,e,J,b,J⟩
section
variable{X:Cx}{X4:mu (nt×Obj)}{σ:St}{H:Hp}{s:qb}{a:nt}{y v:V}{u r:nF}{o:o9 V}{A:Around}{E:nF->qb->Z3}
def Inv.big(I:Inv X X4 σ H s):sysModules<(~~~s):=by let h:mainGlobals<(~~~s):=(I.mod.glob.keeps I.bk).lt;exact aoR o6 h
def LW{Q:nF->qb->Z3}(t:A.units+1<cLine)(I:Inv X X4 σ H s)(g:qe H a y (some v))(q:RelV y u)(h:∀i s',Inv X X4 σ H s'->RelV v i->Q i s') :
  wpAny (model X.prog X.w) A (getItem (.ref a) u) Q E s:=by
 rcases g with⟨X5,k,e,n,l⟩|⟨X5,k,b,e,n,r,l⟩
 .subst n;let⟨z,hd,vs,c,dd⟩:=wY I.hok e;let⟨i,m,f⟩:=gR.some_of (v:=v) (o:=valueAt vs k) (by rw[l];exact c.val k);exact apv (oH q) dd.mapOf m<|h i _ (I.tok _) f
 .subst n;cases (show u=Value.ref b from q);let⟨z,hd,xs,c,dd⟩:=wW I.hok e;let⟨i,m,f⟩:=gR.some_of (v:=v) (o:=(atKey xs k).map (·.2)) (by rw[l];exact c.val k);let⟨p,x,j⟩:=ami.mp m;refine wpAny_getItem_heap (aok t) (vd I.hok r) dd x ?_;rw[j];exact h i _ (I.tok _) f
def Vu{Q:nF->qb->Z3}(m:A.units+1<cLine)(I:Inv X X4 σ H s)(g:qe H a y o)(i:RelV y u)(h:∀s',Inv X X4 σ H s'->Q (.bool (!o.isSome)) s') :
  wpAny (model X.prog X.w) A (compareOp .NotIn u (.ref a)) Q E s:=by
 rcases g with⟨X5,k,e,f,l⟩|⟨X5,k,b,e,f,j,l⟩
 .subst f;let⟨z,hd,vs,c,dd⟩:=wY I.hok e;refine wpAny_notIn_of (oH i) hd dd.mapOf ?_;rw[←(c.val k).uH,←l];exact h _<|I.tok _
 .subst f;cases (show u=Value.ref b from i);let⟨z,hd,xs,c,dd⟩:=wW I.hok e;refine wpAny_notIn_heap (aok m) (vd I.hok j) hd dd ?_;let q:=(c.val k).uH;rw[apf] at q;rw[←q,←l];exact h _<|I.tok _
def zT{h':Heap}{t':Z5}{c:HO}(I:Inv X X4 σ H s)(g:Mut (H a))(hs:Heap.SameBut a s.heap h')(he:∃q,h'.get? a=some q)(new:cu X.prog X.w (Z9 H a c) h' a c) :
  Inv X X4 σ (Z9 H a c) {s with heap:=h',toks:=t'}:=
 I.write (x:=a) (e:=a) g (.inl J) (λb q f z=>(hs.2 b f).trans z) he new
def Kz{P:q9}{w:wo}{H':Hp}{h':Heap}{X5:mu (Key×V)}{vs:mu (Key×nF)}(z:X5.length≤Z7)(hd:(a==sysModules)=Z2)(b:KV X5 vs)(dd:h'.DictOf (cg P w) a vs) :
  cu P w H' h' a (.dK X5):=⟨z,hd,vs,b,dd⟩
def Lx{H':Hp}{Q:Unit->qb->Z3}(C:A.units+1<cLine)(I:Inv X X4 σ H s)(g:yc H a y v H')(x:RelV y u)(B:RelV v r)(h:∀s',Inv X X4 σ H' s'->Q () s') :
  wpAny (model X.prog X.w) A (setItem (.ref a) u r) Q E s:=by
 rcases g with⟨X5,k,e,p,l,o⟩|⟨X5,k,b,e,p,t,l,o⟩
 .subst p o;let⟨z,hd,vs,f,dd⟩:=HY I.hok e;let m:vs.length≤Z7:=by rwa[←f.length]
  let n:(putK X5 k v).length≤Z7:=by let:=ng X5 k v;omega
  refine wpAny_setItem_pairs (hsz:=m) (oH x) dd λh' i hs=>h _ ?_
  let he:∃q,h'.get? a=some q:=let ⟨q,_,_,j,_⟩:=i;⟨q,j⟩;exact zT I (by rw[e];exact True.intro) hs he<|Kz n hd (f.put k B) i
 .subst p o;cases (show u=Value.ref b from x);let⟨z,hd,xs,f,dd⟩:=akc I.hok e;let m:xs.length≤Z7:=by rwa[←Paired.length f]
  let n:(putK X5 k v).length≤Z7:=by let:=ng X5 k v;omega
  refine wpAny_setItem_heap (hsz:=m) (aok C) (vd I.hok t) dd λh' i hs=>h _ ?_
  let⟨q,es,ep,j,h2,h3,h4,_,h5⟩:=i;refine zT I (by rw[e];exact True.intro) hs ⟨q,j⟩ {n,hd,_,(f.put k t B).keeps λc ys ec=>?_,q,es,ep,j,h2,h3,h4,h5};rw[au<|c9 ec e λz=>nomatch z];exact ec
end
def IC(i:Expr):Z3:=∀a b,subscripted i Z2 a b=operate [a,b] (getItem a b)
def Av{prog:q9}{w:wo}{A:Around}{E:nF->qb->Z3}{s:qb}{env:Env}{value a:Expr}{pos:Pos}{T id:String}{Q:nF->qb->Z3}(n:typeLookup (.type T) "__getitem__" = pure (some (.builtin id)))(hs:IC a)(h:wpAny (model prog w) A (eval value env) (λo f=>wpAny (model prog w) A (eval a env) (λi s₂=>s₂.TypeIs o T/\wpAny (model prog w) A (getItem o i) Q E s₂) E f) E s) :
  wpAny (model prog w) A (eval (.Subscript value a pos) env) Q E s:=by
 refine Subscript_ (amB h (λo f l=>amB l (λi s₂ b=>?_) λ_ _ x=>x) λ_ _ x=>x);let⟨m,b⟩:=b;unfold subscriptTail;refine al6 ?_;rw[getitemInPython_of_ne m.not_modules];refine al6<|aoS m n ?_;let g:wpAny (model prog w) A (subscripted a Z2 o i) (λr c=>wpAny (model prog w) A (letTemporaryGo value o r >>= λ_=>pure r) Q E c) E s₂:=by rw[hs o i];exact wpAny_operating (amB b (λr c j=>al6<|wpAny_letTemporaryGo<|al9 j) λ_ _ x=>x)
 first
  |exact al9<|al6 g
  |exact al6<|al9<|al6 g
  |exact al6 g
def Ft{X:Cx}{X4:mu (nt×Obj)}{σ:St}{H:Hp}{s:qb}{a:nt}{y:V}{o:o9 V}(I:Inv X X4 σ H s)(g:qe H a y o):s.TypeIs (.ref a) "dict":=by
 rcases g with⟨X5,k,e,_,_⟩|⟨X5,k,b,e,_,_,_⟩
 .let⟨_,_,vs,_,dd⟩:=wY I.hok e;exact dd.typeIs
 .let⟨_,_,xs,_,dd⟩:=wW I.hok e;exact dd.typeIs
inductive FY(Q:VK)(x:V)(y:V)(H2:Hp):Z3
 |m a v(_:x=.ref a)(_:qe H2 a y (some v))(_:Q v H2)
def ajv(td ty:TE):TE:=λσ H Q=>td σ H λx H1=>ty σ H1 λy H2=>FY Q x y H2
inductive Bq(Q:VK)(y:V)(x:V)(H2:Hp):Z3
 |m a o(_:x=.ref a)(_:qe H2 a y o)(_:Q (.bl (!o.isSome)) H2)
def Vs(ty td:TE):TE:=λσ H Q=>ty σ H λy H1=>td σ H1 λx H2=>Bq Q y x H2
inductive Gg(D:Ends)(σ:St)(v:V)(x:V)(y:V)(H3:Hp):Z3
 |m a H4(_:x=.ref a)(_:yc H3 a y v H4)(_:D.nx σ H4)
def aji(td ty tv:TE):TS:=λD σ H=>tv σ H λv H1=>td σ H1 λx H2=>ty σ H2 λy a=>Gg D σ v x y a
section
variable{X:Cx}{o i e value:Expr}{pos pos' tpos:Pos}{td ty tv:TE}
def VC(c:X.A.units+1<cLine)(j:PE X o td)(hi:PE X i ty)(hs:IC i):PE X (.Subscript o i pos) (ajv td ty):=by intro X4 s σ H Q I h;refine Av aoh.lookup hs (thn (j X4 s σ H _ I h) λ u s1 ⟨x,H1,I1,rx,q1⟩=>thn (hi X4 s1 σ H1 _ I1 q1) λ m s2 ⟨y,H2,I2,ry,a,v,ex,g,q2⟩=>?_);subst ex;obtain rfl:u=Value.ref a:=rx;exact{Ft I2 g,LW c I2 g ry λl s3 f b=>⟨v,H2,f,b,q2⟩}
def A9(f:X.A.units+1<cLine)(hi:PE X i ty)(c:PE X o td):PC X .NotIn i o (Vs ty td):=by
 intro X4 s σ H Q I h;refine thn (hi X4 s σ H _ I h) λ j s1 ⟨y,H1,I1,ry,q1⟩=>thn (c X4 s1 σ H1 _ I1 q1) λ u s2 ⟨x,H2,I2,rx,a,ov,ex,g,q2⟩=>?_
 subst ex;obtain rfl:u=Value.ref a:=rx;exact Vu f I2 g ry λs3 b=>{.bl (!ov.isSome),H2,b,J,q2}
def AA(b:X.A.units+1<cLine)(f:PE X o td)(hi:PE X i ty)(c:PE X value tv)(hs:swapsWith value (some (.Subscript o i pos')) pos.line X.env=pure Z2) :
  PS X (.Assign [.Subscript o i pos'] value pos) (aji td ty tv):=by
 intro X4 s σ H D I h;refine wpAny_Assign_Subscript (thn (c X4 s σ H _ I h) λ r s1 ⟨v,H1,I1,rv,q1⟩=>thn (f X4 s1 σ H1 _ I1 q1) λ u s2 ⟨x,H2,I2,rx,q2⟩=>thn (hi X4 s2 σ H2 _ I2 q2) λ l s3 ⟨y,H3,I3,ry,a,H4,ex,g,q3⟩=>?_) hs;subst ex;obtain rfl:u=Value.ref a:=rx;exact Lx b I3 g ry rv λs4 j=>⟨σ,H4,j,q3⟩
end
def Mc{P:q9}{w:wo}{H:Hp}(h:Heap)(a:sysModules<h.objs.size):cu P w H (h.push {.type "dict",Z0,.dict #[],#[]}) h.objs.size (.dK []):=
 {amE _,beq_eq_false_iff_ne.mpr<|amW<|amu a,[],.nil,Heap.DictOf.new h}
def Zb:TE:=λ_ H Q=>∀p,H p=Z0->Q (.ref p) (Z9 H p<|.dK [])
section
variable{X:Cx}{pos:Pos}
def tK:PE X (.Dict [] [] pos) Zb:=λX4 s σ H Q I h=>wpAny_Dict_empty {.ref (~~~s),_,I.laid (a:= ~~~s) (o:=.dK []) (t':=s.toks) (λ_ _ q=>al7 _ q) (amd _)<|Mc s.heap I.big,J,h _<|I.hok.fresh<|amd _}
end
structure M1(X:Cx)(o:Expr)(m:Z6)(apos:Pos)(e:Expr)(cpos:Pos):Z3 where
 base:attributeBase o m X.env (eval o X.env)=eval o X.env
 few:((backTo cpos (starEach [e] X.env)).all (λx=>!x.1) &&(backToKw cpos (keywordEach [] X.env)).all (λx=>x.1.isSome)
  && decide (([e]:mu Expr).length +([]:mu Keyword).length +(if ([]:mu Keyword).isEmpty then 0 else 1)<30))=Z1
 line:(apos.endLine==cpos.line)=Z1
 trees:backTo cpos (starEach [e] X.env)=[(Z2,eval e X.env)]
structure M2(X:Cx)(o:Expr)(m:Z6)(apos:Pos)(e f:Expr)(cpos:Pos):Z3 where
 base:attributeBase o m X.env (eval o X.env)=eval o X.env
 few:((backTo cpos (starEach [e,f] X.env)).all (λx=>!x.1) &&(backToKw cpos (keywordEach [] X.env)).all (λx=>x.1.isSome)
  && decide (([e,f]:mu Expr).length +([]:mu Keyword).length +(if ([]:mu Keyword).isEmpty then 0 else 1)<30))=Z1
 line:(apos.endLine==cpos.line)=Z1
 trees:backTo cpos (starEach [e,f] X.env)=[(Z2,eval e X.env),(Z2,eval f X.env)]
def IsD(H:Hp)(a:nt):Z3:=(∃X5,Rd H a<|.dK X5)∨∃X5,Rd H a<|.dT X5
def Cy{X:Cx}{X4:mu (nt×Obj)}{σ:St}{H:Hp}{s:qb}{a:nt}(I:Inv X X4 σ H s)(d:IsD H a) :
  s.TypeIs (.ref a) "dict"/\(∀b,Value.ref a=.ref b->∃c,s.heap.get? b=some c/\c.dict=Z0)/\(a==sysModules)=Z2:=by
 rcases d with⟨X5,e⟩|⟨X5,e⟩
 .let⟨_,hd,vs,_,dd⟩:=wY I.hok e;refine{dd.typeIs,λb q=>?_,hd};cases q;let⟨c,_,_,h1,h2,_⟩:=dd;exact⟨c,h1,h2.2.1⟩
 .let⟨_,hd,xs,_,dd⟩:=wW I.hok e;refine{dd.typeIs,λb q=>?_,hd};cases q;let⟨c,_,_,h1,h2,_⟩:=dd;exact⟨c,h1,h2.2.1⟩
section
variable{X:Cx}{X4:mu (nt×Obj)}{σ:St}{H:Hp}{s:qb}{a:nt}{y d:V}{u r:nF}{o:o9 V}{A:Around}{E:nF->qb->Z3}
def Y5{Q:nF->qb->Z3}(n:A.units+1<cLine)(I:Inv X X4 σ H s)(g:qe H a y o)(j:RelV y u)(rd:RelV d r)(h:∀i s',Inv X X4 σ H s'->RelV (o.getD d) i->Q i s') :
  wpAny (model X.prog X.w) A (call (.builtin "dict.get") [.ref a,u,r]) Q E s:=by
 rcases g with⟨X5,k,e,f,l⟩|⟨X5,k,b,e,f,m,l⟩
 .subst f;let⟨z,hd,vs,c,dd⟩:=wY I.hok e;refine apw aoG dd.typeIs apS (apG _ _ _) (meets_dict_get_default (cg X.prog X.w) a (oH j) hd r) {_,dd.mapOf,h _ _ (I.tok _) ?_};rw[l];exact(c.val k).getD rd
 .subst f;cases (show u=Value.ref b from j);let⟨z,hd,xs,c,dd⟩:=wW I.hok e;refine apw aoG dd.typeIs apS (apG _ _ _) (meetsH_dict_get_default (tupleKind<|cg X.prog X.w) a b hd r) {aok n,k,xs,vd I.hok m,dd,h _ _ (I.tok _) ?_};rw[l];exact(c.val k).getD rd
end
inductive Dz(ty:TE)(tx:TE)(σ:St)(Q:VK)(x:V)(H1:Hp):Z3
 |m a(_:x=.ref a)(_:IsD H1 a)(_:ty σ H1 λy H2=>tx σ H2 λz H3=>∃o,qe H3 a y o/\Q (o.getD z) H3)
def abo(td ty tx:TE):TE:=λσ H Q=>td σ H λx H1=>Dz ty tx σ Q x H1
section
variable{X:Cx}{o e f:Expr}{apos cpos:Pos}{td ty tx:TE}
def Nc(j:X.A.units+1<cLine)(n:PE X o td)(he:PE X e ty)(i:PE X f tx)(m:M2 X o "get" apos e f cpos):PE X (.Call (.Attribute o "get" apos) [e,f] [] cpos) (abo td ty tx):=by
 intro X4 s σ H Q I h;refine wpAny_Call_method m.base m.few m.line aos aoG PySem.F.type_dict_get (thn (n X4 s σ H _ I h) λ u s1 ⟨x,H1,I1,rx,a,ex,d,q1⟩=>?_);subst ex;obtain rfl:u=Value.ref a:=rx;let⟨c,l,_⟩:=Cy I1 d;exists c,l;rw[m.trees];refine anZ J (aoO (am7 (thn (he X4 s1 σ H1 _ I1 q1) λ t s2 ⟨y,H2,I2,ry,q2⟩=>am7 (thn (i X4 s2 σ H2 _ I2 q2) λ r s3 ⟨z,H3,I3,rz,ov,g,q3⟩=>anv ?_))))
 exact Y5 j I3 g ry rz λq s4 p b=>{_,H3,p,b,q3}
end
section
variable{κ:Type}[DecidableEq κ]
def Nm{X5:mu (κ×V)}{k:κ}(h:bu X5 k=Z0):¬k∈X5.map (·.1):=by intro m;let⟨p,a,e⟩:=amS.mp m;let q:(X5.any λb=>decide (b.1=k))=Z1:=an8.mpr {p,a,amA e};rw[iX,h] at q;exact absurd q o7
def Hj:∀{l:mu κ}{k:κ},l.Nodup->¬k∈l->(l++[k]).Nodup
 |[],k,_,_=>by simp
 |a::r,k,h,hk=>by
  let⟨h1,h2⟩:=amC.mp h;show(a ::(r++[k])).Nodup;refine amC.mpr {λm=>?_,Hj h2 λm=>hk<|amq.mpr<|Or.inr m};rcases amy.mp m with q|q
  .exact h1 q
  .exact hk (amq.mpr<|Or.inl (amr.mp q).symm)
def U6{X5:mu (κ×V)}{k:κ}(v:V)(a:(X5.map (·.1)).Nodup)(h:bu X5 k=Z0):((putK X5 k v).map (·.1)).Nodup:=by rw[MH v h,aoT];exact Hj a<|Nm h
end
end L2
namespace Chk
def T(n:Z5):Z5:=n*128 % 2 ^ 64+n / 2 ^ 57
def D(n:Z5):Z5:=if n*2≥2 ^ 64 then n*2-2 ^ 64+1 else n*2
def akH(a b:Z5):(a ^^^ b) % 2+2*((a &&& b) % 2)=a % 2+b % 2:=by let p:=Nat.xor_mod_two_eq_one (a:=a) (b:=b);let q:=Nat.and_mod_two_eq_one (a:=a) (b:=b);rcases anH a with h|h <;> rcases anH b with k|k <;> rcases anH (a ^^^ b) with x|x <;> rcases anH (a &&& b) with y|y <;> simp[h,k,x,y] at p q ⊢
def ahg{X Y a b:Z5}(h:X / 2+2*(Y / 2)=a / 2+b / 2)(p:X % 2+2*(Y % 2)=a % 2+b % 2):X+2*Y=a+b:=by omega
def Vk:∀a b:Z5,(a ^^^ b)+2*(a &&& b)=a+b:=by
 intro a
 induction a using Nat.strongRecOn with
 |ind a f=>
  intro b;by_cases c:a=0
  .subst c;simp
  .refine ahg ?_ (akH a b);rw[Nat.xor_div_two,Nat.and_div_two];exact f (a / 2) (Nat.div_lt_self (aol c) o6)<|b / 2
def stp(c n:Z5):Z5:=T c ^^^ n
def chk(l:mu Z5):Z5:=l.foldl stp 0
end Chk
namespace L2
open PySem PySem.Spec PyProof.Rows
section
variable{X:Cx}
def yE:OpR X (binaryOp .FloorDiv) (rI (λ_ j=>0<j/\j.natAbs.log2<9000) λi j=>.int (i / j)):=opI λi j _ _ _ _ _ a q=>by let h1:↥0<j:=a.1;exact floordiv_int o5 (by grind)<|.inl<|PyProof.noPylong_of_log2 a.2
def iG{a b n:Z4}{j1 j2 p1 p2 pos}(h:0≤b/\b≤1000000/\a.natAbs<2 ^ 64:=by decide)(e:a ^ b.toNat=n:=by first|rfl|decide +kernel) :
  PE X (.BinOp (.Constant (.int a) j1 p1) .Pow (.Constant (.int b) j2 p2) pos) (tC (.int n)):=λX4 s σ H Q I c=>
 aL Wy aF aF X4 s σ H Q I {3,h,by subst e;exact c}
end
def eO{c A B:Z3}[Decidable c](a:c)(h:A):if decide c=Z1 then A else B:=by grind
def cP{c A B:Z3}[Decidable c](a:¬c)(h:B):if decide c=Z1 then A else B:=by grind
def clos(cells:mu (Z6×nt)):mu (Z6×NameKind)->mu (Z6×nt)->mu (Z6×nt)
 |[],acc=>acc
 |(n,k)::r,acc=>clos cells r (if k==.free then(n,(cells.lookup n).getD 0)::acc else acc)
def vW:∀l acc,(∀ y∈l,y.2=.free->∃c,env.cells.lookup y.1=some c) →
  (forIn l acc λ(x:Z6×NameKind)(j:mu (Z6×nt))=>if (x.2==NameKind.free)=Z1 then do let a ←cellOf env x.1;pure (ForInStep.yield ((x.1,a)::j)) else pure (ForInStep.yield j):Sem (mu (Z6×nt)))=pure (clos env.cells l acc)
 |[],acc,_=>by simp only[List.forIn_nil];rfl
 |(n,k)::r,acc,h=>by
  simp only[List.forIn_cons];cases g:(k==NameKind.free) with
  |false=>
   simp only[Bool.false_eq_true,if_false];let f:=vW (env:=env) r acc λy b=>h y<|amj _ b
   simp only[pure_bind,f,clos,g,Bool.false_eq_true,if_false]
  |true=>
   let⟨c,i⟩:=h (n,k) anm (⇑g);let e:cellOf env n=pure c:=by unfold cellOf;rw[show env.cells.lookup n=some c from i]
   simp only[if_true,e,pure_bind];let f:=vW (env:=env) r ((n,c)::acc) λy b=>h y<|amj _ b
   rw[f];simp only[clos,g,if_true];rw[show env.cells.lookup n=some c from i];rfl
def nO(h:∀ y∈scope.names,y.2=.free->∃c,env.cells.lookup y.1=some c):closureFor scope env=pure (clos env.cells scope.names []):=by let:=vW (env:=env) scope.names [] h;unfold closureFor;simp only[bind_pure];exact this
def EO:∀{names:mu (Z6×NameKind)}{acc:mu (Z6×nt)},(∀ y∈names,y.2=.free->∃c,cells.lookup y.1=some c)->(∀x c,acc.lookup x=some c->cells.lookup x=some c) →
  ∀x c,(clos cells names acc).lookup x=some c->cells.lookup x=some c
 |[],_,_,ha,x,c,h=>ha x c h
 |(n,k)::r,acc,hn,ha,x,c,h=>by
  refine EO (names:=r) (λy a=>hn y<|amj _ a) ?_ x c h;intro x c h;split at h
  .rename_i b;let⟨d,hd⟩:=hn (n,k) anm (⇑b);rw[show cells.lookup n=some d from hd,amz] at h;split at h
   .grind
   .exact ha x c h
  .exact ha x c h
def yv:∀{names:mu (Z6×NameKind)}{acc:mu (Z6×nt)}{x:Z6},((x,NameKind.free)∈names∨∃c,acc.lookup x=some c)->∃c,(clos cells names acc).lookup x=some c
 |[],acc,x,h=>by
  rcases h with h|h
  .cases h
  .exact h
 |(n,k)::r,acc,x,h=>by
  refine yv (names:=r) ?_;rcases h with h|⟨c,h⟩
  .rcases amq.mp h with h|h
   .injection h with h1 h2
    subst h1;subst h2;exact .inr {(cells.lookup x).getD 0,by simp[List.lookup_cons]}
   .exact .inl h
  .right;split
   .rw[amz];split
    .exact{1}
    .exact⟨c,h⟩
   .exact⟨c,h⟩
def mem_of_lookup{α:Type}{x:Z6}{a:α}:∀{l:mu (Z6×α)},l.lookup x=some a->(x,a)∈l
 |[],h=>by simp at h
 |(n,k)::r,h=>by
  rw[amz] at h;split at h
  .rename_i e;injection h with h
   rw[eq_of_beq e,h];exact anm
  .exact amj _ (mem_of_lookup h)
def rQ{env:Env}{x:Z6}:∀(names:mu (Z6×NameKind)),
  (names.map λ(n,k)=>if (k==NameKind.free&&env.scope.kind==.function&&env.kindOf n==some .cell) then(n,NameKind.cell) else(n,k)).lookup x =
   (names.lookup x).map λk=>if (k==NameKind.free&&env.scope.kind==.function&&env.kindOf x==some .cell) then NameKind.cell else k
 |[]=>rfl
 |(n,k)::r=>by
  let a:=rQ (env:=env) (x:=x) r;simp only[List.map_cons];by_cases e:x=n
  .grind
  .grind
def jV{a b n:Z5}(h1:a<n)(h2:n≤b):a≠b:=by omega
def Cx.comp(X:Cx)(scope:Scope)(N:mu Z6)(C:nt)(s₀:qb)(H₀:Hp)(ex:mu nt):Cx:=
 {X with N:=N,s₀:=s₀,H₀:=H₀,env:=compEnvC scope (clos X.env.cells scope.names []) C X.env,outer:=X.stack,stack:=X.stack,ex:=ex,fn:=λ_=>Z2,pn:=[]}
def st0(k:Z5)(cap:mu Z5)(σ:St):St:=List.replicate k Z0++cap.map λj=>(σ[j]?).getD Z0
def vK(b:mu Z6)(fs a:Scope)(N:mu Z6)(k:Z5)(cap:mu Z5):Bool:=
 decide (a.kind=.function)&&a.names.all (fun y=>decide (y.2≠.cell))&&a.names.all (fun y=>decide (y.2≠.local)||decide (a.names.lookup y.1=some .local)) &&
 a.names.all (λy=>decide (y.2≠.free)||decide (fs.names.lookup y.1=some .cell))&&decide (N.length=k+cap.length) &&
 (cap.zip<|N.drop k).all (λp=>decide (b[p.1]?=some p.2)&&decide (a.names.lookup p.2=some .free))
structure lK(XN:mu Z6)(fs sc:Scope)(N:mu Z6)(k:Z5)(cap:mu Z5):Z3 where
 kind:sc.kind=.function
 Df:∀ y∈sc.names,y.2≠.cell
 locs:∀ y∈sc.names,y.2=.local->sc.names.lookup y.1=some .local
 frees:∀ y∈sc.names,y.2=.free->fs.names.lookup y.1=some .cell
 len:N.length=k+cap.length
 caps:∀ p∈cap.zip (N.drop k),XN[p.1]?=some p.2/\sc.names.lookup p.2=some .free
def lK.of{k:Z5}(h:vK XN fs sc N k cap=Z1):lK XN fs sc N k cap:=by unfold vK at h;simp only[Bool.and_eq_true,List.all_eq_true,decide_eq_true_eq,Bool.or_eq_true] at h;let⟨⟨⟨⟨⟨h1,h2⟩,h3⟩,h4⟩,h5⟩,h6⟩:=h;exact{h1,h2,λy a e=>(h3 y a).resolve_left λz=>z e,λy a e=>(h4 y a).resolve_left λz=>z e,h5,h6}
section
variable{X:Cx}{X4:mu (nt×Obj)}{σ:St}{H:Hp}{s:qb}{scope:Scope}{N:mu Z6}{k:Z5}{cap:mu Z5}{fp:mu nt}
def Cx.Bv{x:Z6}{C:nt}{s₀:qb}{H₀:Hp}{ex:mu nt}(a:X.env.scope.kind=.function) :
  (X.comp scope N C s₀ H₀ ex).env.kindOf x =(scope.names.lookup x).map λk=>if (k==NameKind.free&&X.env.kindOf x==some .cell) then NameKind.cell else k:=by
 show(relabel scope X.env).names.lookup x=_;unfold relabel;rw[rQ];congr 1;funext k;rw[a];simp
def Inv.qq(I:Inv X X4 σ H s)(c:lK X.N X.env.scope scope N k cap):∀ y∈scope.names,y.2=.free->∃d,X.env.cells.lookup y.1=some d:=
 λy a e=>I.ok.has y.1<|.inl<|c.frees y a e
def Inv.block(I:Inv X X4 σ H s)(c:lK X.N X.env.scope scope N k cap)(F:∀ b∈fp,dU X X4 H b)(ho:∀ b∈fp,∃o,s.heap.get? b=some o){D C:nt}{s1:qb}(L:( ~~~s)≤D)(hC:( ~~~s)≤C)(S:D≠C)(a3:s1.os=s.os)(hg:s1.gens=s.gens)(keep:∀b o,s.heap.get? b=some o->s1.heap.get? b=some o)(hl:s1.heap.get? D=some {.type "list",Z0,.seq #[],#[]})(hn:s1.heap.Ns C λ_=>Z0) :
  Inv (X.comp scope N C s H fp) [] (st0 k cap σ) (Z9 H D (.lst [])) s1:=by
 let a0:=I.qq c;let lt:∀ b∈fp,b<(~~~s):=λb r=>let ⟨o,e⟩:=ho b r;amb e
 let a1:∀x d,X.env.cells.lookup x=some d->d<(~~~s):=λx d e=>let ⟨v,o,q,_⟩:=I.cell x d e;amb q
 let sub:=EO (cells:=X.env.cells) (names:=scope.names) (acc:=[]) a0 (λx c h=>by simp at h);let fresh:∀a,~~~s≤a->H a=Z0:=λa h=>I.hok.fresh h
 let t:∀x,((X.comp scope N C s H fp).env.kindOf x=some .cell∨(X.comp scope N C s H fp).env.kindOf x=some .free)->(x,NameKind.free)∈scope.names:=λx h=>by
  rw[Cx.Bv I.ok.kind] at h;cases e:scope.names.lookup x with
  |none=>rw[e] at h;simp at h
  |some kd=>
   let m:=mem_of_lookup e;rw[e] at h;cases kd with
   |free=>exact m
   |cell=>exact absurd J<|c.Df _ m
   |«local»=>simp at h
   |globalExplicit=>simp at h
   |globalImplicit=>simp at h
 let ok:(X.comp scope N C s H fp).Ok:=
  {mod:=I.ok.mod
   kind:=c.kind
   glob:=I.ok.glob
   blt:=I.ok.blt
   above:=hC
   inj:=λx y d Y hy=>I.ok.inj x y d (sub x d Y) (sub y d hy)
   has:=λx h=>yv (.inl<|t x h)
   cab:=λx d h=>by cases h
   hd:=I.ok.hd
   frames:=I.ok.frames
   stk:=.inl J
   exf:=λb r=>{λz=>jV (lt b r) hC z,λx d Y=>(F b r).2.2.2.2.1 x d<|sub x d Y}
   bs:=I.bs
   bsz:=amo I.ok.bsz I.sz
   wg:=λb o e r=>by
    rcases(F b r).2.2.2.1 with h|h
    .exact I.ok.wg b o e h
    .exact absurd (amb (I.ok.bs b o e).1) (Nat.not_lt.mpr h)
   ud:=λb r hm=>by
    rcases amq.mp (I.Du b hm) with h|h
    .exact(F b r).2.1 h
    .exact(F b r).2.2.1 h
   kg:=I.stack
   frf:=I.Ad}
 let nD:H D=Z0:=fresh D L;refine
  {ok:=ok
   os:=a3
   bare:=by rw[hg];exact I.bare
   base:=Un.laid keep L nD
   loc:={_,hn,?_}
   cell:=λx d h=>let ⟨v,q⟩:=I.cell x d<|sub x d h;{v,q.keeps keep}
   free:=by show Z9 H D _ C=Z0;rw[au<|amW S];exact fresh C hC
   gw:=λx d h=>by let h':=sub x d h;rw[au<|jV (a1 x d h') L];exact I.gw x d h'
   pin:=λp hp=>by cases hp
   hok:=I.hok.laid keep L {amE _,[],(0),.nil,hl}
   len:=by show(st0 k cap σ).length=N.length;unfold st0;rw[amK,anb,ame,c.len]}
 intro i x v hi l _;let hi:N[i]?=some x:=hi;unfold st0 at l;by_cases B:i<k
 .rw[ams (by rwa[anb]),List.getElem?_replicate,ama B] at l;cases l
 .rw[amG (by rw[anb];omega),anb,amx] at l;cases O:cap[i-k]? with
  |none=>rw[O] at l;cases l
  |some j=>
   rw[O] at l;let l:(σ[j]?).getD Z0=some v:=amw l;let a2:σ[j]?=some (some v):=by
    cases e:σ[j]? with
    |none=>rw[e] at l;cases l
    |some z=>rw[e] at l;exact congrArg some l
   let hm:(j,x)∈cap.zip (N.drop k):=by refine amQ.mpr {i-k,?_};rw[apm];exists O;rwa[ao7,show k +(i-k)=i by omega]
   let⟨hX,n⟩:=c.caps _ hm;let mf:=mem_of_lookup n;let f:=c.frees _ mf rfl;let⟨m,_,q⟩:=I.loc;let⟨u,ru,lk⟩:=q j x v hX a2<|.inr<|.inl f;refine{u,ru,.inr {.inl ?_,?_}}
   .rw[Cx.Bv I.ok.kind,n];let:(X.env.kindOf x==some NameKind.cell)=Z1:=by show(X.env.scope.names.lookup x==some NameKind.cell)=Z1;rw[f];rfl
    simp[this]
   .rcases lk with⟨g,_⟩|⟨_,d,hd,U⟩
    .let g:X.env.scope.names.lookup x=some .local:=g;rw[f] at g;cases g
    .let⟨d',A⟩:=yv (cells:=X.env.cells) (acc:=[]) (.inl mf:(x,NameKind.free)∈scope.names∨_);let:=sub x d' A;rw[hd] at this;cases this;exact{d,A,U.keeps keep}
def Inv.Aw{H':Hp}{f:St}{s1:qb}{C:nt}{ps:mu (nt×Obj)}(I:Inv X X4 σ H s)(c:∀ b∈fp,dU X X4 H b)(b4:Inv (X.comp scope N C s H fp) ps f H' s1):Inv X X4 σ H' s1:=
 I.yR (ch:=fp) b4.os b4.base b4.hok b4.bare λb a=>{(c b a).2.2.2.1,(c b a).2.1,(c b a).2.2.2.2.1,(c b a).2.2.2.2.2}
end
def HP(k:Z5)(cap:mu Z5)(wi:TI)(g:TG)(tt:TT)(te:TE):TE:=λσ H Q=>wi σ H λb4 H1=>∀D,H1 D=Z0->∃W:Z5->Z5->St->Hp->mu V->Z3,
 (∃m,W 0 m (st0 k cap σ) (Z9 H1 D<|.lst []) [])/\∀i m a H' ys,W i m a H' ys->(b4.stop i H'/\Q (.ref D) H')∨
  (b4.go i H'/\∃N:St->Hp->mu V->Z3,(∀a H' f,N a H' f->∃h,h<m/\W (i+1) h a H' f)/\∀x H2,b4.yld i H' x H2->g x a H2 λc n=>tt c n λb l=>if b=Z1 then
   te c l λy j=>j D=some (.lst ys)/\ys.length<Z7/\N c (Z9 j D<|.lst<|ys++[y]) (ys++[y])
   else N c l ys)
def ala:TT:=λ_ H Q=>Q Z1 H
def PTs(X:Cx)(ifs:mu Expr)(t:TT):Z3:=
 ∀X4 s σ H Q,Inv X X4 σ H s->t σ H Q →
  wpAny (model X.prog X.w) X.A (forIn ifs Z1 λc r=>if r=Z1 then do let ok ←isTrue c X.env (eval c X.env);pure (ForInStep.yield ok) else pure<|ForInStep.yield r) (TP X X4 σ Q) X.xe s
def kR:PTs X [] ala:=λ_ _ _ H _ I h=>wpAny_tests_nil ⟨H,I,h⟩
def UK(h:PT X c t):PTs X [c] t:=λX4 s σ H Q I a=>wpAny_tests_one<|h X4 s σ H Q I a
section
variable{prog:q9}{w:wo}{A:Around}{R:Result->qb->Z3}{s:qb}
def mG(I:Z5->qb->Z3)(o:∀n s,I n s->wpAny (model prog w) A (pyNext it) (λr b=>match r with
   |none=>R (.ok .next) b
   |some v=>wpAny (model prog w) A (letOwnedTupleGo target it v) (λ_ s₀=>wpAny (model prog w) A (assign target env v) (λ_ j=>
     wpAny (model prog w) A (forIn ifs Z1 λc r=>if r=Z1 then do let ok ←isTrue c env (eval c env);pure (ForInStep.yield ok) else pure (ForInStep.yield r)) (λok a=>
      if ok=Z1 then wpAny (model prog w) A (eval elt env) (λx f=>wpAny (model prog w) A (call (.builtin "list.append") [acc,x]) (λ_ g=>∃m,m<n/\I m g) (notedBy (model prog w) A env λe s'=>R (.error e) s') f) (notedBy (model prog w) A env λe s'=>R (.error e) s') a
      else ∃m,m<n/\I m a) (notedBy (model prog w) A env λe s'=>R (.error e) s') j) (notedBy (model prog w) A env λe s'=>R (.error e) s') s₀) (notedBy (model prog w) A env λe s'=>R (.error e) s') b) (notedBy (model prog w) A env λe s'=>R (.error e) s') s)(n:Z5)(h:I n s) :
  codeAny (model prog w) A (.compLoop (.ListComp elt [{target,iter,ifs,(0)}] scope pos) 0 it acc env) R s:=by
 refine codeAny_loop J I (λn s u=>?_) n h;show wpAny _ A ((compTurn (.ListComp elt [{target,iter,ifs,(0)}] scope pos) 0 it acc env).onRaise λx=>do noteFrame x env;theTreesLotGoes x) _ _ s;refine wpAny_noted ?_;rw[compTurn_list];refine al6<|aoD<|al6 (amB (o n s u) (λr b l=>?_) λ_ _ h'=>h');cases r with
 |none=>exact al9 l
 |some v=>
  refine al6 (amB l (λ_ s₀ h₀=>?_) λ_ _ h'=>h');refine al6 (amB h₀ (λ_ j p=>al6 (amB p (λok a i=>?_) λ_ _ h'=>h')) λ_ _ h'=>h');cases ok with
  |false=>exact al9 ⟨J,i⟩
  |true=>exact al6<|al6 (amB i (λx f q=>al6 (amB q (λ_ g t=>al9<|al9 ⟨J,t⟩) λ_ _ h'=>h')) λ_ _ h'=>h')
end
section
variable{X:Cx}{scope:Scope}{N:mu Z6}{k:Z5}{cap:mu Z5}{tg iter elt:Expr}{ifs:mu Expr}{wi:TI}{g:TG}{tt:TT}{te:TE}{pos:Pos}
def Br{E:nF->qb->Z3}{use:o9 (nF->Sem Unit)}{QQ:nF->qb->Z3}{X4:mu (nt×Obj)}{s:qb}{σ:St}{H:Hp}{it:nt}{fp:mu nt}{tn:Z5->Heap->Z3}{b4:It}{Q:VK}(hc:X.calm=Z1)(c:lK X.N X.env.scope scope N k cap)(hg:∀C s₀ H₀ ex,PG (X.comp scope N C s₀ H₀ ex).nox tg g)(ht:∀C s₀ H₀ ex,PTs (X.comp scope N C s₀ H₀ ex).nox ifs tt)(he:∀C s₀ H₀ ex,PE (X.comp scope N C s₀ H₀ ex).nox elt te)(I:Inv X X4 σ H s)(T:Turn X.prog X.w X.K tg b4 fp it tn)(st:tn 0 s.heap)(hf:∀ b∈fp,dU X X4 H b)(h:∀D,H D=Z0->∃W:Z5->Z5->St->Hp->mu V->Z3,(∃m,W 0 m (st0 k cap σ) (Z9 H D (.lst [])) [])/\∀i m a H' ys,W i m a H' ys->(b4.stop i H'/\Q (.ref D) H')∨
   (b4.go i H'/\∃N:St->Hp->mu V->Z3,(∀a H' a6,N a H' a6->∃m',m'<m/\W (i+1) m' a H' a6)/\∀x H2,b4.yld i H' x H2->g x a H2 λL H3=>tt L H3 λb H4=>if b=Z1 then
    te L H4 λy H5=>H5 D=some (.lst ys)/\ys.length<Z7/\N L (Z9 H5 D (.lst (ys++[y]))) (ys++[y])
    else N L H4 ys))(hQ:∀D C s1 H',Inv X X4 σ H' s1->Q (.ref D) H'->(∃m,s1.heap.Ns C m)->H' C=Z0->X.s₀.heap.objs.size≤C->C≠X.env.locals->(∀x c,X.env.cells.lookup x=some c->c≠C)->(∀ p∈X.pn++X4,p.1≠C) →
   compPost (model X.prog X.w) X.A E use QQ (.ref D) C (.ok .next) s1) :
  wpAny (model X.prog X.w) X.A (newList []) (λacc s₃=>wpAny (model X.prog X.w) X.A (newFunctionEnv scope X.env.globals (clos X.env.cells scope.names []) [] X.env.qual Z0 .none (some X.env)) (λS a4=>codeAny (model X.prog X.w) X.A (.compStart (.ListComp elt [{tg,iter,ifs,(0)}] scope pos) 0 (.ref it) acc {S with scope:=relabel scope X.env}) (compPost (model X.prog X.w) X.A E use QQ acc S.locals) a4) E s₃) E s:=by
 refine anx<|wpAny_newFunctionEnv c.Df (by grind) (λt j f=>?_) c.kind;dsimp only at j f ⊢;generalize hH2:s.heap.push {.type "list",Z0,.seq ([]:mu nF).toArray,#[]}=H2 at j f ⊢;let hC:H2.objs.size= ~~~s+1:=by rw[←hH2,am4]
 let a1:( ~~~s)≠H2.objs.size:=by grind
 let z:( ~~~s)≤H2.objs.size:=by grind
 let keep:∀b o,s.heap.get? b=some o->t.get? b=some o:=λb o e=>by exact f.extBut b o (jV (amb e) z)<|al7 _<|hH2 ▸ al7 _ e
 let hl:t.get? (~~~s)=some {.type "list",Z0,.seq #[],#[]}:=f.extBut _ _ a1<|al7 _<|hH2 ▸ amh _ J;let nD:H (~~~s)=Z0:=I.hok.fresh<|amd _;let⟨W,⟨m0,w0⟩,a5⟩:=h _ nD;let ho:∀ b∈fp,∃o,s.heap.get? b=some o:=λb l=>let ⟨o,e,_⟩:=T.obj _ _ st b l;⟨o,e⟩
 let ac:X.s₀.heap.objs.size≤H2.objs.size:=amo I.sz z;let a8:H2.objs.size≠X.env.locals:=(jV I.lt z).symm;let ab:∀x d,X.env.cells.lookup x=some d->d≠H2.objs.size:=λx d e=>by let⟨v,o,q,_⟩:=I.cell x d e;exact jV (amb q) z
 let ag:∀ p∈X.pn++X4,p.1≠H2.objs.size:=λp hp=>by exact jV (amb (I.pin p hp).1) z
 let O:∀s₃:qb,s₃={s with heap:=t,toks:=s.toks +([]:mu (Z6×nF)).length} →
   codeAny (model X.prog X.w) X.A (.compLoop (.ListComp elt [{tg,iter,ifs,(0)}] scope pos) 0 (.ref it) (.ref (~~~s))<|compEnvC scope (clos X.env.cells scope.names []) H2.objs.size X.env)
    (compPost (model X.prog X.w) X.A E use QQ (.ref (~~~s)) H2.objs.size) s₃:=by
  rintro s₃ rfl;let I0:Inv (X.comp scope N H2.objs.size s H fp) [] (st0 k cap σ) (Z9 H (~~~s) (.lst [])) {s with heap:=t,toks:=s.toks +([]:mu (Z6×nF)).length}:=
   I.block c hf ho (amd _) z a1 J J keep hl (⇑j)
  let F:∀{H':Hp}{ps:mu (nt×Obj)},(∀ b∈fp,H' b=Z0)->ps=[]->∀ b∈fp,dU (X.comp scope N H2.objs.size s H fp).nox ps H' b:=λhn hp b l=>by subst hp;exact{hn b l,(I0.ok.exf b l).1,I0.ok.ud b l,.inl l,(I0.ok.exf b l).2,λp hp=>by cases hp}
  let a7:∀ b∈fp,Z9 H (~~~s) (.lst []) b=Z0:=λb l=>by let⟨o,e⟩:=ho b l;rw[au<|jV (amb e)<|amd _];exact(hf b l).1
  refine mG (λn s'=>∃i a H' ys,Inv (X.comp scope N H2.objs.size s H fp).nox [] a H' s'/\tn i s'.heap/\(∀ b∈fp,H' b=Z0)/\W i n a H' ys) ?_ m0
   {(0),_,_,[],I0.i7 _,T.keep _ _ _ st λb _ o e=>keep b o e,a7,w0}
  rintro n s' ⟨i,a,H',ys,I',a0,a2,w'⟩;rcases a5 i n a H' ys w' with⟨a3,q⟩|⟨go,NN,a9,step⟩
  .refine amB (T.done (X.comp scope N H2.objs.size s H fp).nox J J J hc i [] s' a H' (λ_ _=>False) I' (F a2 J) a0 a3) (λ r s4 ⟨hr,I4⟩=>?_) (λ_ _ x=>x.elim);subst hr;exact hQ _ _ s4 H' (I.Aw hf I4.pJ) q (let ⟨m,hn,_⟩:=I4.loc;⟨m,hn⟩) I4.free ac a8 ab ag
  .refine amB (T.item (X.comp scope N H2.objs.size s H fp).nox J J J hc i [] s' a H' (λ_ _=>False) I' (F a2 J) a0 go) (λ r s4 ⟨u,hr,h4⟩=>?_) (λ_ _ x=>x.elim);subst hr;refine amB h4 (λ _ s5 ⟨x,H5,I5,r5,y5,st5,fr5⟩=>?_) λ_ _ x=>x.elim;let ae:=I5.pinned (F fr5 J)<|T.obj _ _ st5;refine amB (hg _ _ _ _ _ s5 a H5 x u _ ae r5<|step x H5 y5) (λ _ s6 ⟨B,H6,I6,q6⟩=>?_) λ_ _ x=>x.elim;refine amB (ht _ _ _ _ _ s6 B H6 _ I6 q6) (λ ok s7 ⟨H7,I7,q7⟩=>?_) λ_ _ x=>x.elim;let again:∀{U:Hp}{s8:qb}{Y:mu V},Inv (X.comp scope N H2.objs.size s H fp).nox ([]++sq fp s5.heap) B U s8->NN B U Y →
     ∃m,m<n/\∃i a H' ys,Inv (X.comp scope N H2.objs.size s H fp).nox [] a H' s8/\tn i s8.heap/\(∀ b∈fp,H' b=Z0)/\W i m a H' ys:=λ{U s8 Y}I8 n8=>by
    let⟨m',hm,w8⟩:=a9 _ _ _ n8;refine{m',hm,i+1,B,U,Y,I8.pP,T.keep _ _ _ st5 λb l o e=>(I8.pin (b,o)<|amm _<|amm _<|jv l e).1,λb l=>?_,w8};let⟨o,e,d⟩:=T.obj _ _ st5 b l;exact(I8.pin (b,o)<|amm _<|amm _<|jv l e).2.1
   cases ok with
   |false=>exact again I7 q7
   |true=>refine amB (he _ _ _ _ _ s7 B H7 _ I7 q7) (λ y s8 ⟨v,U,I8,rv,hD,hlen,w8⟩=>?_) λ_ _ x=>x.elim;refine amB (iU (X:=(X.comp scope N H2.objs.size s H fp).nox) _ s8 B U (.ref (~~~s)) [v] (.ref (~~~s)) [y] (λ_ H9=>H9=Z9 U (~~~s) (.lst<|ys++[v])) I8 J (.cons rv .nil) {_,ys,v,J,J,hD,hlen,J}) (λ _ s9 ⟨_,H9,I9,_,e9⟩=>?_) λ_ _ x=>x.elim;subst e9;exact again I9 w8
 exact codeAny_compStart_list (O _ J)<|T.self _ 0 _ _ _ (T.keep _ _ _ st λb _ o e=>keep b o e)<|O _ J
def rE(u:X.calm=Z1)(i:vK X.N X.env.scope scope N k cap=Z1)(hi:PI X tg iter wi)(y:∀C s₀ H₀ ex,PG (X.comp scope N C s₀ H₀ ex).nox tg g)(A:∀C s₀ H₀ ex,PTs (X.comp scope N C s₀ H₀ ex).nox ifs tt)(he:∀C s₀ H₀ ex,PE (X.comp scope N C s₀ H₀ ex).nox elt te)(hs:∀x,foldedSetIterable iter X.env x=pure x:=by intro _;rfl):PE X (.ListComp elt [{tg,iter,ifs,(0)}] scope pos) (HP k cap wi g tt te):=by
 intro X4 s σ H Q I h;let c:=lK.of i;rw[eval_ListComp];refine aom (use:=Z0) (cl:=clos X.env.cells scope.names []) J hs (nO<|I.qq c) c.kind c.locs (thn (hi X4 s σ H _ I h) λF l f=>thn f λz n a=>?_);let⟨it,fp,B,b4,H2,e,r,T,st,t,q⟩:=a;subst e;exact Br (use:=Z0) u c y A he r T st t q λ D C s1 H' v q1 ⟨m,hn⟩ hCn hCs hCl hCc hCp=>
  {m,hn,λh' j=>{.ref D,H',v.turned (t':=s1.toks) (λb o p e=>j.extBut b o p e) hCn hCl (.inr hCs) hCc hCp,J,q1}}
def tQ{i:Z5}{x:Z6}{pos' f:Pos}(hN:X.N.Nodup)(u:X.N[i]?=some x)(U:Loc X.env.scope x)(S:X.calm=Z1)(t:vK X.N X.env.scope scope N k cap=Z1)(hi:PI X tg iter wi)(hg:∀C s₀ H₀ ex,PG (X.comp scope N C s₀ H₀ ex).nox tg g)(ht:∀C s₀ H₀ ex,PTs (X.comp scope N C s₀ H₀ ex).nox ifs tt)(he:∀C s₀ H₀ ex,PE (X.comp scope N C s₀ H₀ ex).nox elt te)(n:swapsWith (.ListComp elt [{tg,iter,ifs,(0)}] scope pos) (some (.Name x pos')) f.line X.env=pure Z1:=by rfl)(hs:∀x,foldedSetIterable iter X.env x=pure x:=by intro _; rfl)(p:X.fn x=Z1∨X.env.scope.names.lookup x=some .local:=by first|exact .inl rfl|exact .inr rfl|assumption) :
  PS X (.Assign [.Name x pos'] (.ListComp elt [{tg,iter,ifs,(0)}] scope pos) f) (HW (HP k cap wi g tt te) (tN i)):=by
 intro X4 s σ H D I h;let c:=lK.of t;rw[exec_Assign_Name_used _ _ _ _ n];refine al6<|aoD<|al6 ?_;show wpAny _ X.A (do let _ ←comprehension (.ListComp elt [{tg,iter,ifs,(0)}] scope pos) scope X.env _ (newList []) Z2 (eval iter X.env) (some (assign (.Name x pos') X.env))) _ _ s;refine al6 (amB (aom (use:=some<|assign (.Name x pos') X.env) (Q:=λ_ s'=>SP X X4 D .next s') (cl:=clos X.env.cells scope.names []) J hs (nO<|I.qq c) c.kind c.locs
  (thn (hi X4 s σ H _ I h) λxv y j=>thn j λa0 B l=>?_)) (λ_ s' O=>al9<|al9 O) λ_ _ e=>e)
 let⟨it,fp,tn,b4,H2,e,Y,T,st,hf,q⟩:=l;subst e;refine Br (use:=some<|assign (.Name x pos') X.env) (Q:=λv H1=>tN i v σ H1 D.nx) S c hg ht he Y T st hf q λ L C s1 H' I1 q1 ⟨m,hn⟩ hCn hCs hCl hCc hCp=>?_
 show wpAny _ X.A (assign (.Name x pos') X.env<|.ref L) _ _ s1;refine wpAny_assign_Name<|Bm (v:=.ref L) I1 hN u U J (λ s2 I3 ⟨a,sb,ha⟩=>{m,?_,λh' r=>?_}) p
 .refine hn.sameBut sb ?_;rcases ha with z|z
  .rw[z];exact hCl
  .grind
 .exact{_,H',I3.turned (t':=s2.toks) (λb o F e=>r.extBut b o F e) hCn hCl (.inr hCs) hCc hCp,q1}
end
def kM{K:Frag}{a:nt}(D:nt){xs:mu V}{g:TG}{tt:TT}{te:TE}{σ:St}{H:Hp}{R:Hp->Z3}(h:Z5->St->Hp->mu V->Z3)(h0:h 0 σ H [])(t:∀i σ H ys,i≤xs.length->h i σ H ys->X0 K H a xs)(hs:∀i x σ H ys,xs[i]?=some x->h i σ H ys->g x σ H λc r=>tt c r λb o=>if b=Z1 then
   te c o λy l=>l D=some (.lst ys)/\ys.length<Z7/\h (i+1) c (Z9 l D (.lst (ys++[y]))) (ys++[y]) else h (i+1) c o ys)(hd:∀σ H ys,h xs.length σ H ys->R H) :
  ∃W:Z5->Z5->St->Hp->mu V->Z3,(∃m,W 0 m σ H [])/\∀i m f H' ys,W i m f H' ys->((Itl K a).stop i H'/\R H')∨
   ((Itl K a).go i H'/\∃N:St->Hp->mu V->Z3,(∀f H' j,N f H' j->∃s,s<m/\W (i+1) s f H' j)/\∀x H2,(Itl K a).yld i H' x H2->g x f H2 λc r=>tt c r λb o=>if b=Z1 then
    te c o λy l=>l D=some (.lst ys)/\ys.length<Z7/\N c (Z9 l D (.lst (ys++[y]))) (ys++[y])
    else N c o ys):=by
 exists λi m σ H ys=>m=xs.length-i/\i≤xs.length/\h i σ H ys,{xs.length,o7,amE _,h0};rintro i m σ H ys ⟨rfl,hi,p⟩;let q:=t i σ H ys hi p;by_cases n:i<xs.length
 .refine .inr {{xs,xs[i],q,by simp[n]},h (i+1),λf H' j u=>{xs.length -(i+1),o5,J,n,u},λx H' y=>?_};let⟨e,y⟩:=y;subst e;exact hs i x σ _ ys (y xs q) p
 .let e:i=xs.length:=by omega
  subst e;exact .inl {{xs,q,amd _},hd σ H ys p}
section
variable{X:Cx}{K:Frag}
def Gk{es:mu Expr}{k:Z5}{t:TGs}{n:Z5}{pos:Pos}(b:X.K=K)(f:X.calm=Z1)(h:PGs X es t)(c:(assignEach es X.env).length=n:=by rfl)(a:(assignEach es X.env).findIdx? (·.1)=Z0:=by rfl) :
  PG X (.Tuple es k pos) (Np K n t):=by subst b;exact su f h c a
end
def ao.new(h:H p=Z0):ao H (Z9 H p o):=λb u e=>by rw[au<|aA e h];exact e
open PySem PySem.Spec PyProof.Rows PySem.SeqAt
def iL(K:Frag)(H:Hp)(R:V->V->Bool->Z3)(x y:V)(b:Bool):Z3:=
 ∃a c xs ys e,x=.ref a/\y=.ref c∧
  ((X0 K H a xs/\X0 K H c ys/\xs.length=ys.length/\(∀(j:Z5)x' y',xs[j]?=some x'->ys[j]?=some y'->R x' y' (e j))/\b =(List.range xs.length).all e)∨
   (X0 K H a xs/\X0 K H c ys/\xs.length≠ys.length/\b=Z2)∨
   (X3 K H a xs/\X3 K H c ys/\(∀(j:Z5)x' y',xs[j]?=some x'->ys[j]?=some y'->R x' y' (e j))/\b =((List.range<|min xs.length ys.length).all e&&xs.length==ys.length)))
def EqI(K:Frag)(H:Hp):Z5->V->V->Bool->Z3
 |0=>λx y b=>(gb x=Z1/\gb y=Z1/\b=eqV x y)∨∃a,x=.ref a/\y=.ref a/\b=Z1
 |n+1=>λx y b=>EqI K H n x y b∨(x≠y/\iL K H (EqI K H n) x y b)
section
variable{X:Cx}{X4:mu (nt×Obj)}{σ:St}{H:Hp}{s:qb}{A:Around}
def tF{xs ys:mu V}{us vs:mu nF}{R:V->V->Bool->Z3}{e:Z5->Bool}(r:Vals xs us)(q:Vals ys vs)(he:∀(j:Z5)x' y',xs[j]?=some x'->ys[j]?=some y'->R x' y' (e j))(l:∀x y b u v,R x y b->RelV x u->RelV y v->EqAt A s u v b):∀j(h1:j<us.toArray.size)(h2:j<vs.toArray.size),EqAt A s us.toArray[j] vs.toArray[j] (e j):=λj h1 h2=>by
 let f:j<us.length:=⇑h1
 let i:j<vs.length:=⇑h2
 let l1:=r.length;let l2:=q.length;let ex:xs[j]?=some (xs[j]'o5):=amg o5;let a:ys[j]?=some (ys[j]'o5):=amg o5;let⟨u,n,c⟩:=Vals.get r ex;let⟨v,o,m⟩:=Vals.get q a;let h:us.toArray[j]=u:=by grind
 let g:vs.toArray[j]=v:=by grind
 rw[h,g];exact l _ _ _ _ _ (he j _ _ ex a) c m
def iL.rc(I:Inv X X4 σ H s)(g:∀x y b u v,R x y b->RelV x u->RelV y v->EqAt A.in1 s u v b)(f:A.units<cLine)(h:iL X.K H R x y b)(l:RelV x u)(j:RelV y v):RcAt A s u v b:=by
 let⟨a,c,xs,ys,e,rfl,rfl,h⟩:=h;cases l;cases j;rcases h with⟨h1,h2,i,he,rfl⟩|⟨h1,h2,i,rfl⟩|⟨h1,h2,he,rfl⟩
 .let⟨us,r,p,_⟩:=I.list h1;let⟨vs,q,p2,_⟩:=I.list h2;let l1:=r.length;let l2:=q.length;let z:=RcAt.lists (A:=A) (e:=e) p.isList p2.isList (by simp;omega) f<|tF r q he g;rwa[show us.toArray.size=xs.length by simp;omega] at z
 .let⟨us,r,p,_⟩:=I.list h1;let⟨vs,q,p2,_⟩:=I.list h2;let l1:=r.length;let l2:=q.length;exact RcAt.lists_lengths p.isList p2.isList (by simp;omega) f
 .let⟨us,r,p,_⟩:=I.tuple h1;let⟨vs,q,p2,_⟩:=I.tuple h2;let l1:=r.length;let l2:=q.length;let z:=RcAt.tuples (A:=A) (e:=e) (show s.heap.IsTuple a us.toArray from p) (show s.heap.IsTuple c vs.toArray from p2) f<|tF r q he g;rwa[show us.toArray.size=xs.length by simp;omega,show vs.toArray.size=ys.length by simp;omega] at z
def iL.aku(I:Inv X X4 σ H s)(g:∀x y b u v,R x y b->RelV x u->RelV y v->EqAt A.in1 s u v b)(f:A.units<cLine)(h:iL X.K H R x y b)(l:RelV x u)(j:RelV y v):RcNeAt A s u v (!b):=by
 let⟨a,c,xs,ys,e,rfl,rfl,h⟩:=h;cases l;cases j;rcases h with⟨h1,h2,i,he,rfl⟩|⟨h1,h2,i,rfl⟩|⟨h1,h2,he,rfl⟩
 .let⟨us,r,p,_⟩:=I.list h1;let⟨vs,q,p2,_⟩:=I.list h2;let l1:=r.length;let l2:=q.length;let z:=RcNeAt.lists (A:=A) (e:=e) p.isList p2.isList (by simp;omega) f<|tF r q he g;rwa[show us.toArray.size=xs.length by simp;omega] at z
 .let⟨us,r,p,_⟩:=I.list h1;let⟨vs,q,p2,_⟩:=I.list h2;let l1:=r.length;let l2:=q.length;exact RcNeAt.lists_lengths p.isList p2.isList (by simp;omega) f
 .let⟨us,r,p,_⟩:=I.tuple h1;let⟨vs,q,p2,_⟩:=I.tuple h2;let l1:=r.length;let l2:=q.length;let z:=RcNeAt.tuples (A:=A) (e:=e) (show s.heap.IsTuple a us.toArray from p) (show s.heap.IsTuple c vs.toArray from p2) f<|tF r q he g;rwa[show us.toArray.size=xs.length by simp;omega,show vs.toArray.size=ys.length by simp;omega] at z
def EqI.at(I:Inv X X4 σ H s):∀(n:Z5){A:Around}{x y:V}{b:Bool}{u v:nF},A.units+n<cLine->EqI X.K H n x y b->RelV x u->RelV y v->EqAt A s u v b
 |0,A,x,y,b,u,v,hu,h,g,f=>by
  rcases h with⟨l,j,rfl⟩|⟨a,rfl,rfl,rfl⟩
  .exact Kd g f l j
  .cases g;cases f;exact EqAt.same _
 |n+1,A,x,y,b,u,v,hu,h,g,f=>by
  rcases h with h|⟨i,h⟩
  .exact EqI.at I n o5 h g f
  .let z:=iL.rc (A:=A) I (λx y b u v h g f=>EqI.at I n (A:=A.in1) (by grind) h g f) o5 h g f;let⟨a,c,xs,ys,e,rfl,rfl,_⟩:=h;cases g;cases f;exact EqAt.of_refs (λe=>i (by rw[e])) z
inductive ZM(K:Frag)(x:V)(y:V)(H:Hp)(Q:VK):Z3
 |m n b(_:n≤8)(_:iL K H (EqI K H n) x y b)(_:Q (.bl b) H)
inductive abW(K:Frag)(x:V)(y:V)(H:Hp)(Q:VK):Z3
 |m n b(_:n≤8)(_:iL K H (EqI K H n) x y b)(_:Q (.bl (!b)) H)
def BS(g:X.A.units+64<cLine):OpR X (compareOp .Eq) (ZM X.K):=by rintro X4 s σ H x y v u Q I c a ⟨n,b,f,h,q⟩;exact iL.rc (A:=X.A) I (λx y b u v h c a=>EqI.at I n (A:=X.A.in1) (by grind) h c a) o5 h c a X.prog X.w X.xe _ {.bl b,H,I,J,q}
def kU(g:X.A.units+64<cLine):OpR X (compareOp .NotEq) (abW X.K):=by rintro X4 s σ H x y v u Q I c a ⟨n,b,f,h,q⟩;exact iL.aku (A:=X.A) I (λx y b u v h c a=>EqI.at I n (A:=X.A.in1) (by grind) h c a) o5 h c a X.prog X.w X.xe _ {.bl (!b),H,I,J,q}
end
def iL.aiy{K:Frag}{H:Hp}{a c:nt}{xs:mu V}(h1:X3 K H a xs)(h2:X3 K H c xs)(g:∀ x∈xs,EqI K H n x x Z1):iL K H (EqI K H n) (.ref a) (.ref c) Z1:=
 ⟨a,c,xs,xs,λ_=>Z1,J,J,.inr (.inr ⟨h1,h2,λj x y f b=>by rw[f] at b;cases b;exact g x<|aml f,o7⟩)⟩
def PF(h1:PI X tg it w1)(h2:PI X tg it w2):PI X tg it (λσ H R=>w1 σ H R∨w2 σ H R):=λX4 s σ H R I h=>h.elim (h1 X4 s σ H R I)<|h2 X4 s σ H R I
def DB{a b n:Z5}(h1:a<n)(h2:n≤b):a≠b:=by omega
def Inv.Im{X:Cx}{X4:mu (nt×Obj)}{σ:St}{H:Hp}{s:qb}{h':Heap}{t':Z5}{ch:mu nt}(I:Inv X X4 σ H s)(k:∀b o,b∉ch->s.heap.get? b=some o->h'.get? b=some o)(f:∀ b∈ch,dU X X4 H b) :
  Inv X X4 σ H {s with heap:=h',toks:=t'}:=by
 let h:∀b u,H b=some u->b∉ch:=λb u e z=>by rw[(f b z).1] at e;cases e
 refine I.step (g':=s.gens) (d':=s.drawn) (ch:=ch) (λb g=>{(f b g).2.2.2.1,(f b g).2.1,(f b g).2.2.2.2.1,(f b g).2.2.2.2.2}) (λb o _ _ a e _=>k b o a e) (λb o _ _ a e _=>{o.slots,k b o a e}) (λ_ _ _ _ n=>n)
  (λb o a e=>{o,k b o a e}) (λ_ _ e=>e) (λ_ _ _ e=>e) (λb ps e=>{#[],by rw[e];simp}) (λm i=>?_) (λb u e=>?_) I.bare
 .let⟨o,es,ep,j,r⟩:=i;exact{o,es,ep,k _ o (λz=>(f _ z).2.1 J) j,r}
 .refine(I.hok b u e).stay (λc v a q=>k c v ?_ q) (λ_ q=>q) λ_ _ q=>q
  rcases a with z|z
  .grind
  .exact h c _ z
def Inv.Hw{X:Cx}{X4:mu (nt×Obj)}{σ:St}{H:Hp}{s:qb}{h':Heap}{t':Z5}{ch:mu nt}{T:nt}{u:HO}(I:Inv X X4 σ H s)(k:∀b o,b∉ch->s.heap.get? b=some o->h'.get? b=some o)(g:∀ b∈ch,dU X X4 H b)(j:( ~~~s)≤T)(new:cu X.prog X.w (Z9 H T u) h' T u):Inv X X4 σ (Z9 H T u) {s with heap:=h',toks:=t'}:=by
 let h:H T=Z0:=I.hok.fresh j;let i:∀b u,H b=some u->b∉ch:=λb u e z=>by rw[(g b z).1] at e;cases e
 let l:∀b o,s.heap.get? b=some o->b≠T:=λb o e=>DB (amb e) j
 refine I.step (g':=s.gens) (d':=s.drawn) (ch:=ch) (λb a=>{(g b a).2.2.2.1,(g b a).2.1,(g b a).2.2.2.2.1,(g b a).2.2.2.2.2}) (λb o _ _ f e _=>k b o f e) (λb o _ _ f e _=>{o.slots,k b o f e}) (λb o _ e n=>by rwa[au<|l b o e])
  (λb o f e=>{o,k b o f e}) (λb xs e=>by rw[au<|aA e h];exact e) (λb o xs e=>by rw[au<|aA e h];exact e) (λb ps e=>{#[],by rw[au<|aA e h,e];simp}) (λm p=>?_) (λb v e=>?_) I.bare
 .let⟨o,es,ep,t,r⟩:=p;exact{o,es,ep,k _ o (λz=>(g _ z).2.1 J) t,r}
 .by_cases a:b=T
  .subst a;rw[aj] at e;cases e;exact new
  .rw[au a] at e;refine(I.hok b v e).stay (λc v f q=>k c v ?_ q) (λc q=>by rwa[au<|aA q h]) λc xs q=>by rwa[au<|aA q h]
   rcases f with z|z
   .grind
   .exact i c _ z
def nJ:mu nF:=[.type "ValueError",.type "Exception",.type "BaseException",.type "object"]
def K8:nF->Bool
 |.ref _=>Z1
 |_=>Z2
def fh(l:mu nF):Bool:=l.dropWhile K8==nJ
def wD(h:fh l=Z1):∃b:mu nt,l=b.map Value.ref++nJ:=by
 induction l with
 |nil=>exact absurd h o6
 |cons x r f=>
  unfold fh at h;by_cases c:K8 x=Z1
  .rw[List.dropWhile_cons,ama c] at h;let⟨b,e⟩:=f h;cases x <;> first|cases c|skip
   rename_i a;exact{a::b,by rw[e];rfl}
  .simp_all
def yT{T:String}(a:nJ.contains (.type T)=Z1){l:mu nF}(h:fh l=Z1):l.contains (.type T)=Z1:=by let⟨b,rfl⟩:=wD h;rw[ap6];simp only[List.contains_eq_mem,decide_eq_true_eq] at a ⊢;exact amm _ a
def Ju(h:fh l=Z1):l.isEmpty=Z2:=by
 cases l with
 |nil=>exact absurd h o6
 |cons _ _=>rfl
def IS(self:nF)(h:fh l=Z1):refuseLoop self "__setattr__" l=pure ():=by
 let⟨f,rfl⟩:=wD h
 induction f with
 |nil=>exact apx.passes self
 |cons a r c=>
  show refuseLoop self "__setattr__" (.ref a ::(r.map Value.ref++nJ))=_;rw[refuseLoop_ref];refine c ?_;let:∀r:mu nt,fh (r.map Value.ref++nJ)=Z1:=λr=>by
   induction r with
   |nil=>decide
   |cons b r c=>exact c
  exact this r
def CO(K:Frag)(C:nt):Bool:=match K.lookup C with
 |some o=>(match o.data with
  |.cls cd=>o.cls==.type "type" && cd.mro.head? == some (.ref C)&&!cd.hasDel&&fh cd.mro.tail&&o.slots.toList.length==6&&o.slots.toList[4]? == some (some<|.builtin "ValueError.__new__")&&cd.hasDict
  |_=>Z2)
 |none=>Z2
structure LY(h:Heap)(C:nt):Z3 where
 ex:∃nm q N bs bm sn sub ab col dd k0 k1 k2 k3 k5,h.get? C=some (excClassObj nm q C N bs bm Z1 sn sub ab col dd k0 k1 k2 k3 k5 "ValueError.__new__")/\fh bm=Z1
def head_cons{α:Type}{l:mu α}{a:α}(h:l.head? = some a):∃r,l=a::r:=by
 cases l with
 |nil=>cases h
 |cons x r=>cases h;exact⟨r,J⟩
def ajz{α:Type}{l:mu α}{e:α}(h:l.length=6)(h4:l[4]?=some e):∃a b c d f,l=[a,b,c,d,e,f]:=by let⟨a,l,rfl⟩:=am2 h;let⟨b,l,rfl⟩:=am2<|amF h;let⟨c,l,rfl⟩:=am2<|amF<|amF h;let⟨d,l,rfl⟩:=am2<|amF<|amF<|amF h;let⟨x,l,rfl⟩:=am2<|amF<|amF<|amF<|amF h;cases h4;let⟨f,rfl⟩:=List.length_eq_one_iff.mp (show l.length=1 from amF<|amF<|amF<|amF<|amF h);exact⟨a,b,c,d,f,J⟩
def MB{a:Data}{f:ClassData->Bool}(q:(match a with|.cls cd=>f cd|_=>Z2)=Z1):∃cd,a=.cls cd/\f cd=Z1:=by cases a <;> first|exact{1,q}|cases q
def GG{K:Frag}{C:nt}(q:CO K C=Z1):∃nm b N bs bm sn sub ab col dd k0 k1 k2 k3 k5,K.lookup C=some (excClassObj nm b C N bs bm Z1 sn sub ab col dd k0 k1 k2 k3 k5 "ValueError.__new__")/\fh bm=Z1:=by
 unfold CO at q;cases c:K.lookup C with
 |none=>rw[c] at q;cases q
 |some o=>rw[c] at q;let⟨cl,dd,m,g⟩:=o;let⟨cd,rfl,q⟩:=MB q;simp only[Bool.and_eq_true,beq_iff_eq,Bool.not_eq_true'] at q;let⟨⟨⟨⟨⟨⟨rfl,i⟩,a⟩,f⟩,hs⟩,h4⟩,hd⟩:=q;let⟨nm,bs,mro,ns,b,j,sn,sub,ab,col,h⟩:=cd;subst a hd;let⟨bm,rfl⟩:=head_cons i;let⟨l⟩:=g;let⟨k0,k1,k2,k3,k5,rfl⟩:=ajz hs h4;exact⟨nm,b,ns,bs,bm,sn,sub,ab,col,dd,k0,k1,k2,k3,k5,J,f⟩
structure cQ(K:Frag)(C:nt):Z3 where
 obj:CO K C=Z1
 sa:findIn K (.ref C) "__setattr__" = some (some (.builtin "object.__setattr__"))
 ga:findIn K (.ref C) "__getattribute__" = some (some (.builtin "BaseException.__getattribute__"))
 gh:findIn K (.ref C) "__getattr__" = some Z0
 cl:findIn K (.ref C) "__class__" = some (some (.builtin "object.__class__"))
 clg:specialIn K (.builtin "object.__class__") "__get__" = some (some (.builtin "getset_descriptor.__get__"))
 clt:PySem.W.takesIn K (.builtin "object.__class__")=some Z1
def Fo(h:fh bm=Z1):fh (.ref C::bm)=Z1:=h
def cQ.mro{K:Frag}{C:nt}(c:cQ K C):∃cd,clsIn K C=some cd/\fh cd.mro=Z1/\cd.hasDict=Z1:=by let⟨nm,f,N,bs,bm,sn,sub,ab,col,dd,k0,k1,k2,k3,k5,b,a⟩:=GG c.obj;refine{{name:=nm,bases:=bs,mro:=.ref C::bm,ns:=N,qualname:=f,hasDict:=Z1,slotNames:=sn,subclasses:=sub,abstract:=ab,collection:=col,hasDel:=Z2},?_,Fo (C:=C) a,J};unfold clsIn;rw[b]
def cQ.at{K:Frag}{C:nt}{h:Heap}(c:cQ K C)(X:K.In h):LY h C:=by let⟨nm,f,N,bs,bm,sn,sub,ab,col,dd,k0,k1,k2,k3,k5,b,a⟩:=GG c.obj;exact{nm,f,N,bs,bm,sn,sub,ab,col,dd,k0,k1,k2,k3,k5,X _ _ b,a}
def cQ.has{K:Frag}{C:nt}(c:cQ K C){T:String}(a:nJ.contains (.type T)=Z1):mroIn K C (.type T)=some Z1:=by let⟨cd,h1,h2,_⟩:=c.mro;unfold mroIn;rw[h1,Option.bind_some,al8 (by rw[Ju h2];decide),yT a h2]
section
variable{prog:q9}{w:wo}{A:Around}{E:nF->qb->Z3}{s:qb}{K:Frag}{x C:nt}{ox:Obj}{od:o9 Obj}{name:Z6}{v:nF}
def IJ{a:Bool}(X:K.In s.heap)(I:PySem.W.InstAt s.heap x ox C od)(c:cQ K C)(j:PySem.W.findObj K C od name=some (.value v))(r:handedIn v=Z1)(h:Q v {s with toks:=s.toks+1}):wpAny (model prog w) A (getAttr (.ref x) name a) Q E s:=by
 let⟨l,g,d,t,os⟩:=s;let f:=I.type (M:=model prog w);let q:=anI (M:=model prog w) X c.ga;let n:=anI (M:=model prog w) X c.gh;let p:=PySem.W.looks_find (M:=model prog w) X I j;let u:Looks (model prog w) l (isInstance (.ref x) (.type "BaseException")) Z1:=f.andThen<|aoZ X<|c.has o6;let b:(onTheHeap (Value.ref C)&&Value.builtin "BaseException.__getattribute__" == Value.builtin "object.__getattribute__")=Z2:=by grind
 let i:=apd.ga.bind<|.ref x;unfold getAttr getAttrBy;refine al6<|wpAny_mkText<|am3<|al6 (f.at<|al6 (q.at ?_));dsimp only;rw[b,al8 o6];unfold getAttrByItsOwn;refine al6 (m:=hookBefore<|.ref C) ?_;show wpAny _ _ (typeLookup (.ref C) "__getattr__") _ _ _;refine n.at ?_;refine al6<|aoE<|am3 ?_;let o:(a&&onTheHeap (Value.builtin "BaseException.__getattribute__"))=Z2:=by cases a <;> rfl
 unfold callGetattribute;rw[o,al8 o6];unfold boundAndCalled;rw[i];refine al6<|al9 ?_;refine an9<|aoU apd.ga.plain PySem.F.entry_bexc_ga<|@aqs (model prog w) _ _ _ "BaseException.__getattribute__" "BaseException" "__getattribute__" (.ref x) _ [] _ d7 d7 u (PySem.F.args_bexc_ga _ _) ?_;unfold Builtin.«object.__getattribute__»;refine al6<|al9<|al6<|al9<|al6 (f.at<|al6 (p.at ?_));refine al9 ?_;show wpAny _ _ (handedOut v) _ _ _;rw[PySem.W.handedOut_of r];exact al9 h
end
section
variable{prog:q9}{w:wo}{A:Around}{E:nF->qb->Z3}{s:qb}{K:Frag}{x C:nt}{ox:Obj}{od:o9 Obj}{name:Z6}{v:nF}
def Bf(X:K.In s.heap)(I:PySem.W.InstAt s.heap x ox C od)(c:cQ K C)(n:aJ K C name)(h:∀b,wpAny (model prog w) A.in1 (Builtin.ObjectAttr.storeInOwnDict (.ref x) (.ref C) (.str name s.toks) name v b)
   (λa s'=>match a with|.done (.ret _)=>Q () s'|_=>False) (λe s'=>E e s') {s with toks:=s.toks+1}) :
  wpAny (model prog w) A (setAttr (.ref x) name v) Q E s:=by
 let⟨i,g,d,t,os⟩:=s;let f:=apx;let⟨cd,j,m,_⟩:=c.mro;refine set_plain X I c.sa ?_;let sub:Looks (model prog w) i (isInstance (.ref x) (.type "object")) Z1:=I.type.andThen<|aoZ X<|c.has o6;refine aoU f.slot.plain f.entry<|@aqs (model prog w) _ _ _ "object.__setattr__" "object" "__setattr__" (.ref x) [.str name t,v] [] _ f.kind f.split sub (f.args (.ref x) (.str name t) v) ?_;let l:Looks (model prog w) i (mroOf (.ref C)) cd.mro:=(aod X j).andThen .now;let o:=anI (M:=model prog w) X (show findIn K (.ref C) name=some Z0 from n);rw[osa_eq,refuse_eq];refine al6<|al6 (I.type.at<|al6 (l.at ?_));rw[IS _ m];refine al9<|al6 (I.type.at<|al6 (o.at<|al6<|al9 ?_));refine amB (h Z2) (λa s' z=>?_) λ_ _ z=>z
 rcases a with(_|_|_|_)|_ <;> first|exact z|exact z.elim
def Ja(X:K.In s.heap)(l:s.heap.get? x=some {.ref C,Z0,.fields vs,sl})(c:cQ K C)(n:aJ K C name)(h:∀h' B,h'.get? x=some {.ref C,some (~~~s),.fields vs,sl}->h'.Ns1 (~~~s) (λy=>if y=name then some v else Z0)->(∀b o,b≠x->s.heap.get? b=some o->h'.get? b=some o) →
   Q () {s with heap:=h',toks:=B}) :
  wpAny (model prog w) A (setAttr (.ref x) name v) Q E s:=by
 let I:PySem.W.InstAt s.heap x {.ref C,Z0,.fields vs,sl} C Z0:=⟨l,J,J,trivial⟩;refine Bf X I c n λb=>?_
 let⟨a,g,d,t,os⟩:=s;let⟨cd,H,U,hd⟩:=c.mro;let L:=aod (M:=model prog w) X H;unfold Builtin.ObjectAttr.storeInOwnDict;refine al6<|al9 ?_;refine al6 (m:=Builtin.ObjectAttr.ownDictForStores _) ?_;show wpAny _ _ (instanceDict x Z1) _ _ _;unfold instanceDict;refine al6<|apY l ?_;dsimp only;refine al6 (L.at ?_);rw[hd];let i:(a.push {.type "dict",Z0,.dict #[],#[]}).get? x=some ⟨.ref C,Z0,.fields vs,sl⟩:=al7 _ l;let j:x≠a.objs.size:=amu<|amb l;show wpAny _ _ (do let dd ←alloc {.type "dict",Z0,.dict #[],#[]};update x λo=>{o with dict:=some dd};dictMade (.ref C) x dd) _ _ _;refine al6<|wpAny_alloc' ?_;refine al6<|wpAny_update' i ?_;refine al9 ?_;let u:((a.push {.type "dict",Z0,.dict #[],#[]}).update x λo=>{o with dict:=some a.objs.size}).get? a.objs.size=some {.type "dict",Z0,.dict #[],#[]}:=
  (Heap.get?_update_ne _ _ _ _ j.symm).trans (Heap.get?_push_at J J)
 let z:((a.push {.type "dict",Z0,.dict #[],#[]}).update x λo=>{o with dict:=some a.objs.size}).Ns a.objs.size (λ_=>Z0):={_,#[],_,u,J,λe he=>absurd he o7,λ_=>rfl};show wpAny _ _ (Builtin.ObjectAttr.storeInDict a.objs.size (.str name t) name v) _ _ _;unfold Builtin.ObjectAttr.storeInDict Builtin.ObjectAttr.newKeyGuard;refine al6<|al9<|al6 (wpAny_nsSet1 (Heap.Ns1.of_empty z) λh' f hs=>?_);let⟨Y,O,S,p,q,r⟩:=f.count<|Within.cons name v Within.nil;refine al6<|aps p (by rw[q];exact apt<|amo r (by grind)) ?_;refine al9 (h h' _ ?_ f λb o F e=>?_)
 .exact(hs.2 x j).trans (amI _ i J)
 .exact(hs.2 b<|amu<|amb e).trans ((Heap.get?_update_ne _ _ _ _ F).trans<|al7 _ e)
def Lv(X:K.In s.heap)(q:s.heap.get? x=some {.ref C,some dx,.fields vs,sl})(r:s.heap.Ns1 dx mA)(c:cQ K C)(n:aJ K C name)(B:PySem.Within mA ns)(hsz:ns.length≤Z7)(h:∀h' p,h'.Ns1 dx (λy=>if y=name then some v else mA y)->Heap.SameBut dx s.heap h'->Q () {s with heap:=h',toks:=p}) :
  wpAny (model prog w) A (setAttr (.ref x) name v) Q E s:=by
 let⟨od,o,_⟩:=uU r;let I:PySem.W.InstAt s.heap x {.ref C,some dx,.fields vs,sl} C (some od):=⟨q,J,J,o⟩;refine Bf X I c n λb=>?_
 let⟨L,g,d,t,os⟩:=s;let⟨cd,u,O,hd⟩:=c.mro;let z:=aod (M:=model prog w) X u;unfold Builtin.ObjectAttr.storeInOwnDict;refine al6<|al9 ?_;refine al6 (m:=Builtin.ObjectAttr.ownDictForStores _) ?_;show wpAny _ _ (instanceDict x Z1) _ _ _;unfold instanceDict;refine al6<|apY q ?_;dsimp only;refine al6 (z.at ?_);rw[hd];refine al9 (a:=some dx) ?_;show wpAny _ _ (Builtin.ObjectAttr.storeInDict dx (.str name t) name v) _ _ _;unfold Builtin.ObjectAttr.storeInDict Builtin.ObjectAttr.newKeyGuard;refine al6<|al9<|al6 (wpAny_nsSet1 r λh' f hs=>?_);let⟨S,F,H,i,j,l⟩:=f.count<|Within.cons name v B;refine al6<|aps i (by rw[j];exact apt<|amo l (by grind)) ?_;exact al9<|h h' _ f hs
end
abbrev lN(C t:nt):Obj:={.ref C,Z0,.fields #[.ref t,.none,.none,.none,.bool Z2,.none],#[]}
abbrev nK(rest:mu nF):Obj:={.type "tuple",Z0,.seq rest.toArray,#[]}
def wJ{C:nt}{bm:mu nF}(a:fh bm=Z1){T:String}(b:nJ.contains (.type T)=Z1):(Value.ref C::bm).contains (.type T)=Z1:=by rw[aqt,yT b a,Bool.or_true]
def Gn{C:nt}{bm:mu nF}(a:fh bm=Z1){T:String}(c:nJ.contains (.type T)=Z2):(Value.ref C::bm).contains (.type T)=Z2:=by
 let⟨b,rfl⟩:=wD a;rw[aqt,ap6,amN,Bool.or_false]
 .rfl
 .grind
section
variable{prog:q9}{w:wo}{A:Around}{E:nF->qb->Z3}{h:Heap}{g:q8 GenState}{d:Drawn}{t:Z5}{os:OsState}{K:Frag}{C f:nt}
variable{nm q:Z6}{N:nt}{bs bm:mu nF}{sn:mu Z6}{sub:mu nF}{ab:Bool}{col:o9 Bool}{dd:o9 nt}{k0 k1 k2 k3 k5:o9 nF}
def Ih{rest:mu nF}(f:fh bm=Z1)(b:h.get? C=some (excClassObj nm q C N bs bm Z1 sn sub ab col dd k0 k1 k2 k3 k5 "ValueError.__new__"))(i:Q () ⟨h,g,d,t,os⟩) :
  wpAny M A (checkBuiltinCall "ValueError.__new__" {.ref C::rest,[]}) Q E ⟨h,g,d,t,os⟩:=by
 let F:=aoc;let a:=wJ (C:=C) f (T:="ValueError") o6;let c:=F.noStar;simp only[checkBuiltinCall,F.newKind,F.newSplit,F.newRow]
 repeat (first
  |refine anh b ?_
  |(refine anQ b ?_;rw[a])
  |refine wpAny_staticBase_exc b ?_
  |refine wpAny_madeBy_exc b ?_
  |simp only[bne_self_eq_false,Bool.false_eq_true,if_false]
  |wp_step)
 exact i
def Ln{rest:mu nF}(a:fh bm=Z1)(l:h.get? C=some (excClassObj nm q C N bs bm Z1 sn sub ab col dd k0 k1 k2 k3 k5 "ValueError.__new__"))(j:rest.length≤Z7)(m:R (.ok (.ret (.ref (h.objs.size+1)))) {(h.push (nK rest)).push (lN C h.objs.size),g,d,t,os}) :
  codeAny (model prog w) A (.builtin "ValueError.__new__" {.ref C::rest,[]}) R ⟨h,g,d,t,os⟩:=by
 let F:=aoc;let b:=F.ends;let i:=wJ (C:=C) a (T:="ValueError") o6;let c:=Gn (C:=C) a (T:="AttributeError") o6;let f:=Gn (C:=C) a (T:="NameError") o6;refine codeAny_builtinAt F.entry ?_;unfold Builtin.«BaseException.__new__»;refine PySem.wpAt_bind ?_;show PySem.wpAt _ _ _ (stack >>= _) _ _ _;refine PySem.wpAt_bind (PySem.wpAt_stack λp below=>aqf ?_)
 wp_walk
 refine aqf ?_;rw[F.owner]
 repeat (first
  |with_reducible refine wpAny_madeHere_exc F.canon l ?_
  |with_reducible refine anh l ?_
  |(with_reducible refine anQ l ?_;first|rw[i]|rw[c]|rw[f])
  |wp_step)
 show R _ _;rwa[am4]
def DT{rest:mu nF}:∀b o,h.get? b=some o->((h.push (nK rest)).push (lN C h.objs.size)).get? b=some o:=λb o e=>al7 _<|al7 _ e
def Gh{rest:mu nF}:((h.push (nK rest)).push (lN C h.objs.size)).get? (h.objs.size+1)=some (lN C h.objs.size):=by let:=amh (h.push<|nK rest) (o:=lN C h.objs.size) rfl;rwa[am4] at this
def Hq{rest:mu nF}(j:fh bm=Z1)(b:h.get? C=some (excClassObj nm q C N bs bm Z1 sn sub ab col dd k0 k1 k2 k3 k5 "ValueError.__new__"))(a:rest.length≤Z7)(X:K.In h)(hi:findIn K (.ref C) "__init__" = some (some (.ref f)))(o:typeIn K (.ref f)=some (.type "function"))(n:wpAny (model prog w) A (call (.ref f) (.ref (h.objs.size+1)::rest)) (λr s'=>r=.none/\Q (.done (.ret (.ref (h.objs.size+1)))) s') E {(h.push (nK rest)).push (lN C h.objs.size),g,d,t,os}) :
  wpAny (model prog w) A (Builtin.«type.__call__» {.ref C::rest,[]}) Q E ⟨h,g,d,t,os⟩:=by
 let F:=aoc
 repeat (first|with_reducible refine anh b ?_|with_reducible refine wpAny_madeBy_exc b ?_|wp_step)
 refine codeAny_call_builtin_code (aon _ F.quiet)<|Ih j b ?_;refine Ln j b a ?_;show wpAny _ _ _ _ _ _;let l:K.In ((h.push (nK rest)).push (lN C h.objs.size)):=X.keeps DT;let c:=DT (C:=C) (rest:=rest) _ _ b;let i:(Value.ref C::bm).contains (.ref C)=Z1:=by simp
 let u:=anI (M:=model prog w) l hi;let s:=bind_fn (M:=model prog w) l (.ref (h.objs.size+1)) o;unfold isInstance
 repeat (first|with_reducible refine anh Gh ?_|(with_reducible refine anQ c ?_;rw[i])|wp_step)
 show wpAny _ _ (typeLookup (.ref C) _) _ _ _;refine u.at ?_;refine am3<|al6 (s.at ?_);refine al6 (amB n (λr s' m=>?_) λ_ _ x=>x);let⟨rfl,p⟩:=m
 wp_walk
 exact p
def ID{rest:mu nF}(X:K.In h)(c:cQ K C)(a:rest.length≤Z7)(hi:findIn K (.ref C) "__init__" = some (some (.ref f)))(l:typeIn K (.ref f)=some (.type "function"))(j:wpAny (model prog w) (A.under (.builtin "type.__call__" {.ref C::rest,[]})) (call (.ref f) (.ref (h.objs.size+1)::rest)) (λr s'=>r=.none/\Q (.ref (h.objs.size+1)) s') E {(h.push (nK rest)).push (lN C h.objs.size),g,d,t,os}) :
  wpAny (model prog w) A (call (.ref C) rest) Q E ⟨h,g,d,t,os⟩:=by
 let⟨nm,n,N,bs,bm,sn,sub,ab,col,dd,k0,k1,k2,k3,k5,b,i⟩:=(c.at X).ex;let f1:=tc_lookup;let f2:=tc_bind<|.ref C;let m:(⟨h,g,d,t,os⟩:qb).TypeIs (.ref C) "type":={_,b,J};refine an9<|apL ?_;show wpAny _ _ (callAny (.ref C) _) _ _ _
 repeat (any_goals (first|assumption|with_reducible refine anh b ?_|wp_step))
 exists J;exact codeAny_call_builtin_at (aon _ d7) entry_typeCall<|wpAny_check_type_call_sub b<|Hq i b a X hi l j
end
def zJ(raw ch:Bool)(e C:nt)(od:o9 nt)(h:Heap):Z3:=∃vs a,h.get? e=some {.ref C,od,.fields vs,a}/\vs.size=6/\(raw=Z1->vs[1]?=some .none)/\(ch=Z2->vs[2]?=some .none)
def HB(dx:nt)(fs:mu (Z6×V))(h:Heap):Z3:=∃mA,h.Ns1 dx mA/\(∀f,gR (fs.lookup f)<|mA f)/\PySem.Within mA (fs.map (·.1))
abbrev exO(raw ch:Bool)(e C:nt)(od:o9 nt):HO:=.ext<|zJ raw ch e C od
def zK(H:Hp)(e C:nt)(od:o9 nt):Z3:=∃ch,H e=some (exO Z2 ch e C od)
abbrev xdO(dx:nt)(fs:mu (Z6×V)):HO:=.ext<|HB dx fs
def ExcAt(H:Hp)(e C:nt)(fs:mu (Z6×V)):Z3:=∃raw ch od,H e=some (exO raw ch e C od)/\match od with
 |none=>fs=[]
 |some dx=>H dx=some (xdO dx fs)/\dx≠e
section
variable{P:q9}{w:wo}{H:Hp}{h:Heap}{e C dx:nt}{od:o9 nt}{raw ch:Bool}{fs:mu (Z6×V)}
def vD(x:zJ raw ch e C od h):cu P w H h e (exO raw ch e C od):=by
 exists x,?_
 .let⟨vs,a,q,_⟩:=x;exact{_,q}
 .rintro h1 h2 ⟨vs,a,q,r⟩ k;exact{vs,a,k _ q,r}
def DG(x:HB dx fs h):cu P w H h dx (xdO dx fs):=by
 exists x,?_
 .let⟨mA,⟨o,es,ep,q,_⟩,_⟩:=x;exact⟨o,q⟩
 .rintro h1 h2 ⟨mA,⟨o,es,ep,q,r⟩,z⟩ k;exact{mA,{o,es,ep,k _ q,r},z}
def pB(x:HOk P w H h)(q:H e=some (exO raw ch e C od)):zJ raw ch e C od h:=(x e _ q).1
def Sf(x:HOk P w H h)(q:H dx=some (xdO dx fs)):HB dx fs h:=(x dx _ q).1
end
section
variable{X:Cx}{X4:mu (nt×Obj)}{σ:St}{H:Hp}{s:qb}{a C dx:nt}{od:o9 nt}{raw ch:Bool}{fs:mu (Z6×V)}{f:Z6}{v:V}{A:Around}{E:nF->qb->Z3}
def ExcAt.inst(I:Inv X X4 σ H s)(e:ExcAt H a C fs):∃ox od,PySem.W.InstAt s.heap a ox C od/\∀f v,fs.lookup f=some v->∃o u,od=some o/\lookIn f o=some (some u)/\RelV v u:=by
 let⟨raw,ch,od,h1,h2⟩:=e;let⟨vs,j,q,_⟩:=pB I.hok h1;cases od with
 |none=>subst h2;exact{_,Z0,⟨q,J,J,trivial⟩,λf v h=>by simp at h}
 |some dx=>let⟨mA,n,r,_⟩:=Sf I.hok h2.1;let⟨o,i,g⟩:=uU n;refine{_,some o,⟨q,J,J,i⟩,λf v h=>?_};let⟨u,c,b⟩:=gR.some_of (v:=v) (o:=mA f) (by rw[←h];exact r f);exact{o,u,J,by rw[g,c],b}
def Fb(I:Inv X X4 σ H s)(e:ExcAt H a C fs)(c:cQ X.K C)(n:aJ X.K C f)(l:fs.lookup f=some v)(h:∀u s',Inv X X4 σ H s'->RelV v u->Q u s'):wpAny (model X.prog X.w) A (getAttr (.ref a) f b) Q E s:=by let⟨ox,od,b4,i⟩:=e.inst I;let⟨o,u,rfl,lk,g⟩:=i f v l;let⟨cd,j,_,hd⟩:=c.mro;exact IJ I.kIn b4 c (aqd (by unfold hasDictIn;rwa[j]) n J lk) (BK g)<|h u _ (I.tok _) g
def Ao{y:V}{u:nF}{Q:Unit->qb->Z3}(I:Inv X X4 σ H s)(e:H a=some (exO raw ch a C Z0))(c:cQ X.K C)(n:aJ X.K C f)(B:RelV y u)(h:∀dx s',H dx=Z0->Inv X X4 σ (Z9 (Z9 H dx (xdO dx [(f,y)])) a (exO raw ch a C (some dx))) s'->Q () s'):wpAny (model X.prog X.w) A (setAttr (.ref a) f u) Q E s:=by
 let⟨vs,v,q,F⟩:=pB I.hok e;refine Ja I.kIn q c n λh' Y h1 h2 h3=>?_
 let l:H (~~~s)=Z0:=I.hok.fresh<|amd _;let O:a≠(~~~s):=amu<|amb q;refine h (~~~s) _ l ?_;let m:HB (~~~s) [(f,y)] h':=by
  refine{_,h2,λg=>?_,λg hg=>?_}
  .rw[amz];by_cases z:g=f
   .subst z;rw[ama rfl];simp;exact B
   .rw[al8 z,show(g==f)=Z2 by simpa using z];exact True.intro
  .grind
 let U:zJ raw ch a C (some (~~~s)) h':=⟨vs,v,h1,F⟩;let x:Un X.fs [] H (Z9 (Z9 H (~~~s) (xdO (~~~s) [(f,y)])) a (exO raw ch a C (some (~~~s)))) s.heap h':=by
  let L:∀b o,s.heap.get? b=some o->b≠(~~~s):=λb o e=>amu<|amb e
  refine{λb o i n' _ _=>h3 b o (λz=>by rw[z,e] at n';cases n') i,λb o i n' _ _=>{o.slots,h3 b o (λz=>by rw[z,e] at n';cases n') i},λb o i n' _=>?_,λb o i _=>?_,λb xs i=>?_,λb o u' i=>?_,λb ps i=>{#[],?_}}
  .rw[au (λz=>by rw[z,e] at n';cases n'),au<|L b o i];exact n'
  .grind
  .rw[au (λz=>by rw[z,e] at i;cases i),au<|aA i l];exact i
  .rw[au (λz=>by rw[z,e] at i;cases i),au<|aA i l];exact i
  .rw[au (λz=>by rw[z,e] at i;cases i),au<|aA i l,i];simp
 refine I.un x λb o i=>?_
 by_cases z:b=a
 .subst z;rw[aj] at i;cases i;exact vD U
 .rw[au z] at i;by_cases t:b= ~~~s
  .subst t;rw[aj] at i;cases i;exact DG m
  .rw[au t] at i;refine(I.hok b o i).stay (λp S hc j=>h3 p S ?_ j) (λp j=>?_) λp xs j=>?_
   .grind
   .rw[au (λr=>by rw[r,e] at j;cases j),au<|aA j l];exact j
   .rw[au (λr=>by rw[r,e] at j;cases j),au<|aA j l];exact j
def Cm(I:Inv X X4 σ H s)(e:H a=some (exO raw ch a C (some dx)))(i:H dx=some (xdO dx fs))(c:cQ X.K C)(n:aJ X.K C f)(L:fs.length<1000)(m:RelV y u)(h:∀s',Inv X X4 σ (Z9 H dx (xdO dx (bO f y fs))) s'->Q () s'):wpAny (model X.prog X.w) A (setAttr (.ref a) f u) Q E s:=by
 let⟨vs,F,q,O⟩:=pB I.hok e;let⟨mA,v,r,wi⟩:=Sf I.hok i;let l:(fs.map (·.1)).length≤Z7:=by rw[ame,sizeLine_eq];omega
 refine Lv I.kIn q v c n wi l λh' B h1 p=>h _ ?_
 refine I.write (x:=dx) (e:=dx) (i ▸ True.intro) (.inl J) (λb o j z=>(p.2 b j).trans z) (let ⟨o,_,_,e',_⟩:=h1;⟨o,e'⟩)<|DG {_,h1,λg=>?_,λg t=>?_}
 .rw[qL];by_cases q:g=f
  .rw[ama q,ama q];exact m
  .grind
 .by_cases q:g=f
  .rw[q];exact(nH f y fs).1
  .refine(nH f y fs).2 g (wi g λz=>t ?_);show(if g=f then some u else mA g)=Z0;rwa[al8 q]
end
inductive GV(K:Frag)(f:Z6)(Q:VK)(x:V)(H1:Hp):Z3
 |m a C fs v(_:x=.ref a)(_:ExcAt H1 a C fs)(_:cQ K C)(_:aJ K C f)(_:fs.lookup f=some v)(_:Q v H1)
def aix(K:Frag)(ta:TE)(f:Z6):TE:=λσ H Q=>ta σ H λx H1=>GV K f Q x H1
inductive CH(K:Frag)(f:Z6)(D:Ends)(σ:St)(y:V)(x:V)(H2:Hp):Z3
 |m a C raw(_:x=.ref a)(_:H2 a=some (exO raw Z2 a C Z0))(_:cQ K C)(_:aJ K C f)(_:∀dx,H2 dx=Z0->D.nx σ (Z9 (Z9 H2 dx (xdO dx [(f,y)])) a (exO raw Z2 a C (some dx))))
def agb(K:Frag)(ta tv:TE)(f:Z6):TS:=λD σ H=>tv σ H λy H1=>ta σ H1 λx H2=>CH K f D σ y x H2
inductive EG(K:Frag)(f:Z6)(D:Ends)(σ:St)(y:V)(x:V)(H2:Hp):Z3
 |m a C raw dx fs(_:x=.ref a)(_:H2 a=some (exO raw Z2 a C (some dx)))(_:H2 dx=some (xdO dx fs))(_:cQ K C)(_:aJ K C f)(_:fs.length<1000)(_:D.nx σ (Z9 H2 dx (xdO dx (bO f y fs))))
def VO(K:Frag)(ta tv:TE)(f:Z6):TS:=λD σ H=>tv σ H λy H1=>ta σ H1 λx H2=>EG K f D σ y x H2
section
variable{X:Cx}{o e value:Expr}{f:Z6}{pos pos':Pos}{ta tv:TE}
def iD(he:PE X e ta)(b:attributeBase e f X.env (eval e X.env)=eval e X.env):PE X (.Attribute e f pos) (aix X.K ta f):=by intro X4 s σ H Q I h;refine F4 b (thn (he X4 s σ H _ I h) λ u s1 ⟨x,H1,I1,rx,a,C,fs,v,ex,ea,c,n,l,q⟩=>?_);subst ex;obtain rfl:u=Value.ref a:=rx;exact Fb I1 ea c n l λu' s2 i g=>⟨v,H1,i,g,q⟩
def ia(l:PE X o ta)(g:PE X value tv)(hs:swapsWith value (some (.Attribute o f pos')) pos.line X.env=pure Z2):PS X (.Assign [.Attribute o f pos'] value pos) (agb X.K ta tv f):=by intro X4 s σ H D I h;refine anR (thn (g X4 s σ H _ I h) λ u s1 ⟨y,H1,I1,ry,q⟩=>thn (l X4 s1 σ H1 _ I1 q) λ j s2 ⟨x,H2,I2,rx,a,C,raw,ex,ea,c,n,q2⟩=>?_) hs;subst ex;obtain rfl:j=Value.ref a:=rx;exact Ao I2 ea c n ry λdx s3 b i=>{σ,_,i,q2 dx b}
def Mt(j:PE X o ta)(g:PE X value tv)(hs:swapsWith value (some (.Attribute o f pos')) pos.line X.env=pure Z2):PS X (.Assign [.Attribute o f pos'] value pos) (VO X.K ta tv f):=by intro X4 s σ H D I h;refine anR (thn (g X4 s σ H _ I h) λ u s1 ⟨y,H1,I1,ry,q⟩=>thn (j X4 s1 σ H1 _ I1 q) λ b s2 ⟨x,H2,I2,rx,a,C,raw,dx,fs,ex,ea,ed,c,n,l,q2⟩=>?_) hs;subst ex;obtain rfl:b=Value.ref a:=rx;exact Cm I2 ea ed c n l ry λs3 i=>{σ,_,i,q2}
end
inductive Fly(h:Heap)(e T:nt)(fl:nF):Z3
 |m oe vs oT ts(_:h.get? e=some oe)(_:oe.data=.fields vs)(_:vs[1]?=some (.ref T))(_:h.get? T=some oT)(_:oT.data=.fields ts)(_:ts[3]?=some fl)(_:T≠e)
structure lC(fs ch:mu nt)(e T:nt)(fl:nF)(h h':Heap):Z3 where
 keep:∀b o,b∉fs->b∉ch->b≠e->h.get? b=some o->h'.get? b=some o
 slot:∀b o,b∈fs->b∉ch->b≠e->h.get? b=some o->∃sl,h'.get? b=some {o with slots:=sl}
 new:h.objs.size≤T
 exc:∀oe vs,h.get? e=some oe->oe.data=.fields vs->h'.get? e=some (oe.mapFields (·.setIfInBounds 1 (.ref T)))
 fly:Fly h' e T fl
section
variable{M:Model}{A:Around}{E:nF->qb->Z3}{s:qb}{base:Heap}{env:Env}{outer:mu Env}{L e:nt}{oe:Obj}{vs:q8 nF}{Q:Unit->qb->Z3}
def xZ(p:A.frames=some (env::outer))(v:s.heap.FunFrames base (env::outer))(F:env.frame=some L)(he:s.heap.get? e=some oe)(hd:oe.data=.fields vs)(hsz:1<vs.size)(h:∀h' T,lC (frs (env::outer)) [] e T (rawInt L) s.heap h'->Q () {s with heap:=h'}) :
  wpAny M A (do let a ←frameOf env;let pl ←entryPlaceOf L b;let x ←EntryCells.newEntry head a .none (rawInt L) .none pl;setField (.ref e) 1 x) Q E s:=by
 let l:e∉frs (env::outer):=λO=>by let⟨_,o,y,u⟩:=v.mem O;rw[he] at y;cases y;exact u vs hd
 refine al6 (wpAny_frameOf_fun p v F λh1 hs=>?_);refine al6 (wpAny_entryPlaceOf λpl r=>?_);unfold EntryCells.newEntry newFields;refine al6<|anx ?_<|r.sizeOk5 _ _ _ _ _;let i:h1.get? e=some oe:=(hs.2.1 e l).trans he;generalize hT:({.type "traceback",Z0,.fields ([head,.ref L,.none,rawInt L,.none] ++(if pl.isEmpty then List.replicate 6 Value.none else pl)).toArray,#[]}:Obj)=oT;let f:=al7 (h:=h1) oT i;refine anA f hd hsz<|h _ h1.objs.size ?_;let j:h1.objs.size≠e:=anK<|amb i;let g:=am8 hd (·.setIfInBounds 1 (Value.ref h1.objs.size));let t:=amI (Obj.mapFields (·.setIfInBounds 1 (Value.ref h1.objs.size))) f<|anG g;let n:((h1.push oT).update e (Obj.mapFields (·.setIfInBounds 1 (Value.ref h1.objs.size)))).get? h1.objs.size=some oT:=
  (amt _ _<|amW j).trans (amh h1 (by rw[←hT];rfl))
 let keep:∀b o,b≠e->h1.get? b=some o->((h1.push oT).update e (Obj.mapFields (·.setIfInBounds 1 (Value.ref h1.objs.size)))).get? b=some o:=λb o m q=>by rw[amt _ _<|amW m];exact al7 _ q
 exists λb o m _ c q=>keep b o c<|(hs.2.1 b m).trans q,λb o m _ c q=>?_,?_,λB C S d'=>?_
 .let⟨H,z⟩:=hs.2.2 b o q;exact{H,keep b _ c z}
 .rw[hs.1];exact amd _
 .grind
 .refine{_,_,oT,_,t,g,by simp[hsz],n,by rw[←hT],?_,j};simp
def My(a:A.frames=some (env::outer))(c:s.heap.FunFrames base (env::outer))(b:env.frame=some L)(he:s.heap.get? e=some oe)(hd:oe.data=.fields vs)(h1:vs[1]?=some .none)(h:∀h' T,lC (frs (env::outer)) [] e T (rawInt L) s.heap h'->Q () {s with heap:=h'}):wpAny M A (noteFrame (.ref e) env) Q E s:=by unfold noteFrame;simp only[b];refine al6<|am1 he hd h1 ?_;rw[al8 o6];exact xZ a c b he hd (amD.mp h1).1 h
def uK{T:nt}(l:A.frames=some (env::outer))(x:s.heap.FunFrames base (env::outer))(u:env.frame=some L)(v:Fly s.heap e T .none)(h:∀h' t,lC (frs (env::outer)) [T] e t (rawInt L) s.heap h'->Q () {s with heap:=h'}):wpAny M A (noteFrame (.ref e) env) Q E s:=by
 let⟨oe,vs,y,ts,he,hd,h1,r,f,h3,i⟩:=v;unfold noteFrame;simp only[u];refine al6<|am1 he hd h1 ?_;rw[ama (show(Value.ref T != Value.none)=Z1 from by simp)];refine al6<|am1 r f h3 ?_;rw[al8 (show ¬((Value.none==rawInt L)=Z1) from by simp[rawInt])];refine al6<|anA r f (amD.mp h3).1 ?_;let other:∀b,b≠T->(s.heap.update T (Obj.mapFields (·.setIfInBounds 3 Value.none))).get? b=s.heap.get? b:=λb a=>amt _ _<|amW a
 let j:∀b o,s.heap.get? b=some o->(∀vs,o.data≠.fields vs)->b≠T:=λb o a g q=>by rw[q,r] at a;cases a;exact g ts f
 let sz:(s.heap.update T (Obj.mapFields (·.setIfInBounds 3 Value.none))).objs.size=( ~~~s):=aoz _ _ _;refine xZ l (x.of_keeps λb o a g=>{o,(other b<|j b o a g).trans a,J}) u ((other e<|amW i).trans he) hd (amD.mp h1).1 λh' t N=>h h' t ?_
 dsimp only at N;refine{λb o a n c q=>N.keep b o a o7 c<|(other b (⇑n)).trans q,λb o a n c q=>N.slot b o a o7 c<|(other b (⇑n)).trans q,?_,λp m q d=>N.exc p m ((other e<|amW i).trans q) d,N.fly};rw[←sz];exact N.new
def iE{T:nt}{fl:nF}(j:Fly s.heap e T fl)(h:∀h',(∀b o,b≠T->s.heap.get? b=some o->h'.get? b=some o)->h'.objs.size= ~~~s->Fly h' e T .none->Q () {s with heap:=h'}):wpAny M A (setFlight (.ref e) Z0) Q E s:=by
 let⟨oe,vs,l,ts,he,hd,h1,i,a,h3,c⟩:=j;let hsz:3<ts.size:=(amD.mp h3).1;let other:∀b,b≠T->(s.heap.update T (Obj.mapFields (·.setIfInBounds 3 ((Z0:o9 nt).elim Value.none λf=>rawInt f)))).get? b=s.heap.get? b:=λb g=>amt _ _<|amW g
 unfold setFlight;refine al6<|am1 he hd h1 ?_;rw[ama (show(Value.ref T != Value.none)=Z1 from by simp)];refine anA i a hsz<|h _ (λb o g q=>(other b g).trans q) (aoz _ _ _) ?_;exact{oe,vs,_,_,(other e<|amW c).trans he,hd,h1,amI _ i<|anG<|am8 a _,am8 a _,by simp[hsz],c}
def lC.landed{fs ch:mu nt}{T:nt}{fl:nF}{h h1 h2:Heap}(N:lC fs ch e T fl h h1)(k:∀b o,b≠T->h1.get? b=some o->h2.get? b=some o)(F:Fly h2 e T .none):lC fs ch e T .none h h2:=by
 let g:∀b o,h.get? b=some o->b≠T:=λb o q=>amu<|amv (amb q) N.new
 refine{λb o c f a q=>k b o (g b o q)<|N.keep b o c f a q,λb o c f a q=>?_,N.new,λoe vs q d=>k e _ (g e oe q)<|N.exc oe vs q d,F};let⟨i,z⟩:=N.slot b o c f a q;exact{i,k b _ (g b o q) z}
def leave_new(a:A.frames=some (env::outer))(b:s.heap.FunFrames base (env::outer))(c:env.frame=some L)(he:s.heap.get? e=some oe)(hd:oe.data=.fields vs)(h1:vs[1]?=some .none)(h:∀h' T,lC (frs (env::outer)) [] e T .none s.heap h'->Q () {s with heap:=h'}):wpAny M A (leaving env (.ref e)) Q E s:=by unfold leaving;exact al6 (My a b c he hd h1 λh' T N=>iE (s:={s with heap:=h'}) N.fly λh2 k _ F=>h h2 T<|N.landed k F)
def Jl{T:nt}(a:A.frames=some (env::outer))(g:s.heap.FunFrames base (env::outer))(f:env.frame=some L)(c:Fly s.heap e T .none)(h:∀h' b,lC (frs (env::outer)) [T] e b .none s.heap h'->Q () {s with heap:=h'}):wpAny M A (leaving env (.ref e)) Q E s:=by unfold leaving;exact al6 (uK a g f c λh' b N=>iE (s:={s with heap:=h'}) N.fly λh2 k _ F=>h h2 b<|N.landed k F)
end
section
variable{X:Cx}{X4:mu (nt×Obj)}{σ:St}{H:Hp}{s:qb}{e C T:nt}{od:o9 nt}{raw ch':Bool}{fl:nF}{h':Heap}{ch:mu nt}
def acW(q:H e=some o):Z9 H e o=H:=by grind [Z9]
def Inv.noted(I:Inv X X4 σ H s)(q:H e=some (exO raw ch' e C od))(N:lC (frs X.stack) ch e T fl s.heap h')(i:∀ b∈ch,dU X X4 H b) :
  Inv X X4 σ (Z9 H e (exO Z2 ch' e C od)) {s with heap:=h'}:=by
 let⟨vs,S,g,U,_,p⟩:=pB I.hok q;let x:∀b,H b=Z0->b≠e:=λb n z=>by rw[z,q] at n;cases n
 let tfs:∀b o,H b=some o->b∉frs X.stack:=λb o z y=>by rw[I.Ad b y] at z;cases z
 let l:∀b o,H b=some o->b∉ch:=λb o z y=>by rw[(i b y).1] at z;cases z
 let F:zJ Z2 ch' e C od h':=by let:=N.exc _ vs g rfl;refine{vs.setIfInBounds 1<|.ref T,S,this,⇑U,nofun,(λz=>by simpa using p z)}
 refine I.yR (s':={s with heap:=h'}) (ch:=ch) J {λb o a n h f=>N.keep b o h f (x b n) a,λb o a n h f=>N.slot b o h f (x b n) a,λb o a n f=>?_,λb o a f=>?_,λb xs a=>?_,λb o u a=>?_,λb ps a=>{#[],?_}} (λb o a=>?_) I.bare λb j=>{(i b j).2.2.2.1,(i b j).2.1,(i b j).2.2.2.2.1,(i b j).2.2.2.2.2}
 .rw[au<|x b n];exact n
 .by_cases z:b=e
  .subst z;let⟨O,t,g',_⟩:=F;exact{_,g'}
  .by_cases h:b∈frs X.stack
   .let⟨t,g'⟩:=N.slot b o h f z a;exact{_,g'}
   .exact{o,N.keep b o h f z a}
 .rw[au λz=>by rw[z,q] at a;cases a];exact a
 .rw[au λz=>by rw[z,q] at a;cases a];exact a
 .rw[au (λz=>by rw[z,q] at a;cases a),a];simp
 .by_cases z:b=e
  .subst z;rw[aj] at a;cases a;exact vD F
  .rw[au z] at a;refine(I.hok b o a).stay (λc v L g'=>?_) (λc g'=>?_) λc xs g'=>?_
   .let A:∃u,H c=some u:=by grind
    let⟨u,B⟩:=A;let m:c≠e:=by grind
    exact N.keep c v (tfs c u B) (l c u B) m g'
   .rw[au λr=>by rw[r,q] at g';cases g'];exact g'
   .rw[au λr=>by rw[r,q] at g';cases g'];exact g'
def Inv.yZ(I:Inv X X4 σ H s)(q:zK H e C od)(N:lC (frs X.stack) ch e T fl s.heap h')(a:∀ b∈ch,dU X X4 H b):Inv X X4 σ H {s with heap:=h'}:=by let⟨ch',q⟩:=q;let:=I.noted q N a;rwa[acW q] at this
def Inv.landed{T:nt}(I:Inv X X4 σ H s)(f:dU X X4 H T)(k:∀b o,b≠T->s.heap.get? b=some o->h'.get? b=some o):Inv X X4 σ H {s with heap:=h'}:=
 I.turned (it:=T) (t':=s.toks) k f.1 f.2.1 f.2.2.2.1 f.2.2.2.2.1 f.2.2.2.2.2
end
def CXx(P:q9)(w:wo):CXT:=λouter H s E v s'=>∃e C od T H',v=.ref e/\s'.os=s.os/\AllBare s'.gens/\Un (frs outer) [] H H' s.heap s'.heap/\HOk P w H' s'.heap∧
 zK H' e C od/\(~~~s)≤T/\H' T=Z0/\Fly s'.heap e T .none/\E (.ref C) (some e) H'
abbrev XS:=St->XK
def cS(X:Cx)(E:XS):Z3:=∀X4 σ H s v s',Inv X X4 σ H s->CXx X.prog X.w X.stack H s (E σ) v s'->X.xe v s'
def Gp(X:Cx)(E:XS):Z3:=∀X4 σ H s e C od ch,Inv X X4 σ H s->H e=some (exO Z1 ch e C od)->E σ (.ref C) (some e) (Z9 H e<|exO Z2 ch e C od)->X.xe (.ref e) s
def aO{X:Cx}:cS X (λ_=>E0):=λ_ _ _ _ _ _ _ z=>by let⟨_,_,_,_,_,_,_,_,_,_,_,_,_,_,h⟩:=z;exact h.elim
section
variable{P:q9}{w:wo}{K:Frag}{mg:Z6->o9 nF}{base:Heap}{N:mu Z6}{qual:Z6}{scope:Scope}{f:nt}{cd:nF}{A:Around}{outer:mu Env}{s₀:qb}{H₀:Hp}{E:XK}
def aV:cS (bq (CXx P w) P w K mg base N qual scope f cd A outer s₀ H₀ E) (λ_=>E):=by
 rintro X4 σ H s v s' I ⟨e,C,od,T,H',rfl,os,a,un,i,he,m,n,h,o⟩;let g:=I.yR (ch:=[]) os un i a λb z=>absurd z o7;let j:dU (bq (CXx P w) P w K mg base N qual scope f cd A outer s₀ H₀ E) X4 H' T:=I.m7 m n;show wpAny _ _ (leaving _<|.ref e) _ _ _;refine Jl I.ok.frames g.stack J h λh2 p c=>?_
 let b4:=g.yZ (ch:=[T]) he c (λb l=>by let:=amr.mp l;subst this;exact j);exact{e,C,od,p,H',J,b4.os,b4.bare,b4.base,b4.hok,he,amo g.sz c.new,g.hok.fresh c.new,c.fly,o}
def eU:Gp (bq (CXx P w) P w K mg base N qual scope f cd A outer s₀ H₀ E) (λ_=>E):=by
 rintro X4 σ H s e C od ch I he i;let⟨vs,l,g,m,h⟩:=pB I.hok he;show wpAny _ _ (leaving _<|.ref e) _ _ _;refine leave_new I.ok.frames I.stack J g J (h.1 J) λh2 j a=>?_
 let b4:=I.noted (ch:=[]) he a (λb c=>by cases c);exact{e,C,od,j,1,b4.os,b4.bare,b4.base,b4.hok,⟨ch,aj⟩,amo I.sz a.new,by rw[au λz=>by rw[←z] at g;exact absurd (amb g)<|Nat.not_lt.mpr a.new];exact I.hok.fresh a.new,a.fly,i}
def Fun.okX{x qual:Z6}{st:Stmt}{f:nt}{fd:qd}{N ps:mu Z6}{k:Z5}{sp:Sp}(F:Fun K x qual st f fd)(S:aG N ps (az st))(len:∀vs H Q E,sp vs H Q E->vs.length=ps.length)(b:∀a A outer s H vs Q E,cO k (A.deeper (envOfC qual (az st) (~~~s) f a))->sp vs H Q E →
   ∃t,PSs (bq (CXx P w) P w K mg base N qual (az st) f a A outer s H E) (c7 st) t/\t {nx:=λ_ H'=>Q .non H',rt:=Q} (start N vs) H):aM P w K mg base (CXx P w) (k+1) f fd ps sp:=by
 let⟨m,od,kV,i,n,l,a,ct,j,rfl,lk,g⟩:=F.ex;exact Us lk g S len λA outer s H vs Q E h c=>b a A outer s H vs Q E h c
end
section
variable(P:q9)(w:wo)(K:Frag)(mg:Z6->o9 nF)(base:Heap)
structure DefX(x:Z6)(k:Z5)(ps:mu Z6)(sp:Sp):Z3 where
 ex:∃(f:nt)(fd:qd),mg x=some (.ref f)/\aM P w K mg base (CXx P w) k f fd ps sp/\keepIn K (.ref f)=Z1/\Binds K fd ps []
structure zo(C:nt)(m:Z6)(k:Z5)(ps:mu Z6)(sp:Sp):Z3 where
 ex:∃(f:nt)(fd:qd),Meth K C m f/\aM P w K mg base (CXx P w) k f fd ps sp/\Binds K fd ps []
structure Cs(x:Z6)(C:nt)(k:Z5)(ps:mu Z6)(sp:Sp):Z3 where
 ex:∃(f:nt)(fd:qd),mg x=some (.ref C)/\Mk K C f/\aM P w K mg base (CXx P w) k f fd ps sp/\Binds K fd ps []
structure XMk(K:Frag)(C f:nt):Z3 where
 cls:cQ K C
 init:findIn K (.ref C) "__init__" = some (some (.ref f))
 fn:isFn K (.ref f)=Z1
 kp:keepIn K (.ref C)=Z1
structure Nl(x:Z6)(C:nt)(k:Z5)(ps:mu Z6)(sp:Sp):Z3 where
 ex:∃(f:nt)(fd:qd),mg x=some (.ref C)/\XMk K C f/\aM P w K mg base (CXx P w) k f fd ps sp/\Binds K fd ps []
end
def DS(sp:Sp)(E:XS)(t:TA):TE:=λσ H Q=>t σ H λvs H1=>sp vs H1 Q<|E σ
inductive EI(C:nt)(m:Z6)(sp:Sp)(E:XS)(t:TA)(σ:St)(Q:VK)(x:V)(H1:Hp):Z3
 |m a dx fs(_:x=.ref a)(_:H1 a=some (.ins C dx fs))(_:fs.lookup m=Z0)(_:t σ H1 λvs H2=>sp (x::vs) H2 Q (E σ))
def LQ(C:nt)(m:Z6)(sp:Sp)(E:XS)(ta:TE)(t:TA):TE:=λσ H Q=>ta σ H λx H1=>EI C m sp E t σ Q x H1
def KY(C:nt)(sp:Sp)(E:XS)(t:TA):TE:=λσ H Q=>t σ H λvs H1=>∀x dx,H1 x=Z0->H1 dx=Z0->dx≠x →
 sp (.ref x::vs) (Z9 (Z9 H1 dx<|.own x) x<|.ins C dx []) (λv H2=>v=.non/\Q (.ref x) H2) (E σ)
def ak0(C:nt)(sp:Sp)(t:TA):TE:=λσ H Q=>t σ H λvs H1=>vs.length≤Z7/\∀x,H1 x=Z0->sp (.ref x::vs) (Z9 H1 x<|exO Z1 Z2 x C Z0) (λv H2=>v=.non/\Q (.ref x) H2) E0
section
variable{X:Cx}{k:Z5}{f C:nt}{fd:qd}{ps:mu Z6}{sp:Sp}{E:XS}{x m:Z6}{p pos apos:Pos}{e o:Expr}{es:mu Expr}{ta:TE}{t:TA}
def rF{X4:mu (nt×Obj)}{σ:St}{H:Hp}{s:qb}{Q:VK}{us:mu nF}{vs:mu V}(F:aM X.prog X.w X.K X.mg X.base (CXx X.prog X.w) k f fd ps sp)(g:cO k X.A)(c:Binds X.K fd ps [])(i:cS X E)(I:Inv X X4 σ H s)(r:Vals vs us)(h:sp vs H Q (E σ)):wpAny (model X.prog X.w) X.A (call (.ref f) us) (EP X X4 σ Q) X.xe s:=by
 let j:us.length=ps.length:=by rw[←r.length];exact F.len _ _ _ _ h
 let b:=c s us I.kIn (by grind);rw[anq] at b;refine an9 (anC (F.run X.A X.stack s H {us,[]} us vs Q (E σ) g I.Dv b r h) λr s' a=>?_);cases r with
 |error e=>exact i X4 σ H s e s' I a
 |ok fl=>
  cases fl with
  |ret u=>exact I.after a
  |next=>exact False.elim a
  |brk=>exact False.elim a
  |cont=>exact False.elim a
def MO(D:DefX X.prog X.w X.K X.mg X.base x k ps sp)(g:cS X E)(i:cO k X.A)(j:Gl X x)(n:PA X (e::es) t)(a:(x ==("__debug__":Str))=Z2:=by decide)(he:starEach (e::es) X.env =(Z2,eval e X.env)::starEach es X.env:=by rfl)(c:(backTo pos (starEach es X.env)).any (·.1)=Z2:=by rfl) :
  PE X (.Call (.Name x p) (e::es) [] pos) (DS sp E t):=by
 let⟨f,fd,m,F,l,b⟩:=D.ex;intro X4 s σ H Q I h;refine amU<|kP I j m ?_ a;refine anc (h₀:=X.base) I.ok.mod.kin l (thn (n pos X4 s σ H _ I h) λ us s1 ⟨vs,H1,I1,r,q⟩=>{I1.kIn,?_}) he c;exact rF F i b g I1 r q
def aZ{pl:Sem Bool}(he:PE X o ta)(c:Cls X.K C)(D:zo X.prog X.w X.K X.mg X.base C m k ps sp)(n:cS X E)(p:cO k X.A)(y:PA X (e::es) t)(g:starEach (e::es) X.env =(Z2,eval e X.env)::starEach es X.env:=by rfl)(i:(backTo pos (starEach es X.env)).any (·.1)=Z2:=by rfl)(v:eval (.Call (.Attribute o m apos) (e::es) [] pos) X.env =(do
   let ov ←eval o X.env
   standAt apos.atName
   let (f,first) ←holding [ov] (getMethod ov m pl)
   callWith pos f first (backTo pos (starEach (e::es) X.env)) (backToKw pos (keywordEach [] X.env))):=by rfl) :
  PE X (.Call (.Attribute o m apos) (e::es) [] pos) (LQ C m sp E ta t):=by
 let⟨f,fd,j,F,b⟩:=D.ex;intro X4 s σ H Q I h;refine an4 (pl:=pl) (thn (he X4 s σ H _ I h) λ u s1 ⟨x,H1,I1,rx,a,dx,fs,ex,ea,l,q⟩=>?_) v;subst ex;obtain rfl:u=Value.ref a:=rx;refine zf I1 ea c j l ?_;refine anc (first:=[.ref a]) (h₀:=X.base) I.ok.mod.kin j.kp (thn (y pos X4 s1 σ H1 _ I1 q) λ us s2 ⟨vs,H2,I2,r,q2⟩=>{I2.kIn,?_}) g i;exact rF (us:=.ref a::us) (vs:=.ref a::vs) F p b n I2 (.cons J r) q2
def cT{pl:Sem Bool}(he:PE X o ta)(c:Cls X.K C)(D:zo X.prog X.w X.K X.mg X.base C m k ps sp)(i:cS X E)(j:cO k X.A)(n:eval (.Call (.Attribute o m apos) [] [] pos) X.env =(do
   let ov ←eval o X.env
   standAt apos.atName
   let (f,first) ←holding [ov] (getMethod ov m pl)
   callWith pos f first (backTo pos (starEach [] X.env)) (backToKw pos (keywordEach [] X.env))):=by rfl) :
  PE X (.Call (.Attribute o m apos) [] [] pos) (LQ C m sp E ta xT):=by
 let⟨f,fd,g,F,b⟩:=D.ex;intro X4 s σ H Q I h;refine an4 (pl:=pl) (thn (he X4 s σ H _ I h) λ u s1 ⟨x,H1,I1,rx,a,dx,fs,ex,ea,l,q⟩=>?_) n;subst ex;obtain rfl:u=Value.ref a:=rx;refine zf I1 ea c g l ?_;exact aqg (first:=[.ref a]) I1.kIn g.kp<|rF (us:=[.ref a]) (vs:=[.ref a]) F j b i I1 (.cons J .nil) q
def BU{X4:mu (nt×Obj)}{σ:St}{H:Hp}{s:qb}{Q:VK}{us:mu nF}{vs:mu V}(M:Mk X.K C f)(F:aM X.prog X.w X.K X.mg X.base (CXx X.prog X.w) k f fd ps sp)(m:cO (k+1) X.A)(j:Binds X.K fd ps [])(l:cS X E)(I:Inv X X4 σ H s)(r:Vals vs us)(h:∀x dx,H x=Z0->H dx=Z0->dx≠x->sp (.ref x::vs) (Z9 (Z9 H dx (.own x)) x (.ins C dx [])) (λv H2=>v=.non/\Q (.ref x) H2) (E σ)) :
  wpAny (model X.prog X.w) X.A (call (.ref C) us) (EP X X4 σ Q) X.xe s:=by
 let g:=h (~~~s+1) (~~~s) (I.hok.fresh<|anp _) (I.hok.fresh<|amd _)<|amu<|anL _;let c:=Inv.made (C:=C) I;let i:Vals (V.ref (~~~s+1)::vs) (Value.ref (~~~s+1)::us):=.cons J r;let t:(Value.ref (~~~s+1)::us).length=ps.length:=by let e:=i.length;rw[F.len _ _ _ _ g] at e;exact e.symm
 let b:=j _ (Value.ref (~~~s+1)::us) c.kIn (by grind);rw[anq] at b;refine an9 (Eo (f:=f) I.kIn M.makes M.init (aoL.mp M.fn) (anC (F.run _ X.stack _ _ {Value.ref (~~~s+1)::us,[]} (Value.ref (~~~s+1)::us) _ _ (E σ) (m.make C us [])
  (c.Dv.make C us []) b i g) λr s' a=>?_))
 cases r with
 |error e=>exact l X4 σ _ _ e s' c a
 |ok fl=>
  cases fl with
  |ret u=>let⟨v,H',o,p,q,n⟩:=c.after a;subst q;exact{p,{V.ref (~~~s+1),H',o,J,n}}
  |next=>exact False.elim a
  |brk=>exact False.elim a
  |cont=>exact False.elim a
def g9(D:Cs X.prog X.w X.K X.mg X.base x C k ps sp)(g:cS X E)(i:cO (k+1) X.A)(j:Gl X x)(l:PA X (e::es) t)(a:(x ==("__debug__":Str))=Z2:=by decide)(he:starEach (e::es) X.env =(Z2,eval e X.env)::starEach es X.env:=by rfl)(c:(backTo pos (starEach es X.env)).any (·.1)=Z2:=by rfl) :
  PE X (.Call (.Name x p) (e::es) [] pos) (KY C sp E t):=by
 let⟨f,fd,m,M,F,b⟩:=D.ex;intro X4 s σ H Q I h;refine amU<|kP I j m ?_ a;refine anc (h₀:=X.base) I.ok.mod.kin M.kp (thn (l pos X4 s σ H _ I h) λ us s1 ⟨vs,H1,I1,r,q⟩=>{I1.kIn,?_}) he c;exact BU M F i b g I1 r q
def uW(D:Cs X.prog X.w X.K X.mg X.base x C k ps sp)(c:cS X E)(g:cO (k+1) X.A)(i:Gl X x)(a:(x ==("__debug__":Str))=Z2:=by decide):PE X (.Call (.Name x p) [] [] pos) (KY C sp E xT):=by let⟨f,fd,m,M,F,b⟩:=D.ex;intro X4 s σ H Q I h;refine amU<|kP I i m ?_ a;exact aqg I.kIn M.kp<|BU (us:=[]) M F g b c I .nil h
def Inv.ajh{X4:mu (nt×Obj)}{σ:St}{H:Hp}{s:qb}{rest:mu nF}(I:Inv X X4 σ H s) :
  Inv X X4 σ (Z9 H (~~~s+1) (exO Z1 Z2 (~~~s+1) C Z0)) {s with heap:=(s.heap.push (nK rest)).push (lN C (~~~s))}:=by
 refine I.laid (a:= ~~~s+1) (t':=s.toks) (λb u q=>DT b u q) (anp _)<|vD {_,_,Gh,J,(λ_=>rfl),(λ_=>rfl)}
def Vh{X4:mu (nt×Obj)}{σ:St}{H:Hp}{s:qb}{Q:VK}{us:mu nF}{vs:mu V}(M:XMk X.K C f)(F:aM X.prog X.w X.K X.mg X.base (CXx X.prog X.w) k f fd ps sp)(n:cO (k+1) X.A)(m:Binds X.K fd ps [])(I:Inv X X4 σ H s)(r:Vals vs us)(b:vs.length≤Z7)(h:∀x,H x=Z0->sp (.ref x::vs) (Z9 H x (exO Z1 Z2 x C Z0)) (λv H2=>v=.non/\Q (.ref x) H2) E0) :
  wpAny (model X.prog X.w) X.A (call (.ref C) us) (EP X X4 σ Q) X.xe s:=by
 let j:=h (~~~s+1)<|I.hok.fresh<|anp _;let i:=Inv.ajh (C:=C) (rest:=us) I;let l:Vals (V.ref (~~~s+1)::vs) (Value.ref (~~~s+1)::us):=.cons J r;let L:(Value.ref (~~~s+1)::us).length=ps.length:=by let e:=l.length;rw[F.len _ _ _ _ j] at e;exact e.symm
 let c:=m _ (Value.ref (~~~s+1)::us) i.kIn (by grind);rw[anq] at c;let run:=F.run _ X.stack _ _ {Value.ref (~~~s+1)::us,[]} (Value.ref (~~~s+1)::us) _ _ E0 (n.make C us []) (i.Dv.make C us []) c l j;let⟨p,g,d,t,os⟩:=s;refine ID I.kIn M.cls (by rwa[←r.length]) M.init (aoL.mp M.fn)<|an9 (anC run λr s' a=>?_);cases r with
 |error e=>let⟨_,_,_,_,_,_,_,_,_,_,_,_,_,_,z⟩:=a;exact z.elim
 |ok fl=>
  cases fl with
  |ret u=>let⟨v,H',q,y,B,o⟩:=i.after a;subst B;exact{y,{V.ref (p.objs.size+1),H',q,J,o}}
  |next=>exact False.elim a
  |brk=>exact False.elim a
  |cont=>exact False.elim a
def fT(D:Nl X.prog X.w X.K X.mg X.base x C k ps sp)(g:cO (k+1) X.A)(i:Gl X x)(j:PA X (e::es) t)(a:(x ==("__debug__":Str))=Z2:=by decide)(he:starEach (e::es) X.env =(Z2,eval e X.env)::starEach es X.env:=by rfl)(c:(backTo pos (starEach es X.env)).any (·.1)=Z2:=by rfl) :
  PE X (.Call (.Name x p) (e::es) [] pos) (ak0 C sp t):=by
 let⟨f,fd,m,M,F,b⟩:=D.ex;intro X4 s σ H Q I h;refine amU<|kP I i m ?_ a;refine anc (h₀:=X.base) I.ok.mod.kin M.kp (thn (j pos X4 s σ H _ I h) λ us s1 ⟨vs,H1,I1,r,hlen,q⟩=>{I1.kIn,?_}) he c;exact Vh M F g b I1 r hlen q
end
def acH(K:Frag)(te:TE)(E:XS):TS:=λ_ σ H=>te σ H λv H1=>∃e C od,v=.ref e/\H1 e=some (exO Z1 Z2 e C od)/\cQ K C/\E σ (.ref C) (some e) (Z9 H1 e<|exO Z2 Z2 e C od)
section
variable{X:Cx}{x:Expr}{te:TE}{E:XS}{pos:Pos}
def MN{M:Model}{A:Around}{E:nF->qb->Z3}{env:Env}{s:qb}{x:Sem nF}{Q:Flow->qb->Z3}(m:A.handled=Z0)(h:wpAny M A x (λv a=>∃e vs i C od,v=.ref e/\a.heap.get? e=some {.ref C,od,.fields vs,i}/\vs[1]?=some .none/\LY a.heap C/\E (.ref e) a) E s) :
  wpAny M A (raiseStmt env (some x) Z0) Q E s:=by
 refine al6 (amB h (λv a b=>?_) λ_ _ x=>x);let⟨e,vs,i,C,od,rfl,he,h1,c,l⟩:=b;let⟨nm,n,N,bs,bm,sn,sub,ab,col,dd,k0,k1,k2,k3,k5,c,j⟩:=c.ex;let f:=wJ (C:=C) j (T:="BaseException") o6;let⟨o,g,d,p,os⟩:=a
 repeat (first
  |with_reducible refine anh he ?_
  |with_reducible refine anh c ?_
  |(with_reducible refine anQ c ?_;rw[f])
  |with_reducible refine am1 he J h1 ?_
  |wp_step)
 exact wpAny_raiseNew_none m l
def dD(l:X.calm=Z1)(i:Gp X E)(he:PE X x te):PS X (.Raise (some x) Z0 pos) (acH X.K te E):=by
 intro X4 s σ H D I h;rw[arm_exec_Raise];let m:=I.ok.hd l;let f:wpAny (model X.prog X.w) X.A (eval x X.env) (λv a=>∃e vs c C od,v=.ref e/\a.heap.get? e=some {.ref C,od,.fields vs,c}/\vs[1]?=some .none/\LY a.heap C/\X.xe (.ref e) a) X.xe s:=by
  refine thn (he X4 s σ H _ I h) λ u s1 ⟨v,H1,I1,rv,e,C,od,ev,eo,hcl,hE⟩=>?_
  subst ev;cases (show u=Value.ref e from rv);let⟨vs,c,g,n,j⟩:=pB I1.hok eo;exact{e,vs,c,C,od,J,g,j.1 J,hcl.at I1.kIn,i X4 σ H1 s1 e C od Z2 I1 eo hE}
 exact al6<|aoD<|MN m<|al6 (amB f (λv a b=>al6<|aoD<|al9 b) λ_ _ x=>x)
end
section
variable{M:Model}{A:Around}{E:nF->qb->Z3}{s:qb}{K:Frag}{e C DC:nt}{b:Bool}
def aaq(X:K.In s.heap)(l:s.heap.get? e=some ox)(a:ox.cls=.ref C)(cd:cQ K DC)(n:mroIn K C (.ref DC)=some b)(h:Q b s) :
  wpAny M A (excMatches (.ref e) (.ref DC)) Q E s:=by
 let⟨m,g,d,t,os⟩:=s;let⟨nm,q,N,bs,bm,sn,sub,ab,col,dd,k0,k1,k2,k3,k5,i,j⟩:=(cd.at X).ex;let c:=wJ (C:=DC) j (T:="BaseException") o6;let f:=tc_notTuple;let p:Looks M m (typeOf (.ref e)) (.ref C):=a ▸ (Looks.ld l).andThen .now;let o:=aoZ (M:=M) X n
 repeat (first
  |with_reducible refine anh i ?_
  |(with_reducible refine anQ i ?_;rw[c])
  |with_reducible refine p.at ?_
  |with_reducible refine o.at ?_
  |wp_step)
 cases b
 ·wp_walk;exact h
 ·wp_walk;exact h
end
abbrev Cx.held(X:Cx)(e:nt)(pn:mu (nt×Obj)):Cx:={X with A:=X.A.mark<|some<|.ref e,calm:=Z2,pn:=pn,xe:=λ_ _=>False}
abbrev Cx.tried(X:Cx)(pn:mu (nt×Obj))(xe:nF->qb->Z3):Cx:={X with pn:=pn,xe:=xe}
section
variable{X:Cx}{X4:mu (nt×Obj)}{σ:St}{H:Hp}{s:qb}{e:nt}{xe:nF->qb->Z3}
def Inv.held(I:Inv X X4 σ H s)(e:nt):Inv (X.held e (X.pn++X4)) [] σ H s:=
 ⟨{I.ok.mod,I.ok.kind,I.ok.glob,I.ok.blt,I.ok.above,I.ok.inj,I.ok.has,I.ok.cab,nofun,I.ok.frames,I.ok.stk,I.ok.exf,I.ok.bs,I.ok.bsz,I.ok.wg,I.ok.ud,I.ok.kg,I.ok.frf},
  I.os,I.bare,I.base,I.loc,I.cell,I.free,I.gw,λp a=>I.pin p (⇑a),I.hok,I.len⟩
def Inv.zp(ok:X.Ok)(I:Inv (X.held e (X.pn++X4)) [] σ H s):Inv X X4 σ H s:=
 {ok,I.os,I.bare,I.base,I.loc,I.cell,I.free,I.gw,λp a=>I.pin p (⇑a),I.hok,I.len}
def Inv.tried(I:Inv X X4 σ H s):Inv (X.tried (X.pn++X4) xe) [] σ H s:=
 ⟨⟨I.ok.mod,I.ok.kind,I.ok.glob,I.ok.blt,I.ok.above,I.ok.inj,I.ok.has,I.ok.cab,I.ok.hd,I.ok.frames,I.ok.stk,I.ok.exf,I.ok.bs,I.ok.bsz,I.ok.wg,I.ok.ud,I.ok.kg,I.ok.frf⟩,
  I.os,I.bare,I.base,I.loc,I.cell,I.free,I.gw,λp a=>I.pin p (⇑a),I.hok,I.len⟩
def Inv.gT(ok:X.Ok)(I:Inv (X.tried (X.pn++X4) xe) ps σ H s):Inv X X4 σ H s:=
 {ok,I.os,I.bare,I.base,I.loc,I.cell,I.free,I.gw,λp a=>I.pin p<|amY _ a,I.hok,I.len}
def qy{i:Z5}(I:Inv X X4 σ H s)(S:X.N.Nodup)(hi:X.N[i]?=some n)(g:X.env.scope.names.lookup n=some .local)(h:∀s',Inv X X4 (σ.set i Z0) H s'->Q () s'):wpAny M A (do bindName X.env n .none;unbindBehindTheSuite X.env n pos) Q E s:=by
 refine al6<|wpAny_bindName<|tM (v:=.non) I S hi (.inl g) J (λs' a=>?_)<|.inr g;let⟨m,C,U⟩:=id a.loc;let l:(X.env.scope.kind==.class||(X.env.scope.kind==.module&&X.env.locals != X.env.globals))=Z2:=by rw[I.ok.kind]; rfl
 let Y:i<σ.length:=by rw[I.len];exact(amc.mp hi).1
 let⟨u,ru,lk⟩:=U i n .non hi (by grind)<|.inl g;let hv:m n=some u:=by
  rcases lk with⟨_,z⟩|⟨k,_⟩
  .exact z
  .rcases k with k|k
   .let k:X.env.scope.names.lookup n=some .cell:=k;rw[g] at k;cases k
   .let k:X.env.scope.names.lookup n=some .free:=k;rw[g] at k;cases k
 refine wpAny_onRaise (wpAny_unbindName_local (env:=X.env) g C hv l λh' u' B hs=>h _ ?_);let⟨oL,_,_,a0,_⟩:=id C;let cne:=a.cne;refine{a.ok,a.os,a.bare,{λb o e n' x r=>?_,λb o e n' x r=>?_,a.base.free,λb o e r=>?_,a.base.tups,a.base.oz,a.base.qV},{_,B,λj y v' f e2 e3=>?_},λy c q=>?_,a.free,a.gw,λp hp=>?_,λb ob q=>?_,⇑I.len}
 .exact(hs.2 b<|amu<|amv (amb e) a.ok.above).trans (a.base.keep b o e n' x r)
 .let⟨sl,f⟩:=a.base.slot b o e n' x r;exact{sl,(hs.2 b<|amu<|amv (amb e) a.ok.above).trans f}
 .let⟨o',f⟩:=a.base.there b o e r;exact{o',(hs.2 b<|amu<|amv (amb e) a.ok.above).trans f}
 .by_cases F:j=i
  .grind
  .rw[aoK<|amW F] at e2;let⟨u2,r2,q⟩:=U j y v' f (by grind) e3;exists u2,r2;rcases q with⟨k,e⟩|⟨k,c,e,z⟩
   .refine .inl {k,?_};let:y≠n:=λe=>F (xS S f<|e ▸ hi)
    simp[this,e]
   .exact .inr {k,c,e,z.sameBut hs<|cne y c e}
 .let⟨O,z⟩:=a.cell y c q;exact{O,z.sameBut hs<|cne y c q}
 .let⟨e,n',L,nf,d⟩:=a.pin p hp;exact{(hs.2 p.1 L).trans e,n',L,nf,d}
 .refine(a.hok b ob q).stay (λc O hc t=>(hs.2 c ?_).trans t) (λ_ t=>t) λ_ _ t=>t
  rintro rfl;rcases hc with z|z
  .rw[←z,a.free] at q;cases q
  .rw[a.free] at z;cases z
end
abbrev TH:=nt->nt->TS
def PH(X:Cx)(hs:mu ExceptHandler)(th:TH):Z3:=
 ∀(X4:mu (nt×Obj))(s:qb)(σ:St)(H:Hp)(D:Ends)(e C:nt)(od:o9 nt)(T:nt),Inv X X4 σ H s->zK H e C od->Fly s.heap e T .none->dU X X4 H T->th e C D σ H →
  wpAny (model X.prog X.w) X.A (handleBy (.ref e) X.env hs) (SP X X4 D) X.xe s
def agY:TH:=λ_ _ _ _ _=>False
def KG:PH X [] agY:=by grind [PH,agY]
inductive hAs(K:Frag)(DC:nt)(i:Z5)(ts:nt->mu (nt×Obj)->TS)(tr:TH)(e:nt)(C:nt)(D:Ends)(σ:St)(H:Hp):Z3
 |m b(_:mroIn K C (.ref DC)=some b)(_:if b=Z1 then ∀pn,ts e pn {nx:=λσ' H'=>D.nx (σ'.set i Z0) H',rt:=D.rt,bk:=λσ' H'=>D.bk (σ'.set i Z0) H',ct:=λσ' H'=>D.ct (σ'.set i Z0) H'} (σ.set i (some (.ref e))) H else tr e C D σ H)
section
variable{X:Cx}{x n:Z6}{i:Z5}{DC:nt}{np pos:Pos}{b0:Stmt}{suite:mu Stmt}{rest:mu ExceptHandler}{ts:nt->mu (nt×Obj)->TS}{tr:TH}
def SP.gT{X4:mu (nt×Obj)}{D:Ends}{xe:nF->qb->Z3}{fl:Flow}{s':qb}(ok:X.Ok)(h:SP (X.tried (X.pn++X4) xe) [] D fl s'):SP X X4 D fl s':=by
 cases fl with
 |next=>let⟨a,H',b4,q⟩:=h;exact{a,H',b4.gT ok,q}
 |brk=>let⟨a,H',b4,q⟩:=h;exact{a,H',b4.gT ok,q}
 |cont=>let⟨a,H',b4,q⟩:=h;exact{a,H',b4.gT ok,q}
 |ret u=>let⟨v,a,H',b4,r,q⟩:=h;exact{v,a,H',b4.gT ok,r,q}
def oJ(B:Gl X x)(L:X.mg x=some (.ref DC))(c:cQ X.K DC)(o:X.N.Nodup)(hi:X.N[i]?=some n)(l:X.env.scope.names.lookup n=some .local)(hs:∀e pn,PSs (X.held e pn) (b0::suite) (ts e pn))(y:PH X rest tr)(hd:(x ==("__debug__":Str))=Z2:=by decide) :
  PH X (.ExceptHandler (some (.Name x np)) (some n) (b0::suite) pos::rest) (hAs X.K DC i ts tr):=by
 rintro X4 s σ H D e C od T I q m fp ⟨b,t,h⟩;let⟨vs,S,g,_⟩:=pB I.hok q.choose_spec;let O:=I.held e;refine wpAny_handleBy_cons (codeAny_handlers_test<|kP (X:=X.held e (X.pn++X4)) O B L ?_ hd) nofun;refine aaq I.kIn g J c t ?_;cases b with
 |false=>rw[al8 o6] at h;exact y X4 s σ H D e C od T I q m fp h
 |true=>
  rw[ama rfl] at h;refine codeAny_handlers_suite_as (iE m λh2 k _ p=>?_);let A:=I.landed fp k;refine tM (X:=X.held e (X.pn++X4)) (A.held e) o hi (.inl l) (v:=.ref e) J (λs3 F=>?_)<|.inr l;refine amB (hs e _ [] s3 _ _ _ F<|h _) (λfl s4 h4=>?_) λ_ _ z=>z.elim
  cases fl with
  |next=>let⟨j,H',b4,a⟩:=h4;exact qy (b4.zp I.ok) o hi l λs5 f=>{_,_,f,a}
  |brk=>let⟨j,H',b4,a⟩:=h4;exact qy (b4.zp I.ok) o hi l λs5 f=>{_,_,f,a}
  |cont=>let⟨j,H',b4,a⟩:=h4;exact qy (b4.zp I.ok) o hi l λs5 f=>{_,_,f,a}
  |ret u=>let⟨v,j,H',b4,r,a⟩:=h4;exact qy (b4.zp I.ok) o hi l λs5 f=>{v,_,_,f,r,a}
def aly(tb:mu (nt×Obj)->(nF->qb->Z3)->XS->TS)(th:TH):TS:=λD σ H=>∀pn xe,tb pn xe (λa cls oe H'=>∃e C,cls=.ref C/\oe=some e/\th e C D a H') D σ H
def zh(p:∀pn xe E,cS (X.tried pn xe) E->PSs (X.tried pn xe) body (tb pn xe E))(L:PH X (h0::hs) th)(c:X.stack=X.env::X.outer)(r:X.env.frame=some X.env.locals) :
  PS X (.Try body (h0::hs) [] [] pos) (aly tb th):=by
 intro X4 s σ H D I h;refine wpAny_Try_except ?_;refine amB (p (X.pn++X4) (λv i=>wpAny (model X.prog X.w) X.A (noteFrame v X.env) (λ_ m=>wpAny (model X.prog X.w) X.A (setFlight v Z0) (λ_ j=>wpAny (model X.prog X.w) X.A (handleBy v X.env (h0::hs)) (SP X X4 D) X.xe j) X.xe m) X.xe i)
  (λa cls oe H'=>∃e C,cls=.ref C/\oe=some e/\th e C D a H') ?_ [] s σ H D I.tried (h _ _)) (λfl s1 h1=>?_) λv s1 h1=>h1
 .rintro ps a H1 s1 v s2 b4 ⟨e,C,od,T,H2,rfl,os,l,un,x,he,F,Y,q,e',C',ec,B,t⟩;cases ec;cases B;let S:=b4.yR (ch:=[]) os un x l λb z=>absurd z o7;let o:Inv X X4 a H2 s2:=S.gT I.ok;let fp:dU X X4 H2 T:=(b4.gT I.ok).m7 F Y;let U:X.A.frames=some (X.env::X.outer):=by rw[←c];exact I.ok.frames
  refine uK U (by rw[←c];exact o.stack) r q λh3 T3 n=>?_
  rw[←c] at n;let y:=o.yZ (ch:=[T]) he n (λb p=>by let:=amr.mp p;subst this;exact fp);let f:dU X X4 H2 T3:=o.m7 n.new<|o.hok.fresh n.new;refine iE (s:={s2 with heap:=h3}) n.fly λh4 k4 _ g=>?_
  let O:=y.landed f k4;exact L X4 _ a H2 D e C od T3 O he g f t
 .cases fl with
  |next=>exact aog<|SP.gT I.ok h1
  |brk=>exact SP.gT I.ok h1
  |cont=>exact SP.gT I.ok h1
  |ret u=>exact SP.gT I.ok h1
end
def Xp(h:CXx P w o H s (λ_ _ _=>False) e s'):False:=by let⟨_,_,_,_,_,_,_,_,_,_,_,_,_,_,z⟩:=h;exact z
inductive f9(C:nt)(f:Z6)(vs:mu V)(H:Hp)(Q:VK)(E:XK):Z3
 |m p y(_:vs=[.ref p,y])(_:H p=some (exO Z1 Z2 p C Z0))(_:∀dx,H dx=Z0->Q .non (Z9 (Z9 H dx (xdO dx [(f,y)])) p (exO Z1 Z2 p C (some dx))))
inductive Cq(C:nt)(f g:Z6)(vs:mu V)(H:Hp)(Q:VK)(E:XK):Z3
 |m p y z(_:vs=[.ref p,y,z])(_:H p=some (exO Z1 Z2 p C Z0))(_:∀dx,H dx=Z0->Q .non (Z9 (Z9 H dx (xdO dx [(f,y),(g,z)])) p (exO Z1 Z2 p C (some dx))))
def Vt{H:Hp}{p dx C:nt}{f g:Z6}{y z:V}{Q:Hp->Z3}(c:p≠dx)(a:¬f=g)(h:Q (Z9 (Z9 H dx (xdO dx [(f,y),(g,z)])) p (exO Z1 Z2 p C (some dx)))) :
  Q (Z9 (Z9 (Z9 H dx (xdO dx [(f,y)])) p (exO Z1 Z2 p C (some dx))) dx (xdO dx (bO g z [(f,y)]))):=by
 let e:bO g z [(f,y)]=[(f,y),(g,z)]:=by show(if f=g then _ else _)=_;rw[al8 a];rfl
 rw[e];let:Z9 (Z9 (Z9 H dx (xdO dx [(f,y)])) p (exO Z1 Z2 p C (some dx))) dx (xdO dx [(f,y),(g,z)])=Z9 (Z9 H dx (xdO dx [(f,y),(g,z)])) p (exO Z1 Z2 p C (some dx)):=by
  funext b;unfold Z9;by_cases h1:b=dx
  .grind
  .grind
 rwa[this]
section
variable{K:Frag}{C:nt}{f g:Z6}{y z:V}{H1:Hp}{E:XK}
def zj(f:H1 x=Z0)(a:Z9 H1 x (exO Z1 Z2 x C Z0) dx=Z0) :
  ExcAt (Z9 (Z9 (Z9 (Z9 H1 x (exO Z1 Z2 x C Z0)) dx (xdO dx fs)) x (exO Z1 Z2 x C (some dx))) x (exO Z2 Z2 x C (some dx))) x C fs/\ao H1 (Z9 (Z9 (Z9 (Z9 H1 x (exO Z1 Z2 x C Z0)) dx (xdO dx fs)) x (exO Z1 Z2 x C (some dx))) x (exO Z2 Z2 x C (some dx))):=by
 let c:dx≠x:=λe=>by rw[e,aj] at a;cases a
 let g:H1 dx=Z0:=by rwa[au c] at a
 refine{{Z2,Z2,some dx,aj,?_,c},λb o q=>?_}
 .rw[au c,au c,aj]
 .let h1:=aA q f;let h2:=aA q g;rwa[au h1,au h1,au h2,au h1]
def dH(c:cQ K C)(h:∀e H',ExcAt H' e C [(f,y)]->ao H1 H'->E (.ref C) (some e) H') :
  [y].length≤Z7/\∀x,H1 x=Z0->f9 C f (.ref x::[y]) (Z9 H1 x (exO Z1 Z2 x C Z0)) (λv H2=>v=.non/\∃e g od,V.ref x=.ref e/\H2 e=some (exO Z1 Z2 e g od)/\cQ K g/\E (.ref g) (some e) (Z9 H2 e (exO Z2 Z2 e g od))) E0:=
 {by show 1≤Z7;decide,λx j=>{x,y,J,aj,λdx i=>{J,x,C,some dx,J,aj,c,let ⟨a,b⟩:=zj j i;h x _ a b}}}
def LR(c:cQ K C)(h:∀e H',ExcAt H' e C [(f,y),(g,z)]->ao H1 H'->E (.ref C) (some e) H') :
  [y,z].length≤Z7/\∀x,H1 x=Z0->Cq C f g (.ref x::[y,z]) (Z9 H1 x (exO Z1 Z2 x C Z0)) (λv H2=>v=.non/\∃e i od,V.ref x=.ref e/\H2 e=some (exO Z1 Z2 e i od)/\cQ K i/\E (.ref i) (some e) (Z9 H2 e (exO Z2 Z2 e i od))) E0:=
 {by show 2≤Z7;decide,λx l=>{x,y,z,J,aj,λdx j=>{J,x,C,some dx,J,aj,c,let ⟨a,b⟩:=zj l j;h x _ a b}}}
end
def bB(h:Z9 H a o b=Z0):H b=Z0/\b≠a:=by
 unfold Z9 at h;split at h
 .cases h
 .grind
def Mv(n:Z5):(List.replicate n [V.int 0]).flatten =(List.replicate n ↥0).map Z8:=by simp_all
def c8(h:¬g=f):bO f v ((g,x)::r) =(g,x)::bO f v r:=by grind [bO]
def F7:bO f v ((f,x)::r) =(f,v)::r:=by grind [bO]
def mW{r:mu (Z6×V)}(h:¬f=g):List.lookup f ((g,x)::r)=List.lookup f r:=by grind
def eW{r:mu (Z6×V)}:List.lookup f ((f,x)::r)=some x:=by grind
def bg(F:mu nt)(H H':Hp):Z3:=∀b o,H b=some o->b∉F->H' b=some o
def bg.of_same(h:ao H H'):bg F H H':=λb o e _=>h b o e
def eL(s:bg F H H')(h:p∈F∨H p=Z0):bg F H (Z9 H' p o):=λb u e a=>by
 rw[au]
 .exact s b u e a
 .grind
def bg.refl:bg F H H:=λ_ _ e _=>e
structure Rows(H:Hp)(L:mu nt)(xss:mu (mu Z4)):Z3 where
 len:L.length=xss.length
 get:∀(i:Z5)a xs,L[i]?=some a->xss[i]?=some xs->H a=some (.lst (xs.map Z8))
def Rows.mono(R:Rows H L xss)(h:∀ a∈L,∀o,H a=some o->H' a=some o):Rows H' L xss:=
 {R.len,λi a xs b c=>h a (aml b) _<|R.get i a xs b c}
def Rows.snoc(R:Rows H L xss)(h:H a=some (.lst (xs.map Z8))):Rows H (L++[a]) (xss++[xs]):=
 ⟨by simp[R.len],λi b ys c f=>by
  let l:=R.len;by_cases hi:i<L.length
  .rw[ams hi] at c;rw[ams o5] at f;exact R.get i b ys c f
  .rw[amG o5] at c;rw[amG o5] at f;let g:i-L.length=0:=by grind
   rw[g] at c;rw[show i-xss.length=0 by omega] at f;let c:a=b:=⇑c
   let f:xs=ys:=⇑f
   rwa[←c,←f]⟩
def Rows.at_(R:Rows H L xss){i:Z5}(h:xss[i]?=some xs):∃a,L[i]?=some a/\a∈L/\H a=some (.lst (xs.map Z8)):=by
 let hi:i<L.length:=by rw[R.len];exact(amc.mp h).1
 exact{L[i],amg hi,anN hi,R.get i _ xs (amg hi) h}
def Rows.here(R:Rows H L xss):∀ a∈L,∃o,H a=some o:=λa c=>by
 let⟨i,hi⟩:=amQ.mp c;let b:i<xss.length:=by rw[←R.len];exact(amc.mp hi).1
 exact{_,R.get i a _ hi<|amg b}
structure mU(H:Hp)(L:mu V)(chs:mu (Z4×Z4)):Z3 where
 len:L.length=chs.length
 get:∀(i:Z5)v,L[i]?=some v->∃t r,v=V.ref t/\chs[i]?=some r/\H t=some (.tup [.int r.1,.int r.2])
def mU.nil:mU H [] []:={J,λi v e=>by simp at e}
def mU.mono(R:mU H L chs)(h:∀t xs,H t=some (.tup xs)->H' t=some (.tup xs)):mU H' L chs:=
 {R.len,λi v e=>let ⟨t,r,a,b,c⟩:=R.get i v e;{t,r,a,b,h t _ c}}
def mU.snoc(R:mU H L chs){r:Z4×Z4}(h:H t=some (.tup [.int r.1,.int r.2])):mU H (L++[.ref t]) (chs++[r]):=
 ⟨by simp[R.len],λi v e=>by
  by_cases hi:i<L.length
  .rw[ams hi] at e;let⟨t,r,a,b,c⟩:=R.get i v e;exact{t,r,a,by rwa[ams (by grind)],c}
  .rw[amG o5] at e;let f:i-L.length=0:=by grind
   rw[f] at e;let e:V.ref t=v:=⇑e
   refine{t,r,e.symm,?_,h};rw[amG (by rw[←R.len];omega),←R.len,f];rfl⟩
def fl(wd ls:Z4)(ta sa:nt):mu (Z6×V):=[("wide",.int wd),("last",.int ls),("tables",.ref ta),("set_places",.ref sa)]
def s1:¬(("wide":Str) = "last"):=by decide +kernel
def s2:¬(("wide":Str) = "tables"):=by decide +kernel
def s3:¬(("wide":Str) = "set_places"):=by decide +kernel
def s4:¬(("last":Str) = "tables"):=by decide +kernel
def s5:¬(("last":Str) = "set_places"):=by decide +kernel
def s6:¬(("tables":Str) = "set_places"):=by decide +kernel
def U1{wd ls:Z4}{ta sa:nt}:(fl wd ls ta sa).lookup ("wide":Str)=some (.int wd):=eW
def rP{wd ls:Z4}{ta sa:nt}:(fl wd ls ta sa).lookup ("last":Str)=some (.int ls):=by unfold fl;rw[mW λe=>s1 e.symm,eW]
def uE{wd ls:Z4}{ta sa:nt}:(fl wd ls ta sa).lookup ("tables":Str)=some (.ref ta):=by unfold fl;rw[mW λe=>s2 e.symm,mW λe=>s4 e.symm,eW]
def LI{wd ls:Z4}{ta sa:nt}:(fl wd ls ta sa).lookup ("set_places":Str)=some (.ref sa):=by unfold fl;rw[mW λe=>s3 e.symm,mW λe=>s5 e.symm,mW λe=>s6 e.symm,eW]
def oR{wd ls:Z4}{ta sa:nt}{m:Z6}(h1:¬m = "wide")(h2:¬m = "last")(h3:¬m = "tables")(h4:¬m = "set_places"):(fl wd ls ta sa).lookup m=Z0:=by grind [fl]
def XF{wd ls l2:Z4}:bO "last" (.int l2) (fl wd ls ta sa)=fl wd l2 ta sa:=by unfold fl;rw[c8 s1,F7]
def UU{wd:Z4}:bO "set_places" (.ref sa) (bO "tables" (.ref ta) (bO "last" (.int 0) (bO "wide" (.int wd) [])))=fl wd 0 ta sa:=by show bO "set_places" (.ref sa) (bO "tables" (.ref ta)<|bO "last" (.int 0) [("wide",.int wd)])=_;rw[c8 s1];show bO "set_places" (.ref sa) (bO "tables" (.ref ta) [("wide",.int wd),("last",.int 0)])=_;rw[c8 s2,c8 s4];show bO "set_places" (.ref sa) [("wide",.int wd),("last",.int 0),("tables",.ref ta)]=_;rw[c8 s3,c8 s5,c8 s6];rfl
def dj(wd:Z5)(c:Z4×Z4):o9 (Bool×Z4):=if c.1<0∨↥wd≤c.1 then some (Z1,c.1) else if c.2<0∨18446744073709551615<c.2 then some (Z2,c.2) else Z0
def cy(wd:Z5)(a:mu (Z4×Z4)):o9 (Bool×Z4):=a.findSome?<|dj wd
def nextT(b:mu Z4)(a:mu (Z4×Z4)):mu Z4:=a.foldl (λt c=>t.set c.1.toNat c.2) b
def BG(b:mu (Z4×Z4)):∀a:mu Z4,(nextT a b).length=a.length:=by
 induction b with
 |nil=>intro a;rfl
 |cons c r f=>intro a;show(nextT (a.set c.1.toNat c.2) r).length=_;rw[f,List.length_set]
def Jj(b:mu Z4)(a:mu (Z4×Z4))(c:Z4×Z4):nextT b (a++[c]) =(nextT b a).set c.1.toNat c.2:=by grind [nextT]
def LS{wd:Z5}{c:Z4×Z4}(h:dj wd c=Z0):0≤c.1/\c.1<wd/\0≤c.2/\c.2≤18446744073709551615:=by grind [dj]
def ug{wd:Z5}(h:cy wd chs=Z0):∀ c∈chs,dj wd c=Z0:=by grind [cy,dj]
def xF{wd:Z5}{i:Z5}{c:Z4×Z4}(hi:chs[i]?=some c)(a:∀j d,j<i->chs[j]?=some d->dj wd d=Z0)(b:dj wd c=some x):cy wd chs=some x:=by
 unfold cy
 induction chs generalizing i with
 |nil=>simp at hi
 |cons d r f=>
  cases i with
  |zero=>
   let:d=c:=⇑hi
   rw[aqh,this,b]
  |succ i=>rw[aqh,a 0 d o5 rfl];exact f (i:=i) (⇑hi) λj d' g e=>a (j+1) d' o5 (⇑e)
structure bX(C:nt)(H:Hp)(p ta sa:nt)(TL SL:mu nt)(wd:Z5)(C0 C1:mu (mu Z4)):Z3 where
 ob:∃dx,H p=some (.ins C dx (fl (wd:Z4) ((C0.length:Z4)-1) ta sa))
 tl:H ta=some (.lst (TL.map V.ref))
 sl:H sa=some (.lst (SL.map V.ref))
 tls:Rows H TL C0
 sls:Rows H SL C1
 nd:(p::ta::sa ::(TL++SL)).Nodup
 ne:C0.length≠0
 lens:C1.length=C0.length
 wds:∀ t∈C0,t.length=wd
 w1:0<wd
 w2:wd≤40
abbrev foot(p ta sa:nt)(TL SL:mu nt):mu nt:=p::ta::sa ::(TL++SL)
section
variable{C:nt}{H H':Hp}{p ta sa:nt}{TL SL:mu nt}{wd:Z5}{C0 C1:mu (mu Z4)}
def bX.here(D:bX C H p ta sa TL SL wd C0 C1):∀ b∈foot p ta sa TL SL,∃o,H b=some o:=by
 intro b a;simp only[foot,List.mem_cons,List.mem_append] at a;let⟨dx,c⟩:=D.ob;rcases a with rfl|rfl|rfl|a|a
 .exact{_,c}
 .exact{_,D.tl}
 .exact{_,D.sl}
 .exact D.tls.here b a
 .exact D.sls.here b a
def bX.mono(D:bX C H p ta sa TL SL wd C0 C1)(h:∀ b∈foot p ta sa TL SL,∀o,H b=some o->H' b=some o):bX C H' p ta sa TL SL wd C0 C1:=by let⟨dx,f⟩:=D.ob;exact{{dx,h _ (by simp[foot]) _ f},h _ (by simp[foot]) _ D.tl,h _ (by simp[foot]) _ D.sl,D.tls.mono λa c=>h a (by simp[foot,c]),D.sls.mono λa c=>h a (by simp[foot,c]),D.nd,D.ne,D.lens,D.wds,D.w1,D.w2}
def bX.same(D:bX C H p ta sa TL SL wd C0 C1)(h:ao H H'):bX C H' p ta sa TL SL wd C0 C1:=D.mono λb _ o e=>h b o e
def bX.fresh(D:bX C H p ta sa TL SL wd C0 C1)(h:H a=Z0):a∉foot p ta sa TL SL:=λb=>by let⟨o,e⟩:=D.here a b;rw[h] at e;cases e
def bX.lists(D:bX C H p ta sa TL SL wd C0 C1)(c:b∈foot p ta sa TL SL):(∃dx fs,H b=some (.ins C dx fs))∨∃xs,H b=some (.lst xs):=by
 simp only[foot,List.mem_cons,List.mem_append] at c;let⟨dx,j⟩:=D.ob;let f:∀{L:mu nt}{a:mu (mu Z4)},Rows H L a->b∈L->∃xs,H b=some (.lst xs):=λ{L a}R h=>by
  let⟨i,hi⟩:=amQ.mp h;let g:i<a.length:=by rw[←R.len];exact(amc.mp hi).1
  exact{_,R.get i b _ hi<|amg g}
 rcases c with rfl|rfl|rfl|c|c
 .grind
 .exact .inr {_,D.tl}
 .exact .inr {_,D.sl}
 .exact .inr (f D.tls c)
 .exact .inr (f D.sls c)
def bX.apart(D:bX C H p ta sa TL SL wd C0 C1)(k:bg F H H')(h:∀ b∈foot p ta sa TL SL,b∉F):bX C H' p ta sa TL SL wd C0 C1:=D.mono λb a o e=>k b o e<|h b a
end
def Jf{α:Type}{p q r:α}{A B:mu α}{x y:α}(h:(p::q::r ::(A++B)).Nodup)(c:x∉(p::q::r ::(A++B)))(f:y∉(p::q::r ::(A++B)))(a:x≠y):(p::q::r ::((A++[x]) ++(B++[y]))).Nodup:=by
 let b:(p::q::r::A) ++(B++[y]) =(p::q::r ::(A++B))++[y]:=by simp
 rw[show p::q::r ::((A++[x]) ++(B++[y])) =(p::q::r::A)++x ::(B++[y]) by simp];refine apy.nodup_iff.mpr<|amC.mpr {λz=>?_,?_}
 .rw[b] at z;exact(amy.mp z).elim c λz=>a<|amr.mp z
 .rw[b];exact apy.nodup_iff.mpr (by rw[anq];exact amC.mpr ⟨f,h⟩)
section
variable{X:Cx}
inductive rT(xs:mu V)(H:Hp)(Q:VK):Z3
 |m z n(_:xs=[.str z])(_:intText? z=some n)(_:z.length≤640)(_:Q (.int n) H)
def gQ:jw X (.type "int") rT:=by rintro X4 s σ H xs us Q I r ⟨z,n,rfl,c,a,q⟩;let⟨u,rfl,b⟩:=vals1 r;let⟨t,rfl⟩:=(show ∃t,u=Value.str z t from b);exact PySem.W.KIN.call_text c a {.int n,H,I.tok _,{1},q}
end
def Itx(x:Z6):It:={λi _=>i<x.cps.size,λi H v H'=>H'=H/\∃c,x.cps[i]?=some c/\v=.str ⟨#[c]⟩,λi _=>x.cps.size≤i}
def Mr{P:q9}{w:wo}{K:Frag}{tg:Expr}(it:nt)(x:Z6)(t:Tok)(k:String)(q:k = "str_ascii_iterator"∨k = "str_iterator"):Turn P w K tg (Itx x) [it] it (λi h=>h.IsStrIter it k x t i) where
 mem:=by simp
 obj:=λi h st b a=>by
  let e:b=it:=⇑a
  subst e;let⟨o,e,c,d⟩:=st;exact{o,e,λv z=>by rw[d] at z;cases z}
 keep:=λi h h' st O=>let ⟨o,e,r⟩:=st;{o,O it o7 o e,r}
 item:=by
  intro X y L C j i X4 s σ H E I n st f;subst y L C;let f:i<x.cps.size:=f;let⟨f0,f1,f2,p,l,m⟩:=n it o7;let W:Walks X.prog X.w X.A it [it] [it] x.cps.size (SignAt x) (λi h=>h.IsStrIter it k x t i):=by
   rcases q with rfl|rfl
   .exact Walks.strAscii (I.ok.hd j) it x t
   .exact Walks.strWide (I.ok.hd j) it x t
  refine W.item i s _ _ f st λv h' U hv g O=>?_
  let⟨c,u,B,rfl⟩:=hv;let I1:Inv X X4 σ H {s with heap:=h',toks:=U}:=I.turned (λb o a e=>O b o (⇑a) e) f0 f1 p l m;let⟨o,e,Y,d1⟩:=id g;exact{1,wV (s:={s with heap:=h',toks:=U}) e Y d1 (by rcases q with rfl|rfl <;> decide) {.str ⟨#[c]⟩,H,I1,⟨u,J⟩,⟨J,c,B,J⟩,g,λb a=>(n b a).1}}
 done:=by
  intro X y L C j i X4 s σ H E I n st f;subst y L C;let f:x.cps.size≤i:=f;let⟨f0,f1,f2,p,l,m⟩:=n it o7;let S:x.cps[i]? = Z0:=by simp;omega
  rcases q with rfl|rfl
  .exact wpAny_pyNext_ascii_end (I.ok.hd j) st S λh' F=>{J,I.turned (t':=s.toks) (λb o a e=>F b o a e) f0 f1 p l m}
  .exact wpAny_pyNext_wide_end (I.ok.hd j) st S λh' F=>{J,I.turned (t':=s.toks) (λb o a e=>F b o a e) f0 f1 p l m}
 self:=λ_ _ _ _ _ st h=>by
  rcases q with rfl|rfl
  .exact wpAny_pyIter_striter_ascii st h
  .exact wpAny_pyIter_striter_wide st h
inductive JV(R:It->Hp->Z3)(x:V)(H1:Hp):Z3
 |m z(_:x=.str z)(_:R (Itx z) H1)
def alB(tl:TE):TI:=λσ H R=>tl σ H λx H1=>JV R x H1
def aeW{X:Cx}{tg l:Expr}{tl:TE}(i:PE X l tl):PI X tg l (alB tl):=by
 intro X4 s σ H R I h;refine thn (i X4 s σ H _ I h) λ v s1 ⟨x,H1,I1,r1,q1⟩=>?_
 let⟨z,e,q⟩:=q1;subst e;let⟨t,rfl⟩:=(show ∃t,v=Value.str z t from r1);let a:∀k(c:k = "str_ascii_iterator"∨k = "str_iterator"),PIE X X4 σ tg R (.ref (~~~s1)) {s1 with heap:=s1.heap.push {.type k,Z0,.fields #[.str z t,.int 0 0],#[]}}:=λk c=>by
  refine{(~~~s1),[~~~s1],_,_,H1,J,I1.kept (t':=s1.toks) λb o e=>al7 _ e,Mr _ z t k c,{_,amh _ J,J,J},λb g=>?_,q};let e:b=( ~~~s1):=⇑g
  subst e;exact I1.m7 (amd _)<|I1.hok.fresh<|amd _
 cases f:z.cps.all (· < 128)
 .exact wpAny_pyIter_wide f (a _<|.inr J)
 .exact wpAny_pyIter_ascii f (a _<|.inl J)
def Mm{x:Z6}(D:nt){g:TG}{tt:TT}{te:TE}{σ:St}{H:Hp}{R:Hp->Z3}(j:Z5->St->Hp->mu V->Z3)(h0:j 0 σ H [])(hs:∀i c σ H ys,x.cps[i]?=some c->j i σ H ys->g (.str ⟨#[c]⟩) σ H λa q=>tt a q λb o=>if b=Z1 then
   te a o λy l=>l D=some (.lst ys)/\ys.length<Z7/\j (i+1) a (Z9 l D (.lst (ys++[y]))) (ys++[y]) else j (i+1) a o ys)(hd:∀σ H ys,j x.cps.size σ H ys->R H) :
  ∃W:Z5->Z5->St->Hp->mu V->Z3,(∃m,W 0 m σ H [])/\∀i m f H' ys,W i m f H' ys->((Itx x).stop i H'/\R H')∨
   ((Itx x).go i H'/\∃N:St->Hp->mu V->Z3,(∀f H' h,N f H' h->∃r,r<m/\W (i+1) r f H' h)/\∀v H2,(Itx x).yld i H' v H2->g v f H2 λa q=>tt a q λb o=>if b=Z1 then
    te a o λy l=>l D=some (.lst ys)/\ys.length<Z7/\N a (Z9 l D (.lst (ys++[y]))) (ys++[y])
    else N a o ys):=by
 exists λi m σ H ys=>m=x.cps.size-i/\i≤x.cps.size/\j i σ H ys,{x.cps.size,o7,amE _,h0};rintro i m σ H ys ⟨rfl,hi,p⟩;by_cases n:i<x.cps.size
 .refine .inr {n,j (i+1),λf H' h t=>{x.cps.size -(i+1),o5,J,n,t},?_};rintro v H' ⟨rfl,c,s,rfl⟩;exact hs i c σ _ ys s p
 .let e:i=x.cps.size:=by omega
  subst e;exact .inl {amd _,hd σ H ys p}
def Fz(C:X.calm=Z1):jw X (.builtin "all") (λxs H Q=>∃p,∃bs:mu Bool,xs=[.ref p]/\X0 X.K H p (bs.map V.bl)/\Q (.bl (bs.all id)) H):=by
 rintro X4 s σ H xs us Q I r ⟨p,bs,rfl,z,q⟩;let⟨u,rfl,l⟩:=vals1 r;cases l;let⟨c,n,pl,_⟩:=I.list z;let O:X.A.in1.handled=Z0:=I.ok.hd C;let a:=n.length;let m:p<(~~~s):=by let⟨o,e,_⟩:=pl.isList;exact amb e
 refine call_all_walk<|an2 pl.isList ?_;refine{(~~~s),_,_,_,_,_,λi=>bs.getD i Z2,J,ap7 O (~~~s) p (amu m) c.toArray,{{_,amh _ J,J,J},pl.isList.push _},?_,λh' L k=>?_}
 .intro i v s' U S j B;let j:c.toArray[i]?=some v:=j;let hi:i<bs.length:=by let:=(amD.mp j).1;simp at this;simp at a;omega
  let⟨u,t,l⟩:=Vals.get n (i:=i) (x:=V.bl<|bs.getD i Z2) (by simp[hi]);let:v=u:=by
   let h2:c[i]?=some v:=⇑j
   rw[h2] at t;exact amw t
  subst this;cases (show v=Value.bool (bs.getD i Z2) from l);exact anu B
 .let F:Inv X X4 σ H {s with heap:=h',toks:=L}:=I.kept λb o e=>k b o (λf=>by
   let f:b=( ~~~s):=⇑f
   exact absurd (amb e) (by rw[f];exact anf _))<|al7 _ e
  refine{.bl<|bs.all id,H,F,?_,q};show Value.bool _=Value.bool _;congr 1;let y:c.toArray.size=bs.length:=by simp at a ⊢;omega
  rw[y];clear y a n pl q z;let:∀bs:mu Bool,(List.range bs.length).all (λi=>bs.getD i Z2)=bs.all id:=λbs=>by
   rw[apJ,amZ,amZ];constructor
   .intro h b f;let⟨i,hi⟩:=amQ.mp f;let g:=(amc.mp hi).1;let:=h i<|anJ.mpr g;simp[hi] at this;exact this
   .intro h i hi;let g:=anJ.mp hi;let:=h bs[i] (anN g);simpa[g] using this
  exact this bs
abbrev HS:Z6:=Str.ofString "0123456789"
def tV(c:Z5):Bool:=!(Builtin.Str.occurrences HS ⟨#[c]⟩ 0 HS.length 1).isEmpty
def isNum(z:Z6):Bool:=z.cps.toList.all tV
def okW(z:Z6):Bool:=decide (1≤z.length)&&decide (z.length≤20) &&(decide (z.length=1)||!decide (z.cps.toList[0]?=some 48))&&isNum z
def intOf(z:Z6):Z4:=(intText? z).getD 0
def zb{c:Z5}(h:tV c=Z1):48≤c/\c≤57:=by
 unfold tV at h;rw[apH] at h;let h:=ani h;let e:HS.cps.toList=[48,49,50,51,52,53,54,55,56,57]:=by decide +kernel
 rw[e] at h;simp at h;omega
def L7(h:isNum z=Z1)(h1:1≤z.length)(h2:z.length≤200):intText? z=some (intOf z):=by let e:=apZ (x:=z) (λc a=>zb<|amZ.mp h c a) (by intro e;unfold Str.length at h1;rw[←am5,e] at h1;simp at h1) o5;unfold intOf;rw[e];rfl
def As(h:okW z=Z1):intText? z=some (intOf z):=by simp only[okW,Bool.and_eq_true,decide_eq_true_eq] at h;exact L7 h.2 h.1.1.1 o5
def WZ(h:¬1≤z.length):okW z=Z2:=by unfold okW;rw[amN h];rfl
def Yw(h:¬z.length≤20):okW z=Z2:=by unfold okW;rw[amN h,Bool.and_false];rfl
def Mw(h:z.length≠1)(h0:z.cps.toList[0]?=some 48):okW z=Z2:=by unfold okW;rw[amN h,amA h0];simp
def Gs(h1:1≤z.length)(h2:z.length≤20)(h3:z.length=1∨¬z.cps.toList[0]?=some 48):okW z=isNum z:=by
 unfold okW;rw[amA h1,amA h2];rcases h3 with h|h
 .rw[amA h];simp
 .rw[amN h];simp
def str_len(z:Z6):z.cps.toList.length=z.length:=by simp[Str.length]
def KA{z:Z6}(h:1≤z.length):∃c,z.cps.toList[0]?=some c:=by rw[←str_len] at h;exact{_,amg o5}
def Mf(h:z.length=1)(h0:z.cps.toList[0]?=some 48):z=Str.ofString "0":=by
 rw[←str_len] at h;let⟨⟨l⟩⟩:=z
 match l,h,h0 with
 |[c],_,h0=>
  let:c=48:=⇑h0
  subst this;decide +kernel
def aaE{c d:Z5}:(V.str ⟨#[c]⟩=V.str ⟨#[d]⟩)↔c=d:=by simp
open PySem PySem.Spec PyProof.Rows Builtin Builtin.Str
def AX{x y:Z6}(h:x.cps.toList=y.cps.toList):x=y:=by let⟨⟨x⟩⟩:=x;let⟨⟨y⟩⟩:=y;rw[show x=y from h]
def Ba:∀a xs,Vals (xs.map V.str) (strsFrom a xs)
 |_,[]=>.nil
 |a,x::r=>.cons ⟨a,J⟩<|Ba (a+1) r
def BE:∀{us:mu nF}{xs:mu Z6},Vals (xs.map V.str) us->StrsAre us xs
 |_,[],.nil=>.nil
 |_,x::r,.cons ⟨t,e⟩ h=>by cases e;exact .cons x t<|BE h
section
variable{X:Cx}
def tR:MtR X "str.split" (λx xs H Q=>∃z y:Z6,x=.str z/\xs=[.str y]/\(y.length==0)=Z2/\z.length≤100000/\∀p,H p=Z0->Q (.ref p) (Z9 H p (.lst ((Txt.split z y).map V.str)))):=by
 rintro X4 s σ H x xs v us Q I A r ⟨z,y,rfl,rfl,h,l,q⟩;let⟨t,rfl⟩:=(show ∃t,v=Value.str z t from A);let⟨u,rfl,j⟩:=Vals.one r;let⟨f,rfl⟩:=(show ∃t,u=Value.str y t from j);let g:z.length≤Z7:=amo l o6;let i:(partsBetween z (occurrences z y 0 z.length (z.length+1)) y.length).length≤Z7:=by rw[length_partsBetween];let:=StrLaws.occ_length_le_len z y 0 z.length (z.length+1);exact amo (show _≤100002 by omega) o6
 let a:∀(ys:mu Z6)(k:Z5)(us:mu nF),ys=Txt.split z y->ys.length≤Z7->Vals (ys.map V.str) us->EP X X4 σ Q (.ref (~~~s)) {s with heap:=s.heap.push {.type "list",Z0,.seq us.toArray,#[]},toks:=k}:=λys k us e m n=>
  {.ref (~~~s),_,I.laid (t':=k) (o:=.lst<|ys.map V.str) (λb B q=>al7 _ q) (amd _) {by rwa[ame],_,(0),n,amh _ J},J,e ▸ q _ (I.hok.fresh<|amd _)}
 cases h1:(decide (z.length<y.length)||decide (strKind z<strKind y))
 .cases c:(occurrences z y 0 z.length (z.length+1)).isEmpty
  .refine aor apz (apl _ _ _) apg (ao8 _ _) (meets_str_split_sep z y t f h1 h c g i) ?_;exact a _ _ _ ((al8<|ao0 h1).trans<|al8<|ao0 c).symm i<|Ba _ _
  .refine aor apz (apl _ _ _) apg (ao8 _ _) (meets_str_split_not_found z y t f h1 h c) ?_;exact a [z] _ _ ((al8<|ao0 h1).trans<|ama c).symm (by show 1≤Z7;decide)<|.cons ⟨t,J⟩ .nil
 .refine aor apz (apl _ _ _) apg (ao8 _ _) (meets_str_split_cannot_occur z y t f h1) ?_;exact a [z] _ _ (ama h1).symm (by show 1≤Z7;decide)<|.cons ⟨t,J⟩ .nil
def UM:MtR X "str.join" (λx xs H Q=>∃z p ys,x=.str z/\xs=[.ref p]/\X0 X.K H p (ys.map V.str)/\(ys.map (·.length)).sum+ys.length*z.length≤16777216/\Q (.str (Str.join z ys)) H):=by
 rintro X4 s σ H x xs v us Q I h r ⟨z,p,ys,rfl,rfl,g,a,q⟩;let⟨t,rfl⟩:=(show ∃t,v=Value.str z t from h);let⟨u,rfl,b⟩:=Vals.one r;cases b;let⟨c,f,pl,_⟩:=I.list g;refine join_list pl.isList (⇑(BE f)) a λt' k=>{.str _,H,I.tok k,⟨t',J⟩,?_}
 rwa[show Txt.join z ys=Str.join z ys from aoH z ys]
end
def Bj{c:Z5}:∀{p q r t:mu Z5},c∉p->c∉q->p++c::r=q++c::t->p=q/\r=t
 |[],[],_,_,_,_,h=>{J,⇑h}
 |[],y::q,_,_,_,hq,h=>by simp at h hq;exact absurd h.1 hq.1
 |x::p,[],_,_,hp,_,h=>by simp at h hp;exact absurd h.1.symm hp.1
 |x::p,y::q,_,_,hp,hq,h=>by simp at h hp hq;let⟨a,b⟩:=Bj (p:=p) (q:=q) hp.2 hq.2 h.2;exact{by rw[h.1,a],b}
def yV{c:Z5}(a:c∉p)(h:p=q++c::r):False:=a (by rw[h];simp)
def join_cons:(Str.join z (x::y::r))=x++z++Str.join z (y::r):=rfl
def Iu{c:Z5}:(x ++(⟨#[c]⟩:Str)++y).cps.toList=x.cps.toList++c::y.cps.toList:=by show(x.cps++#[c]++y.cps).toList=_;simp
def De{c:Z5}:∀{ps ws:mu Z6},ps≠[]->ws≠[]->(∀ p∈ps,c∉p.cps.toList)->(∀ p∈ws,c∉p.cps.toList)->Str.join ⟨#[c]⟩ ps=Str.join ⟨#[c]⟩ ws->ps=ws
 |[p],[w],_,_,_,_,h=>by let:p=w:=h;rw[this]
 |[p],w::w'::ws,_,_,b,_,h=>by rw[join_cons] at h;let h:p=_:=h;exfalso;let b:=b p o7;let h:=congrArg (λz:Str=>z.cps.toList) h;rw[Iu] at h;exact yV b h
 |p::p'::ps,[w],_,_,_,a,h=>by rw[join_cons] at h;let h:_=w:=h;exfalso;let a:=a w o7;let h:=congrArg (λz:Str=>z.cps.toList) h;rw[Iu] at h;exact yV a h.symm
 |p::p'::ps,w::w'::ws,_,_,b,a,h=>by rw[join_cons,join_cons] at h;let h:=congrArg (λz:Str=>z.cps.toList) h;rw[Iu,Iu] at h;let⟨f,g⟩:=Bj (b p o7) (a w o7) h;let f:p=w:=AX f;rw[f,De (c:=c) o7 o7 (λp h=>b p<|amj _ h) (λp h=>a p<|amj _ h)<|AX g]
def IZ{c:Z5}(h0:ws≠[])(h:∀ p∈ws,c∉p.cps.toList):Txt.split (Str.join ⟨#[c]⟩ ws) ⟨#[c]⟩=ws:=by refine De ?_ h0 (λp a=>StrLaws.split_free _ c p a) h<|aoo _ _;intro e;let:=split_pos (Str.join ⟨#[c]⟩ ws) ⟨#[c]⟩;rw[e] at this;simp at this
def bY(n:Z4):Z6:=Str.ofString<|toString n
def Ip(m:Z5):1≤(Nat.toDigits 10 m).length:=by
 by_cases h:m<10
 .rw[aot h];simp
 .let a:m % 10<10:=ap8 m o6;let t:Nat.toDigits 10 (m / 10)++Nat.toDigits 10 (m % 10)=Nat.toDigits 10 (10*(m / 10)+m % 10):=ao3 o6 o5 a;rw[Nat.div_add_mod] at t;rw[←t,amK,aot a];simp
def yU(m:Z5):Nat.toDigits 10 m≠[]:=by intro e;let:=Ip m;rw[e] at this;exact absurd this o6
def Vg(m:Z5)(h0:0<m):∀ch,(Nat.toDigits 10 m)[0]?=some ch->ch.toNat≠48:=by
 induction m using Nat.strongRecOn with
 |_ m ih=>
  by_cases h:m<10
  .rw[aot h];intro ch e;let e:Nat.digitChar m=ch:=⇑e
   subst e;let:∀m:Z5,m<10->0<m->(Nat.digitChar m).toNat≠48:=by decide
   exact this m h h0
  .let a:m % 10<10:=ap8 m o6;let t:Nat.toDigits 10 (m / 10)++Nat.toDigits 10 (m % 10)=Nat.toDigits 10 (10*(m / 10)+m % 10):=ao3 o6 o5 a;rw[Nat.div_add_mod] at t;intro ch e;rw[←t,ams (aol λe=>yU (m / 10)<|anS.mp e)] at e;exact ih (m / 10) o5 o5 ch e
def tw{n:Z4}(h0:0≤n):∀ c∈(bY n).cps.toList,48≤c/\c≤57:=by let⟨m,rfl⟩:=anT h0;intro c b;unfold bY at b;rw[an5] at b;let⟨ch,a,e⟩:=amS.mp b;let r:=digit_range<|Nat.isDigit_of_mem_toDigits o6 o6 a;rwa[←e]
def UI{c:Z5}(h:48≤c/\c≤57):tV c=Z1:=by
 unfold tV;rw[apH];let e:HS.cps.toList=[48,49,50,51,52,53,54,55,56,57]:=by decide +kernel
 rw[e];apply amA;simp;omega
def pI{n:Z4}(h0:0≤n)(h:n<10 ^ 20):(bY n).length≤20:=toString_length_le h0 o6 h
def D4{n:Z4}(h0:0≤n):1≤(bY n).length:=by let⟨m,rfl⟩:=anT h0;rw[←str_len];unfold bY;rw[an5,ame];exact aol λe=>yU m<|anS.mp e
def Mj{n:Z4}(h0:0≤n):isNum (bY n)=Z1:=amZ.mpr λc a=>UI<|tw h0 c a
def sQ{n:Z4}(h0:0≤n)(h:n<10 ^ 20):intText? (bY n)=some n:=by let e:=apZ (x:=bY n) (tw h0) (by intro e;let:=D4 h0;rw[←str_len,e] at this;exact absurd this o6)<|amo (pI h0 h) o6;let⟨m,rfl⟩:=anT h0;unfold bY at e ⊢;rwa[an5,PySem.W.KIN.val_back] at e
def U9{n:Z4}(h0:0≤n)(h:n<10 ^ 20):okW (bY n)=Z1:=by
 rw[Gs (D4 h0) (pI h0 h) ?_]
 .exact Mj h0
 .let⟨m,rfl⟩:=anT h0;by_cases a:m=0
  .subst a;left;decide +kernel
  .right;unfold bY;rw[an5,amx];intro e;let⟨ch,h1,h2⟩:=ami.mp e;exact Vg m o5 ch h1 h2
def JP{n:Z4}(h0:0≤n){c:Z5}(a:c<48∨57<c):c∉(bY n).cps.toList:=λh=>by let:=tw h0 c h;omega
def ZU:Str.ofString "=" =(⟨#[61]⟩:Str):=by decide +kernel
def spS:Str.ofString " " =(⟨#[32]⟩:Str):=by decide +kernel
def dJ{n:Z4}(h0:0≤n)(h:n<10 ^ 20):n.natAbs.log2<1920:=by
 by_cases a:n.natAbs=0
 .rw[a];decide
 .exact(Nat.log2_lt a).mpr (amv (show n.natAbs<10 ^ 20 by omega) d7)
def sV{n:Z4}(h0:0≤n)(h:n<10 ^ 20):(bY n).length≤640:=amo (pI h0 h) o6
section
variable{M:Model}{A:Around}{E:nF->qb->Z3}{s:qb}{base:Heap}{env:Env}{outer:mu Env}{L e:nt}{Q:Unit->qb->Z3}
def Ht{T:nt}{fl:nF}(l:A.frames=some (env::outer))(y:s.heap.FunFrames base (env::outer))(v:env.frame=some L)(x:Fly s.heap e T fl)(u:(fl==rawInt L)=Z2)(h:∀h' t,lC (frs (env::outer)) [T] e t (rawInt L) s.heap h'->Q () {s with heap:=h'}):wpAny M A (noteFrame (.ref e) env) Q E s:=by
 let⟨oe,vs,z,ts,he,hd,h1,r,f,h3,i⟩:=x;unfold noteFrame;simp only[v];refine al6<|am1 he hd h1 ?_;rw[ama (show(Value.ref T != Value.none)=Z1 from by simp)];refine al6<|am1 r f h3 ?_;rw[al8 (show ¬((fl==rawInt L)=Z1) from by rw[u];decide)];refine al6<|anA r f (amD.mp h3).1 ?_;let other:∀b,b≠T->(s.heap.update T (Obj.mapFields (·.setIfInBounds 3 Value.none))).get? b=s.heap.get? b:=λb a=>amt _ _<|amW a
 let j:∀b o,s.heap.get? b=some o->(∀vs,o.data≠.fields vs)->b≠T:=λb o a g q=>by rw[q,r] at a;cases a;exact g ts f
 let sz:(s.heap.update T (Obj.mapFields (·.setIfInBounds 3 Value.none))).objs.size=( ~~~s):=aoz _ _ _;refine xZ l (y.of_keeps λb o a g=>{o,(other b<|j b o a g).trans a,J}) v ((other e<|amW i).trans he) hd (amD.mp h1).1 λh' t N=>h h' t ?_
 dsimp only at N;refine{λb o a n c q=>N.keep b o a o7 c<|(other b (⇑n)).trans q,λb o a n c q=>N.slot b o a o7 c<|(other b (⇑n)).trans q,?_,λp m q d=>N.exc p m ((other e<|amW i).trans q) d,N.fly};rw[←sz];exact N.new
def Lm{T:nt}(c:env.frame=some L)(b:Fly s.heap e T (rawInt L))(h:Q () s):wpAny M A (noteFrame (.ref e) env) Q E s:=by let⟨oe,vs,i,ts,he,hd,h1,f,a,h3,g⟩:=b;unfold noteFrame;simp only[c];refine al6<|am1 he hd h1 ?_;rw[ama (show(Value.ref T != Value.none)=Z1 from by simp)];refine al6<|am1 f a h3 ?_;rw[ama (show(rawInt L==rawInt L)=Z1 from by simp)];exact al9 h
def Ll{α:Type}{T:nt}{fl:nF}{g:String}{n:α->qb->Z3}(m:Fly s.heap e T fl)(h:∀h' i,(∀b o,b≠T->s.heap.get? b=some o->h'.get? b=some o)->Fly h' e T i->E (.ref e) {s with heap:=h'}):wpAny M A (PySem.passOn g (.ref e) env:Sem α) n E s:=by let⟨oe,vs,p,ts,he,hd,h1,j,a,h3,c⟩:=m;let hsz:3<ts.size:=(amD.mp h3).1;unfold PySem.passOn;refine al6<|am1 he hd h1 ?_;rw[al8 (show ¬((Value.ref T==Value.none)=Z1) from by simp)];unfold setFlight;refine al6<|al6<|am1 he hd h1 ?_;rw[ama (show(Value.ref T != Value.none)=Z1 from by simp)];refine anA j a hsz<|wpAny_throw<|h _ (env.frame.elim Value.none λf=>rawInt f) (λb o l q=>(amt _ _<|amW l).trans q) ?_;exact{oe,vs,_,_,(amt _ _ c).trans he,hd,h1,amI _ j<|anG<|am8 a _,am8 a _,by simp[hsz],c}
end
def Ep(X:Cx)(σ:St)(a:XK):Z3:=∀X4 H s e C od T fl,Inv X X4 σ H s->zK H e C od->dU X X4 H T->Fly s.heap e T fl->a (.ref C) (some e) H->X.xe (.ref e) s
def F8(X:Cx)(E:XS):Z3:=∀X4 σ H s e C od T fl,Inv X X4 σ H s->zK H e C od->dU X X4 H T->Fly s.heap e T fl->E σ (.ref C) (some e) H->X.xe (.ref e) s
section
variable{P:q9}{w:wo}{K:Frag}{mg:Z6->o9 nF}{base:Heap}{N:mu Z6}{qual:Z6}{scope:Scope}{f:nt}{cd:nF}{A:Around}{outer:mu Env}{s₀:qb}{H₀:Hp}{E:XK}
def UT:F8 (bq (CXx P w) P w K mg base N qual scope f cd A outer s₀ H₀ E) (λ_=>E):=by
 rintro X4 σ H s e C od T fl I he fp c j;show wpAny _ _ (leaving _<|.ref e) _ _ _;unfold leaving;by_cases g:(fl==rawInt (~~~s₀))=Z1
 .let g:=eq_of_beq g;subst g;refine al6<|Lm J c ?_;refine iE c λh2 k _ h=>?_
  let b4:=I.landed fp k;exact{e,C,od,T,H,J,b4.os,b4.bare,b4.base,b4.hok,he,fp.2.2.2.1.resolve_left nofun,fp.1,h,j}
 .let g:(fl==rawInt (~~~s₀))=Z2:=⇑g
  refine al6 (Ht I.ok.frames I.stack J c g λh2 m i=>iE (s:={s with heap:=h2}) i.fly λh3 k _ F=>?_);let a:=i.landed k F;let b4:=I.yZ (ch:=[T]) he a (λb l=>by let:=amr.mp l;subst this;exact fp);exact{e,C,od,m,H,J,b4.os,b4.bare,b4.base,b4.hok,he,amo I.sz a.new,I.hok.fresh a.new,a.fly,j}
end
def Fly.but{h h':Heap}{e T C:nt}{fl:nF}(F:Fly h e T fl)(hs:Heap.SameBut C h h')(f:e≠C)(g:T≠C):Fly h' e T fl:=by let⟨oe,vs,i,ts,he,hd,h1,c,a,h3,b⟩:=F;exact{oe,vs,i,ts,hs.extBut _ _ f he,hd,h1,hs.extBut _ _ g c,a,h3,b}
section
variable{X:Cx}{scope:Scope}{N:mu Z6}{k:Z5}{cap:mu Z5}{tg iter elt:Expr}{ifs:mu Expr}{wi:TI}{g:TG}{tt:TT}{te:TE}{pos:Pos}
def FG{use:o9 (nF->Sem Unit)}{X4:mu (nt×Obj)}{fp:mu nt}(S:Ep X σ EX)(f:X.stack=X.env::X.outer)(F:X.env.frame=some X.env.locals)(I:Inv X X4 σ H s)(hf:∀ b∈fp,dU X X4 H b)(a1:X.s₀.heap.objs.size≤C)(O:C≠X.env.locals)(a0:∀x c,X.env.cells.lookup x=some c->c≠C)(a3:∀ p∈X.pn++X4,p.1≠C) :
  cS ((X.comp scope N C s H fp).i7 (notedBy (model X.prog X.w) X.A (compEnvC scope (clos X.env.cells scope.names []) C X.env) λe s'=>compPost (model X.prog X.w) X.A X.xe use QQ acc C (.error e) s')) (λ_=>EX):=by
 rintro ps a4 H1 s1 v s2 b4 ⟨e,C',od,T,H2,rfl,os,j,un,Y,he,hT,nT,B,hE⟩;let b4:=Inv.pJ b4;let n:=b4.yR (ch:=[]) os un Y j λb z=>absurd z o7;let a2:=b4.m7 hT nT;let fr:X.A.frames=some (X.env::X.outer):=by rw[←f];exact I.ok.frames
 show wpAny _ _ (noteFrame (.ref e) X.env) _ _ _;refine uK fr (by rw[←f];exact n.stack) F B λh3 T3 g=>?_
 rw[←f] at g;let J3:=n.yZ (ch:=[T]) he g (λb y=>by let:=amr.mp y;subst this;exact a2);let r:H2 C=Z0:=J3.free;let i:( ~~~s)≤(~~~s2):=n.sz;let L:H2 T3=Z0:=n.hok.fresh g.new;let K3:Inv X X4 σ H2 {s2 with heap:=h3}:=I.Aw hf J3;let h:dU X X4 H2 T3:=I.m7 (amo i g.new) L;let n1:e≠C:=λz=>by let⟨_,he⟩:=he;rw[z,r] at he;cases he
 let n2:T3≠C:=by let⟨m,t,_⟩:=n.loc;let⟨o,_,_,ho,_⟩:=t;exact anK<|amv (amb ho) g.new
 let⟨m,t,_⟩:=J3.loc;let l:∀h',Heap.SameBut C h3 h'->∀a:Env,a.locals=C->wpAny (model X.prog X.w) X.A (PySem.passOn "comprehension.variables-let-go" (.ref e) a:Sem nF) (fun _ _=>False) X.xe {s2 with heap:=h'}:=fun h' hs' a _=>by
  let K4:Inv X X4 σ H2 {s2 with heap:=h'}:=K3.turned (t':=s2.toks) (λb o y e=>hs'.extBut b o y e) r O (.inr a1) a0 a3;refine Ll (s:={s2 with heap:=h'}) (g.fly.but hs' n1 n2) λh5 U k5 q=>?_
  exact S X4 H2 _ e C' od T3 U (K4.landed h k5) he h q hE
 cases use with
 |none=>exact⟨m,t,l⟩
 |some u=>exact⟨m,t,l⟩
def IP{EX:XK}{use:o9 (nF->Sem Unit)}{QQ:nF->qb->Z3}{X4:mu (nt×Obj)}{s:qb}{σ:St}{H:Hp}{it:nt}{fp:mu nt}{tn:Z5->Heap->Z3}{b4:It}{Q:VK}(hc:X.calm=Z1)(c:lK X.N X.env.scope scope N k cap)(hg:∀C s₀ H₀ ex,PG (X.comp scope N C s₀ H₀ ex).nox tg g)(ht:∀C s₀ H₀ ex,PTs (X.comp scope N C s₀ H₀ ex).nox ifs tt)(he:∀C s₀ H₀ ex xe,cS ((X.comp scope N C s₀ H₀ ex).i7 xe) (λ_=>EX)->PE ((X.comp scope N C s₀ H₀ ex).i7 xe) elt te)(ai:Ep X σ EX)(ae:X.stack=X.env::X.outer)(ac:X.env.frame=some X.env.locals)(I:Inv X X4 σ H s)(T:Turn X.prog X.w X.K tg b4 fp it tn)(st:tn 0 s.heap)(hf:∀ b∈fp,dU X X4 H b)(h:∀D,H D=Z0->∃W:Z5->Z5->St->Hp->mu V->Z3,(∃m,W 0 m (st0 k cap σ) (Z9 H D (.lst [])) [])/\∀i m a H' ys,W i m a H' ys->(b4.stop i H'/\Q (.ref D) H')∨
   (b4.go i H'/\∃N:St->Hp->mu V->Z3,(∀a H' a9,N a H' a9->∃m',m'<m/\W (i+1) m' a H' a9)/\∀x H2,b4.yld i H' x H2->g x a H2 λL H3=>tt L H3 λb H4=>if b=Z1 then
    te L H4 λy H5=>H5 D=some (.lst ys)/\ys.length<Z7/\N L (Z9 H5 D (.lst (ys++[y]))) (ys++[y])
    else N L H4 ys))(hQ:∀D C s1 H',Inv X X4 σ H' s1->Q (.ref D) H'->(∃m,s1.heap.Ns C m)->H' C=Z0->X.s₀.heap.objs.size≤C->C≠X.env.locals->(∀x c,X.env.cells.lookup x=some c->c≠C)->(∀ p∈X.pn++X4,p.1≠C) →
   compPost (model X.prog X.w) X.A X.xe use QQ (.ref D) C (.ok .next) s1) :
  wpAny (model X.prog X.w) X.A (newList []) (λacc s₃=>wpAny (model X.prog X.w) X.A (newFunctionEnv scope X.env.globals (clos X.env.cells scope.names []) [] X.env.qual Z0 .none (some X.env)) (λS a7=>codeAny (model X.prog X.w) X.A (.compStart (.ListComp elt [{tg,iter,ifs,(0)}] scope pos) 0 (.ref it) acc {S with scope:=relabel scope X.env}) (compPost (model X.prog X.w) X.A X.xe use QQ acc S.locals) a7) X.xe s₃) X.xe s:=by
 refine anx<|wpAny_newFunctionEnv c.Df (by intro y hy;simp at hy) (λt j f=>?_) c.kind;dsimp only at j f ⊢;generalize hH2:s.heap.push {.type "list",Z0,.seq ([]:mu nF).toArray,#[]}=H2 at j f ⊢;let hC:H2.objs.size= ~~~s+1:=by rw[←hH2,am4]
 let a1:( ~~~s)≠H2.objs.size:=by rw[hC];exact amu<|anL _
 let z:( ~~~s)≤H2.objs.size:=by rw[hC];exact anp _
 let keep:∀b o,s.heap.get? b=some o->t.get? b=some o:=λb o e=>by exact f.extBut b o (jV (amb e) z)<|al7 _<|hH2 ▸ al7 _ e
 let hl:t.get? (~~~s)=some {.type "list",Z0,.seq #[],#[]}:=f.extBut _ _ a1<|al7 _<|hH2 ▸ amh _ J;let nD:H (~~~s)=Z0:=I.hok.fresh<|amd _;let⟨W,⟨m0,w0⟩,a8⟩:=h _ nD;let ho:∀ b∈fp,∃o,s.heap.get? b=some o:=λb l=>let ⟨o,e,_⟩:=T.obj _ _ st b l;⟨o,e⟩
 let a5:X.s₀.heap.objs.size≤H2.objs.size:=amo I.sz z;let a2:H2.objs.size≠X.env.locals:=(jV I.lt z).symm;let a4:∀x d,X.env.cells.lookup x=some d->d≠H2.objs.size:=λx d e=>by let⟨v,o,q,_⟩:=I.cell x d e;exact jV (amb q) z
 let ab:∀ p∈X.pn++X4,p.1≠H2.objs.size:=λp hp=>by exact jV (amb (I.pin p hp).1) z
 let O:∀s₃:qb,s₃={s with heap:=t,toks:=s.toks +([]:mu (Z6×nF)).length} →
   codeAny (model X.prog X.w) X.A (.compLoop (.ListComp elt [{tg,iter,ifs,(0)}] scope pos) 0 (.ref it) (.ref (~~~s))<|compEnvC scope (clos X.env.cells scope.names []) H2.objs.size X.env)
    (compPost (model X.prog X.w) X.A X.xe use QQ (.ref (~~~s)) H2.objs.size) s₃:=by
  rintro s₃ rfl;let I0:Inv (X.comp scope N H2.objs.size s H fp) [] (st0 k cap σ) (Z9 H (~~~s) (.lst [])) {s with heap:=t,toks:=s.toks +([]:mu (Z6×nF)).length}:=
   I.block c hf ho (amd _) z a1 J J keep hl (⇑j)
  let F:∀{H':Hp}{ps:mu (nt×Obj)},(∀ b∈fp,H' b=Z0)->ps=[]->∀ b∈fp,dU (X.comp scope N H2.objs.size s H fp).nox ps H' b:=λhn hp b l=>by subst hp;exact{hn b l,(I0.ok.exf b l).1,I0.ok.ud b l,.inl l,(I0.ok.exf b l).2,λp hp=>by cases hp}
  let ag:∀ b∈fp,Z9 H (~~~s) (.lst []) b=Z0:=λb l=>by let⟨o,e⟩:=ho b l;rw[au<|jV (amb e)<|amd _];exact(hf b l).1
  refine mG (λn s'=>∃i a H' ys,Inv (X.comp scope N H2.objs.size s H fp).nox [] a H' s'/\tn i s'.heap/\(∀ b∈fp,H' b=Z0)/\W i n a H' ys) ?_ m0
   {(0),_,_,[],I0.i7 _,T.keep _ _ _ st λb _ o e=>keep b o e,ag,w0}
  rintro n s' ⟨i,a,H',ys,I',a0,a3,w'⟩;rcases a8 i n a H' ys w' with⟨a6,q⟩|⟨go,NN,al,step⟩
  .refine amB (T.done (X.comp scope N H2.objs.size s H fp).nox J J J hc i [] s' a H' (λ_ _=>False) I' (F a3 J) a0 a6) (λ r s4 ⟨hr,I4⟩=>?_) (λ_ _ x=>x.elim);subst hr;exact hQ _ _ s4 H' (I.Aw hf I4.pJ) q (let ⟨m,hn,_⟩:=I4.loc;⟨m,hn⟩) I4.free a5 a2 a4 ab
  .refine amB (T.item (X.comp scope N H2.objs.size s H fp).nox J J J hc i [] s' a H' (λ_ _=>False) I' (F a3 J) a0 go) (λ r s4 ⟨u,hr,h4⟩=>?_) (λ_ _ x=>x.elim);subst hr;refine amB h4 (λ _ s5 ⟨x,H5,I5,r5,y5,st5,fr5⟩=>?_) λ_ _ x=>x.elim;let am:=I5.pinned (F fr5 J)<|T.obj _ _ st5;refine amB (hg _ _ _ _ _ s5 a H5 x u _ am r5<|step x H5 y5) (λ _ s6 ⟨B,H6,I6,q6⟩=>?_) λ_ _ x=>x.elim;refine amB (ht _ _ _ _ _ s6 B H6 _ I6 q6) (λ ok s7 ⟨H7,I7,q7⟩=>?_) λ_ _ x=>x.elim;let again:∀{U:Hp}{s8:qb}{Y:mu V},Inv (X.comp scope N H2.objs.size s H fp).nox ([]++sq fp s5.heap) B U s8->NN B U Y →
     ∃m,m<n/\∃i a H' ys,Inv (X.comp scope N H2.objs.size s H fp).nox [] a H' s8/\tn i s8.heap/\(∀ b∈fp,H' b=Z0)/\W i m a H' ys:=λ{U s8 Y}I8 n8=>by
    let⟨m',hm,w8⟩:=al _ _ _ n8;refine{m',hm,i+1,B,U,Y,I8.pP,T.keep _ _ _ st5 λb l o e=>(I8.pin (b,o)<|amm _<|amm _<|jv l e).1,λb l=>?_,w8};let⟨o,e,d⟩:=T.obj _ _ st5 b l;exact(I8.pin (b,o)<|amm _<|amm _<|jv l e).2.1
   cases ok with
   |false=>exact again I7 q7
   |true=>
    refine amB (he H2.objs.size s H fp (notedBy (model X.prog X.w) X.A (compEnvC scope (clos X.env.cells scope.names []) H2.objs.size X.env) λe s'=>compPost (model X.prog X.w) X.A X.xe use QQ (.ref (~~~s)) H2.objs.size (.error e) s')
     (FG ai ae ac I hf a5 a2 a4 ab) _ s7 B H7 _ (I7.pJ.i7 _) q7) (λ y s8 ⟨v,U,I8,rv,hD,hlen,w8⟩=>?_) λ_ _ x=>x
    let I8:=(Inv.pJ I8).i7 λ_ _=>False
    refine amB (iU (X:=(X.comp scope N H2.objs.size s H fp).nox) _ s8 B U (.ref (~~~s)) [v] (.ref (~~~s)) [y] (λ_ H9=>H9=Z9 U (~~~s) (.lst<|ys++[v])) I8 J (.cons rv .nil) {_,ys,v,J,J,hD,hlen,J}) (λ _ s9 ⟨_,H9,I9,_,e9⟩=>?_) λ_ _ x=>x.elim;subst e9;exact again I9 w8
 exact codeAny_compStart_list (O _ J)<|T.self _ 0 _ _ _ (T.keep _ _ _ st λb _ o e=>keep b o e)<|O _ J
def L5{t:XK}(l:F8 X (fun _=>t))(j:X.stack=X.env::X.outer)(i:X.env.frame=some X.env.locals)(y:X.calm=Z1)(p:vK X.N X.env.scope scope N k cap=Z1)(hi:PI X tg iter wi)(F:∀C s₀ H₀ ex,PG (X.comp scope N C s₀ H₀ ex).nox tg g)(O:∀C s₀ H₀ ex,PTs (X.comp scope N C s₀ H₀ ex).nox ifs tt)(he:∀C s₀ H₀ ex xe,cS ((X.comp scope N C s₀ H₀ ex).i7 xe) (λ_=>t)->PE ((X.comp scope N C s₀ H₀ ex).i7 xe) elt te)(hs:∀x,foldedSetIterable iter X.env x=pure x:=by intro _;rfl):PE X (.ListComp elt [{tg,iter,ifs,(0)}] scope pos) (HP k cap wi g tt te):=by
 intro X4 s σ H Q I h;let c:=lK.of p;rw[eval_ListComp];refine aom (use:=Z0) (cl:=clos X.env.cells scope.names []) J hs (nO<|I.qq c) c.kind c.locs (thn (hi X4 s σ H _ I h) λU r a=>thn a λL u f=>?_);let⟨it,fp,S,b4,H2,e,z,T,st,A,q⟩:=f;subst e;exact IP (use:=Z0) y c F O he (λps=>l ps σ) j i z T st A q λ D C s1 H' B q1 ⟨m,hn⟩ hCn hCs hCl hCc hCp=>
  {m,hn,λh' n=>{.ref D,H',B.turned (t':=s1.toks) (λb o v e=>n.extBut b o v e) hCn hCl (.inr hCs) hCc hCp,J,q1}}
end
structure qH(K:Frag)(x qual:Z6)(st:Stmt)(f:nt)(fd:qd)(dV:nF):Z3 where
 ex:∃(oc:nF)(od:o9 nt)(kV doc pm:nF)(an:o9 nt)(cdv ct:nF)(osl:q8 (o9 nF)),
  fd=fnOf x qual (er st) (c7 st) (az st) dV kV doc pm an cdv ct/\K.lookup f=some {oc,od,.func fd,osl}/\codeIn K cdv qual=Z1
 kp:keepIn K (.ref f)=Z1
section
variable{P:q9}{w:wo}{K:Frag}{mg:Z6->o9 nF}{base:Heap}
def qH.okX{x qual:Z6}{st:Stmt}{f:nt}{fd:qd}{l:nF}{N ps:mu Z6}{k:Z5}{sp:Sp}(F:qH K x qual st f fd l)(S:aG N ps (az st))(len:∀vs H Q E,sp vs H Q E->vs.length=ps.length)(b:∀a A outer s H vs Q E,cO k (A.deeper (envOfC qual (az st) (~~~s) f a))->sp vs H Q E →
   ∃t,PSs (bq (CXx P w) P w K mg base N qual (az st) f a A outer s H E) (c7 st) t/\t {nx:=λ_ H'=>Q .non H',rt:=Q} (start N vs) H):aM P w K mg base (CXx P w) (k+1) f fd ps sp:=by
 let⟨n,od,kV,i,o,m,a,ct,j,rfl,lk,g⟩:=F.ex;exact Us lk g S len λA outer s H vs Q E h c=>b a A outer s H vs Q E h c
def rG{x qual:Z6}{st:Stmt}{f:nt}{j dV:nF}{od h:o9 nt}{g:q8 (o9 nF)}{kV b i a ct:nF}(l:K.lookup f=some {j,od,.func (fnOf x qual (er st) (c7 st) (az st) dV kV b i h a ct),g})(c:codeIn K a qual=Z1)(k:keepIn K (.ref f)=Z1):qH K x qual st f (fnOf x qual (er st) (c7 st) (az st) dV kV b i h a ct) dV:={⟨j,od,kV,b,i,h,a,ct,g,J,l,c⟩,k}
def qH.binds{x qual:Z6}{st:Stmt}{f T:nt}{fd:qd}{ps:mu Z6}{o:Obj}{c:q8 nF}{n:Z5}{ds:mu nF}(F:qH K x qual st f fd (.ref T))(m:K.lookup T=some o)(hs:o.data=.seq c n)(h:∀kV a i g b ct us,us.length+ds.length=ps.length->∃k:o9 (q8 nF)->Sem (mu (Z6×nF)),
   bindArgs (fnOf x qual (er st) (c7 st) (az st) (.ref T) kV a i g b ct) {us,[]}=seqItems? (.ref T) >>= k/\k (some c)=pure (ps.zip (us++ds))):Binds K fd ps ds:=by
 let⟨q,od,kV,a,i,g,b,ct,j,rfl,lk,l⟩:=F.ex;intro s us X p;let⟨k,h1,h2⟩:=h kV a i g b ct us (by grind);exact PySem.W.binds_K X J m hs h1 h2
end
section
variable(P:q9)(w:wo)(K:Frag)(mg:Z6->o9 nF)(base:Heap)
structure Hv(x:Z6)(k:Z5)(ps:mu Z6)(ds:mu nF)(sp:Sp):Z3 where
 ex:∃(f:nt)(fd:qd),mg x=some (.ref f)/\aM P w K mg base (CXx P w) k f fd ps sp/\keepIn K (.ref f)=Z1/\Binds K fd ps ds
structure Lr(x:Z6)(C:nt)(k:Z5)(ps:mu Z6)(ds:mu nF)(sp:Sp):Z3 where
 ex:∃(f:nt)(fd:qd),mg x=some (.ref C)/\Mk K C f/\aM P w K mg base (CXx P w) k f fd ps sp/\Binds K fd ps ds
structure ajj(C:nt)(m:Z6)(f:nt):Z3 where
 ga:specialIn K (.ref C) "__getattribute__" = some (some (.builtin "type.__getattribute__"))
 rd:readsIn K C (.type "type")=Z1
 fc:findCls K (.ref C) (.type "type") m=some (.val (.ref f))
 kp:keepIn K (.ref f)=Z1
structure acM(x:Z6)(C:nt)(m:Z6)(k:Z5)(ps:mu Z6)(sp:Sp):Z3 where
 ex:∃(f:nt)(fd:qd),mg x=some (.ref C)/\ajj K C m f/\aM P w K mg base (CXx P w) k f fd ps sp/\Binds K fd ps []
end
def Vj(sp:Sp)(E:XS)(dvs:mu V)(t:TA):TE:=λσ H Q=>t σ H λvs H1=>sp (vs++dvs) H1 Q<|E σ
def Vp(C:nt)(sp:Sp)(E:XS)(dvs:mu V)(t:TA):TE:=λσ H Q=>t σ H λvs H1=>∀x dx,H1 x=Z0->H1 dx=Z0->dx≠x →
 sp (.ref x ::(vs++dvs)) (Z9 (Z9 H1 dx<|.own x) x<|.ins C dx []) (λv H2=>v=.non/\Q (.ref x) H2) (E σ)
def Vr(a b:TE):TE:=λσ H Q=>a σ H Q∨b σ H Q
section
variable{X:Cx}{k:Z5}{f C:nt}{fd:qd}{ps:mu Z6}{sp:Sp}{E:XS}{x m:Z6}{p pos apos:Pos}{e o:Expr}{es:mu Expr}{ta:TE}{t:TA}{ds:mu nF}{dvs:mu V}
def rO(h1:PE X e t1)(h2:PE X e t2):PE X e (Vr t1 t2):=λX4 s σ H Q I h=>h.elim (h1 X4 s σ H Q I)<|h2 X4 s σ H Q I
def ME{X4:mu (nt×Obj)}{σ:St}{H:Hp}{s:qb}{Q:VK}{us:mu nF}{vs:mu V}(F:aM X.prog X.w X.K X.mg X.base (CXx X.prog X.w) k f fd ps sp)(i:cO k X.A)(g:Binds X.K fd ps ds)(rd:Vals dvs ds)(j:cS X E)(I:Inv X X4 σ H s)(r:Vals vs us)(h:sp (vs++dvs) H Q (E σ)):wpAny (model X.prog X.w) X.A (call (.ref f) us) (EP X X4 σ Q) X.xe s:=by
 let c:Vals (vs++dvs) (us++ds):=Vals.append r rd;let l:(us++ds).length=ps.length:=by rw[←c.length];exact F.len _ _ _ _ h
 let b:=g s us I.kIn l;refine an9 (anC (F.run X.A X.stack s H {us,[]} (us++ds) (vs++dvs) Q (E σ) i I.Dv b c h) λr s' a=>?_);cases r with
 |error e=>exact j X4 σ H s e s' I a
 |ok fl=>
  cases fl with
  |ret u=>exact I.after a
  |next=>exact False.elim a
  |brk=>exact False.elim a
  |cont=>exact False.elim a
def Lu(D:Hv X.prog X.w X.K X.mg X.base x k ps ds sp)(rd:Vals dvs ds)(g:cS X E)(i:cO k X.A)(j:Gl X x)(n:PA X (e::es) t)(a:(x ==("__debug__":Str))=Z2:=by decide)(he:starEach (e::es) X.env =(Z2,eval e X.env)::starEach es X.env:=by rfl)(c:(backTo pos (starEach es X.env)).any (·.1)=Z2:=by rfl) :
  PE X (.Call (.Name x p) (e::es) [] pos) (Vj sp E dvs t):=by
 let⟨f,fd,m,F,l,b⟩:=D.ex;intro X4 s σ H Q I h;refine amU<|kP I j m ?_ a;refine anc (h₀:=X.base) I.ok.mod.kin l (thn (n pos X4 s σ H _ I h) λ us s1 ⟨vs,H1,I1,r,q⟩=>{I1.kIn,?_}) he c;exact ME F i b rd g I1 r q
def HA{X4:mu (nt×Obj)}{σ:St}{H:Hp}{s:qb}{Q:VK}{us:mu nF}{vs:mu V}(M:Mk X.K C f)(F:aM X.prog X.w X.K X.mg X.base (CXx X.prog X.w) k f fd ps sp)(m:cO (k+1) X.A)(j:Binds X.K fd ps ds)(rd:Vals dvs ds)(l:cS X E)(I:Inv X X4 σ H s)(r:Vals vs us)(h:∀x dx,H x=Z0->H dx=Z0->dx≠x->sp (.ref x ::(vs++dvs)) (Z9 (Z9 H dx (.own x)) x (.ins C dx [])) (λv H2=>v=.non/\Q (.ref x) H2) (E σ)) :
  wpAny (model X.prog X.w) X.A (call (.ref C) us) (EP X X4 σ Q) X.xe s:=by
 let g:=h (~~~s+1) (~~~s) (I.hok.fresh<|anp _) (I.hok.fresh<|amd _)<|amu<|anL _;let b:=Inv.made (C:=C) I;let i:Vals (V.ref (~~~s+1) ::(vs++dvs)) (Value.ref (~~~s+1)::us++ds):=.cons J<|Vals.append r rd;let o:(Value.ref (~~~s+1)::us++ds).length=ps.length:=by let e:=i.length;rw[F.len _ _ _ _ g] at e;exact e.symm
 let c:=j _ (Value.ref (~~~s+1)::us) b.kIn o;refine an9 (Eo (f:=f) I.kIn M.makes M.init (aoL.mp M.fn) (anC (F.run _ X.stack _ _ {Value.ref (~~~s+1)::us,[]} (Value.ref (~~~s+1)::us++ds) _ _ (E σ) (m.make C us [])
  (b.Dv.make C us []) c i g) λr s' a=>?_))
 cases r with
 |error e=>exact l X4 σ _ _ e s' b a
 |ok fl=>
  cases fl with
  |ret u=>let⟨v,H',p,q,t,n⟩:=b.after a;subst t;exact{q,{V.ref (~~~s+1),H',p,J,n}}
  |next=>exact False.elim a
  |brk=>exact False.elim a
  |cont=>exact False.elim a
def Bb(D:Lr X.prog X.w X.K X.mg X.base x C k ps ds sp)(rd:Vals dvs ds)(g:cS X E)(i:cO (k+1) X.A)(j:Gl X x)(l:PA X (e::es) t)(a:(x ==("__debug__":Str))=Z2:=by decide)(he:starEach (e::es) X.env =(Z2,eval e X.env)::starEach es X.env:=by rfl)(c:(backTo pos (starEach es X.env)).any (·.1)=Z2:=by rfl) :
  PE X (.Call (.Name x p) (e::es) [] pos) (Vp C sp E dvs t):=by
 let⟨f,fd,m,M,F,b⟩:=D.ex;intro X4 s σ H Q I h;refine amU<|kP I j m ?_ a;refine anc (h₀:=X.base) I.ok.mod.kin M.kp (thn (l pos X4 s σ H _ I h) λ us s1 ⟨vs,H1,I1,r,q⟩=>{I1.kIn,?_}) he c;exact HA M F i b rd g I1 r q
def GP{pl:Sem Bool}(he:PE X o (tC (.ref C)))(D:acM X.prog X.w X.K X.mg X.base x C m k ps sp)(i:cS X E)(j:cO k X.A)(n:PA X (e::es) t)(a:starEach (e::es) X.env =(Z2,eval e X.env)::starEach es X.env:=by rfl)(g:(backTo pos (starEach es X.env)).any (·.1)=Z2:=by rfl)(l:eval (.Call (.Attribute o m apos) (e::es) [] pos) X.env =(do
   let ov ←eval o X.env
   standAt apos.atName
   let (f,first) ←holding [ov] (getMethod ov m pl)
   callWith pos f first (backTo pos (starEach (e::es) X.env)) (backToKw pos (keywordEach [] X.env))):=by rfl) :
  PE X (.Call (.Attribute o m apos) (e::es) [] pos) (DS sp E t):=by
 let⟨f,fd,_,c,F,b⟩:=D.ex;intro X4 s σ H Q I h;refine an4 (pl:=pl) (thn (he X4 s σ H (λv H'=>v=.ref C/\H'=H) I ⟨J,J⟩) λ u s1 ⟨x,H1,I1,rx,ex,eH⟩=>?_) l;subst ex eH;obtain rfl:u=Value.ref C:=rx;refine PySem.W.method_cls I1.kIn c.ga<|PySem.W.cls_value I1.kIn c.rd c.fc J ?_;refine anc (first:=[]) (h₀:=X.base) I.ok.mod.kin c.kp (thn (n pos X4 _ σ H1 _ (I1.tok _) h) λ us s2 ⟨vs,H2,I2,r,q2⟩=>{I2.kIn,?_}) a g;exact rF F j b i I2 r q2
end
def DX{K:Frag}{a:nt}(D:nt){xs:mu V}{g:TG}{tt:TT}{te:TE}{σ:St}{H:Hp}{R:Hp->Z3}(h:Z5->St->Hp->mu V->Z3)(h0:h 0 σ H [])(t:∀i σ H ys,i≤xs.length->h i σ H ys->X3 K H a xs)(hs:∀i x σ H ys,xs[i]?=some x->h i σ H ys->g x σ H λc r=>tt c r λb o=>if b=Z1 then
   te c o λy l=>l D=some (.lst ys)/\ys.length<Z7/\h (i+1) c (Z9 l D (.lst (ys++[y]))) (ys++[y]) else h (i+1) c o ys)(hd:∀σ H ys,h xs.length σ H ys->R H) :
  ∃W:Z5->Z5->St->Hp->mu V->Z3,(∃m,W 0 m σ H [])/\∀i m f H' ys,W i m f H' ys->((Itt K a).stop i H'/\R H')∨
   ((Itt K a).go i H'/\∃N:St->Hp->mu V->Z3,(∀f H' j,N f H' j->∃s,s<m/\W (i+1) s f H' j)/\∀x H2,(Itt K a).yld i H' x H2->g x f H2 λc r=>tt c r λb o=>if b=Z1 then
    te c o λy l=>l D=some (.lst ys)/\ys.length<Z7/\N c (Z9 l D (.lst (ys++[y]))) (ys++[y])
    else N c o ys):=by
 exists λi m σ H ys=>m=xs.length-i/\i≤xs.length/\h i σ H ys,{xs.length,o7,amE _,h0};rintro i m σ H ys ⟨rfl,hi,p⟩;let q:=t i σ H ys hi p;by_cases n:i<xs.length
 .refine .inr {{xs,xs[i],q,by simp[n]},h (i+1),λf H' j u=>{xs.length -(i+1),o5,J,n,u},λx H' y=>?_};let⟨e,y⟩:=y;subst e;exact hs i x σ _ ys (y xs q) p
 .let e:i=xs.length:=by omega
  subst e;exact .inl {{xs,q,amd _},hd σ H ys p}
def tI(n:Z4):Z4:=n*128 % 18446744073709551616+n / 144115188075855872
def JH(n:Z5):tI ↥n =(Chk.T n:Z5):=by unfold tI Chk.T;omega
def wM(a b:Z5):Builtin.bitXor ↥a ↥b =((a ^^^ b:Z5):Z4):=by
 rw[PyProof.Rows.bitXor_and];let e:Builtin.bitAnd ↥a ↥b =((a &&& b:Z5):Z4):=by unfold Builtin.bitAnd;simp
 rw[e];let:=Chk.Vk a b;omega
def flat(rows:mu (Z5×Z5)):mu Z5:=rows.flatMap λr=>[r.1,r.2]
def Bo(rows:mu (Z5×Z5))(r:Z5×Z5):flat (rows++[r])=flat rows++[r.1,r.2]:=by simp[flat]
structure cU(H:Hp)(L:mu V)(rows:mu (Z5×Z5)):Z3 where
 len:L.length=rows.length
 get:∀(i:Z5)v,L[i]?=some v->∃t r,v=V.ref t/\rows[i]?=some r/\H t=some (.tup [.int (r.1:Z4),.int (r.2:Z4)])
def cU.mono(R:cU H L rows)(h:∀t xs,H t=some (.tup xs)->H' t=some (.tup xs)):cU H' L rows:=
 {R.len,λi v e=>let ⟨t,r,a,b,c⟩:=R.get i v e;{t,r,a,b,h t _ c}}
def cU.snoc(R:cU H L rows){r:Z5×Z5}(h:H t=some (.tup [.int ↥r.1,.int ↥r.2])):cU H (L++[.ref t]) (rows++[r]):=
 ⟨by simp[R.len],λi v e=>by
  by_cases hi:i<L.length
  .rw[ams hi] at e;let⟨t,r,a,b,c⟩:=R.get i v e;exact{t,r,a,by rwa[ams (by grind)],c}
  .rw[amG o5] at e;let f:i-L.length=0:=by grind
   rw[f] at e;let e:V.ref t=v:=⇑e
   refine{t,r,e.symm,?_,h};rw[amG (by rw[←R.len];omega),←R.len,f];rfl⟩
def CJ(l:mu (Z5×Z5)):(flat l).length=2*l.length:=by
 induction l with
 |nil=>rfl
 |cons r l a=>have:flat (r::l)=r.1::r.2::flat l:=rfl;rw[this];simp only[List.length_cons,a];omega
def CQ:bO "rows" v [("day",x)] =([("day",x),("rows",v)]:mu (Z6×V)):=by rw[c8 d7];rfl
def qo:bO "check" v [("day",x),("rows",y)] =([("day",x),("rows",y),("check",v)]:mu (Z6×V)):=by rw[c8 d7,c8 d7];rfl
def Dl:bO "fits" v [("day",x),("rows",y),("check",z)] =([("day",x),("rows",y),("check",z),("fits",v)]:mu (Z6×V)):=by rw[c8 d7,c8 d7,c8 d7];rfl
def MT:bO "base" v [("day",x),("rows",y),("check",z),("fits",f)] =([("day",x),("rows",y),("check",z),("fits",f),("base",v)]:mu (Z6×V)):=by rw[c8 d7,c8 d7,c8 d7,c8 d7];rfl
def rR{x:V}{r:mu (Z6×V)}:List.lookup ("day":Str) (("day",x)::r)=some x:=by rw[amz];simp
def oU{x y:V}{r:mu (Z6×V)}:List.lookup ("rows":Str) (("day",x) ::("rows",y)::r)=some y:=by rw[amz,show(("rows":Str) == "day")=Z2 by decide +kernel,amz];simp
def mK{x y z:V}{r:mu (Z6×V)}:List.lookup ("check":Str) (("day",x) ::("rows",y) ::("check",z)::r)=some z:=by rw[amz,show(("check":Str) == "day")=Z2 by decide +kernel,amz,show(("check":Str) == "rows")=Z2 by decide +kernel,amz];simp
def GL{x y z f:V}{r:mu (Z6×V)}:List.lookup ("fits":Str) (("day",x) ::("rows",y) ::("check",z) ::("fits",f)::r)=some f:=by rw[amz,show(("fits":Str) == "day")=Z2 by decide +kernel,amz,show(("fits":Str) == "rows")=Z2 by decide +kernel,amz,show(("fits":Str) == "check")=Z2 by decide +kernel,amz];simp
def F3{x y z f v:V}{r:mu (Z6×V)}:List.lookup ("base":Str) (("day",x) ::("rows",y) ::("check",z) ::("fits",f) ::("base",v)::r)=some v:=by rw[amz,show(("base":Str) == "day")=Z2 by decide +kernel,amz,show(("base":Str) == "rows")=Z2 by decide +kernel,amz,show(("base":Str) == "check")=Z2 by decide +kernel,amz,show(("base":Str) == "fits")=Z2 by decide +kernel,amz];simp
def pfs(wh:Bool)(b d:Z5)(r:nt)(c:Z4)(f:Bool):mu (Z6×V):=match wh with
 |true=>[("day",V.int ↥d),("rows",V.ref r),("check",V.int c),("fits",V.bl f)]
 |false=>[("day",V.int ↥d),("rows",V.ref r),("check",V.int c),("fits",V.bl f),("base",V.int ↥b)]
def lZ{m:Z6}{wh:Bool}{b d:Z5}{r:nt}{c:Z4}{f:Bool}(h1:(m == "day")=Z2)(h2:(m == "rows")=Z2)(h3:(m == "check")=Z2)(h4:(m == "base")=Z2)(h5:(m == "fits")=Z2:=by decide +kernel):List.lookup m (pfs wh b d r c f)=Z0:=by cases wh <;> simp only[pfs,List.lookup,h1,h2,h3,h4,h5]
def stN(wh:Bool)(b:Z5):Z5:=cond wh 0 (b+1)
def sY(wh:Bool)(b d:Z5)(rows:mu (Z5×Z5)):Z5:=Chk.chk (stN wh b::d::flat rows)
def PAt(CW CG:nt)(H:Hp)(p:nt)(wh:Bool)(b d:Z5)(rows:mu (Z5×Z5))(c:Z4):Z3:=
 ∃dx r R,H p=some (.ins (cond wh CW CG) dx<|pfs wh b d r c<|decide (c =(sY wh b d rows:Z5)))/\H r=some (.tup R)/\cU H R rows
def PAt.keep{b d:Z5}{c:Z4}(h:PAt CW CG H p wh b d rows c)(s:ao H H'):PAt CW CG H' p wh b d rows c:=by let⟨dx,r,R,h1,h2,h3⟩:=h;exact{dx,r,R,s _ _ h1,s _ _ h2,h3.mono λt xs e=>s _ _ e}
def cA(c:H x=Z0)(hd:H dx=Z0)(k:bg [x] (Z9 (Z9 H dx (.own x)) x o) H'):ao H H':=λb u e=>by let a:=aA e c;let f:=aA e hd;exact k b u (by rw[au a,au f];exact e) (⇑a)
def XE{i j:Z4}:decide (V.int i=V.int j)=decide (i=j):=by grind
inductive uT(vs:mu V)(H:Hp)(Q:VK)(E:XK):Z3
 |m n(_:vs=[.int n])(_:Q (.int (tI n)) H)
inductive yQ(vs:mu V)(H:Hp)(Q:VK)(E:XK):Z3
 |m (s d:Z5) (a:nt) (L:mu V) (rows:mu (Z5×Z5))(_:vs=[.int ((s:Z4)-1),.int (d:Z4),.ref a])(_:H a=some (.lst L)∨H a=some (.tup L))(_:cU H L rows)(_:rows.length≤100)(_:∀H',ao H H'->Q (.int (Chk.chk (s::d::flat rows):Z5)) H')
inductive tL(K:Frag)(vs:mu V)(H:Hp)(Q:VK)(E:XK):Z3
 |m (p C dx a:nt) (s d:Z5) (L:mu V) (rows:mu (Z5×Z5)) (cv:V) (c:Z4)(_:vs=[.ref p,.int ((s:Z4)-1),.int (d:Z4),.ref a,cv])(_:H p=some (.ins C dx []))(_:Cls K C)(_:aJ K C "day")(_:aJ K C "rows")(_:aJ K C "check")(_:aJ K C "fits")(_:H a=some (.lst L)∨H a=some (.tup L))(_:cU H L rows)(_:rows.length≤100)(_:(cv=.non/\c =(Chk.chk (s::d::flat rows):Z5))∨cv=.int c)(_:∀r R H',H' p=some (.ins C dx [("day",V.int (d:Z4)),("rows",V.ref r),("check",V.int c),("fits",V.bl (decide (c =(Chk.chk (s::d::flat rows):Z5))))])->H' r=some (.tup R)->cU H' R rows->bg [p] H H'->Q .non H')
inductive mP(CW CG:nt)(vs:mu V)(H:Hp)(Q:VK)(E:XK):Z3
 |m (p dx a:nt) (d:Z5) (L:mu V) (rows:mu (Z5×Z5)) (cv:V) (c:Z4)(_:vs=[.ref p,.int (d:Z4),.ref a,cv])(_:H p=some (.ins CW dx []))(_:H a=some (.lst L)∨H a=some (.tup L))(_:cU H L rows)(_:rows.length≤100)(_:(cv=.non/\c =(sY Z1 0 d rows:Z5))∨cv=.int c)(_:∀H',PAt CW CG H' p Z1 0 d rows c->bg [p] H H'->Q .non H')
inductive pL(CW CG:nt)(vs:mu V)(H:Hp)(Q:VK)(E:XK):Z3
 |m (p dx a:nt) (b d:Z5) (L:mu V) (rows:mu (Z5×Z5)) (cv:V) (c:Z4)(_:vs=[.ref p,.int (b:Z4),.int (d:Z4),.ref a,cv])(_:H p=some (.ins CG dx []))(_:H a=some (.lst L)∨H a=some (.tup L))(_:cU H L rows)(_:rows.length≤100)(_:(cv=.non/\c =(sY Z2 b d rows:Z5))∨cv=.int c)(_:∀H',PAt CW CG H' p Z2 b d rows c->bg [p] H H'->Q .non H')
inductive wU(CW CG:nt)(vs:mu V)(H:Hp)(Q:VK)(E:XK):Z3
 |m p wh b d rows c(_:vs=[.ref p])(_:PAt CW CG H p wh b d rows c)(_:rows.length≤100)(_:∀H',ao H H'->Q (.bl (decide (c =(sY wh b d rows:Z5)))) H')
inductive uM(vs:mu V)(H:Hp)(Q:VK)(E:XK):Z3
 |m p(_:vs=[.ref p])(_:Q (.int (-1)) H)
inductive wG(CW CG:nt)(vs:mu V)(H:Hp)(Q:VK)(E:XK):Z3
 |m p b d rows c(_:vs=[.ref p])(_:PAt CW CG H p Z2 b d rows c)(_:Q (.int (b:Z4)) H)
inductive ym(vs:mu V)(H:Hp)(Q:VK)(E:XK):Z3
 |m p(_:vs=[.ref p])(_:Q (.str (Str.ofString "whole")) H)
inductive yF(vs:mu V)(H:Hp)(Q:VK)(E:XK):Z3
 |m p(_:vs=[.ref p])(_:Q (.str (Str.ofString "gain")) H)
def wO:∀{us:mu nF}{ns:mu Z4},IntsAre us ns->Vals (ns.map Z8) us
 |_,_,.nil=>.nil
 |_,_,.cons _ t r=>.cons ⟨t,J⟩<|wO r
def ua(h:IntsAre us ns):us.length=ns.length:=by let:=(wO h).length;rw[ame] at this;exact this.symm
def FQ(x:cu P w H h a o):∃ob,h.get? a=some ob:=by
 cases o with
 |lst xs=>let⟨_,_,_,_,e⟩:=x;exact{_,e}
 |tup xs=>let⟨_,_,_,ob,e,_⟩:=x;exact{_,e}
 |dK X5=>let⟨_,_,_,_,o,_,_,e,_⟩:=x;exact{_,e}
 |dT X5=>let⟨_,_,_,_,o,_,_,e,_⟩:=x;exact{_,e}
 |set S n=>let⟨o,_,_,_,e,_⟩:=x;exact{_,e}
 |ins C dx fs=>let⟨_,_,_,e,_⟩:=x;exact{_,e}
 |own y=>exact x
 |xd fs=>let⟨_,⟨_,_,_,e,_⟩,_⟩:=x;exact{_,e}
 |rng lo hi=>let⟨_,_,_,e⟩:=x;exact{_,e}
 |frz ob u=>exact{_,x.1}
 |tbl ps=>exact{_,x}
 |met f y=>exact{_,x}
 |ext b=>exact x.2.1
section
variable{X:Cx}{X4:mu (nt×Obj)}{σ:St}{H:Hp}{s:qb}
def Inv.KI{t':Z5}(I:Inv X X4 σ H s)(h:s.heap.get? a=Z0)(k:∀b o,s.heap.get? b=some o->h'.get? b=some o)(new:cu X.prog X.w (Z9 H a (.lst vs)) h' a (.lst vs)) :
  ∃_:H a=Z0,Inv X X4 σ (Z9 H a (.lst vs)) {s with heap:=h',toks:=t'}/\True:=by
 let f:H a=Z0:=by
  cases z:H a with
  |none=>rfl
  |some o=>let⟨j,g⟩:=FQ<|I.hok a o z;rw[h] at g;cases g
 refine{f,?_,trivial};let l:∀b o,s.heap.get? b=some o->b≠a:=λb o e z=>by rw[z,h] at e;cases e
 let i:Un X.fs [] H (Z9 H a (.lst vs)) s.heap h':=by
  refine{λb o e _ _ _=>k b o e,λb o e _ _ _=>{o.slots,k b o e},λb o e n _=>?_,λb o e _=>{o,k b o e},λb xs e=>?_,λb o u e=>?_,λb ps e=>{#[],?_}}
  .grind [cu,Z9]
  .grind [cu,Z9]
  .grind [cu,Z9]
  .grind [cu,Z9]
 refine I.un i λb o e=>?_
 by_cases z:b=a
 .grind [cu,Z9]
 .rw[au z] at e;exact(I.hok b o e).stay (λc v _ q=>k c v q) (λc q=>by rwa[au<|aA q f]) λc xs q=>by rwa[au<|aA q f]
end
section
variable{X:Cx}
inductive rL(xs:mu V)(H:Hp)(Q:VK):Z3
 |m (a:nt) (X5:mu (Key×V)) (ns:mu Z4)(_:xs=[.ref a])(_:H a=some (.dK X5))(_:X5.map (·.1)=ns.map Sum.inl)(_:ns.length<64)(_:∀(l:nt)(ns':mu Z4),H l=Z0->ns'.Perm ns->ns'.Pairwise (·≤·)->Q (.ref l) (Z9 H l (.lst (ns'.map .int))))
def vn(hc:X.calm=Z1):jw X (.builtin "sorted") rL:=by
 rintro X4 s σ H xs us Q I r ⟨a,X5,ns,rfl,hD,hk,U,q⟩;let⟨u,rfl,ru⟩:=vals1 r;cases (show u=Value.ref a from ru);let⟨hsz,lo,vs,kv,hd⟩:=HY I.hok hD;let⟨ep,a0⟩:=hd.dictAt;let g:=kv.keys;let h:vs.length=ns.length:=by let:=congrArg List.length<|g.symm.trans hk;simpa using this
 refine apn kind_sorted plain_sorted entry_sorted (args_sorted1 _) ?_;unfold Builtin.«sorted»;refine al6 (m:=checkCount "sorted" 1 1 _)<|al9 ?_;refine al6 (aqi (A:=X.A.in1) (PySem.W.kdl_dict (knd:=cg X.prog X.w) (kvs:=vs) (ep:=ep) lo) (I.ok.hd hc) a0 (by rw[h];exact amV<|bF o5) λh' tk acc keep f=>?_);let hI:IntsAre acc.toList ns:=by
  refine aoN ?_;let c:acc.toList.length=ns.length:=by rw[am5,f.1,h]
  let p:∀(j:Z5)v,acc.toList[j]?=some v->∃n t,ns[j]?=some n/\v=Value.int n t:=λj v e=>by
   let⟨k,x,h1,h2⟩:=f.2 j v (by rw[←am6];exact e);let F:(vs.map (·.1))[j]?=some k:=by grind
   rw[←g,hk,amx] at F;let⟨n,e2,e3⟩:=ami.mp F;subst e3;let h2:sS (Sum.inl n) v=Z1:=h2;rcases dO h2 with⟨i,t,e5,e4⟩|⟨y,t,e5,e4⟩
   .grind
   .grind
  clear f;generalize acc.toList=us at c p;clear hk h U q
  induction us generalizing ns with
  |nil=>cases ns with
   |nil=>exact .nil
   |cons n ns=>simp at c
  |cons u us ih=>cases ns with
   |nil=>simp at c
   |cons n ns=>
    let⟨m,t,F,e2⟩:=p 0 u rfl;let F:n=m:=⇑F
    subst F;exact .cons ⟨t,e2⟩ (ih (ns:=ns) (⇑c) λj v e=>by let⟨m,t,a1,a2⟩:=p (j+1) v (⇑e);exact{m,t,⇑a1,a2})
 let c:acc.toList.length<64:=by rwa[ua hI]
 refine al6<|wpAny_newList ?_<|amV<|bF o5;let B:(h'.push (seqObj "list" acc.toList.toArray 0)).get? h'.objs.size=some (seqObj "list" acc.toList.toArray 0):=amh _ rfl;refine al6<|am3<|anl slot_list_sort {_,B,J} entry_list_sort (list_sort_tree B hI c λout l b1 b2 b3=>{1,?_})<|args_list_sort _;refine al9 {1,?_};let⟨e,L⟩:=sortedHeap_at (out:=out) B;let Y:s.heap.get? h'.objs.size=Z0:=by
  cases z:s.heap.get? h'.objs.size with
  |none=>rfl
  |some o=>exact absurd (amb<|keep _ _ z)<|anf _
 let O:l.length≤Z7:=by rw[b2.length_eq];exact amV<|bF o5
 let C:∀b o,s.heap.get? b=some o->(sortedHeap (h'.push (seqObj "list" acc.toList.toArray 0)) h'.objs.size acc.toList out).get? b=some o:=λb o z=>by let hb:=keep b o z;let S:=amb hb;rw[sortedHeap_old (amu S) (by rw[size_push'];exact an3 S)];exact al7 _ hb
 let⟨H',I',_⟩:=I.KI (t':=tk) (vs:=l.map Z8) Y C {by rwa[ame],out.toList,e,wO b1,⇑L};exact{.ref h'.objs.size,_,I',J,q _ l H' b2 b3}
end
def sfs(d:nt)(fl:Z4):mu (Z6×V):=[("pieces",V.ref d),("follows",V.int fl)]
def ER:bO "follows" v [("pieces",x)] =([("pieces",x),("follows",v)]:mu (Z6×V)):=by rw[c8 d7];rfl
def EJ{fl m:Z4}:bO "follows" (.int m) (sfs d fl)=sfs d m:=by unfold sfs;rw[c8 d7,F7]
def nM{fl:Z4}:List.lookup ("pieces":Str) (sfs d fl)=some (V.ref d):=by grind [fl,sfs]
def sZ{fl:Z4}:List.lookup ("follows":Str) (sfs d fl)=some (V.int fl):=by unfold sfs;rw[amz,show(("follows":Str) == "pieces")=Z2 by decide +kernel,amz];simp
def jb{m:Z6}{d:nt}{fl:Z4}(h1:(m == "pieces")=Z2)(h2:(m == "follows")=Z2):List.lookup m (sfs d fl)=Z0:=by grind [fl,sfs]
inductive fS(C:nt)(H:Hp)(p d:nt)(fl:Z4)(X5:mu (Key×V)):Z3
 |m dx(_:H p=some (.ins C dx (sfs d fl)))(_:H d=some (.dK X5))
def fS.keep{fl:Z4}(h:fS C H p d fl X5)(s:ao H H'):fS C H' p d fl X5:=by let⟨dx,h1,h2⟩:=h;exact{dx,s _ _ h1,s _ _ h2}
inductive yi(C:nt)(vs:mu V)(H:Hp)(Q:VK)(E:XK):Z3
 |m p dx(_:vs=[.ref p])(_:H p=some (.ins C dx []))(_:∀d H',fS C H' p d 0 []->H d=Z0->bg [p] H H'->Q .non H')
inductive EK(C:nt)(vs:mu V)(H:Hp)(Q:VK)(E:XK):Z3
 |m p d fl X5 n a(_:vs=[.ref p,.int n,.ref a])(_:fS C H p d fl X5)(_:X5.length<1000)(_:∀H',fS C H' p d (if n+1>fl then n+1 else fl) (putK X5 (.inl n) (.ref a))->bg [p,d] H H'->Q .non H')
inductive Ea(C:nt)(vs:mu V)(H:Hp)(Q:VK)(E:XK):Z3
 |m p d fl X5 a(_:vs=[.ref p,.ref a])(_:fS C H p d fl X5)(_:X5.length<1000)(_:∀H',fS C H' p d (fl+1) (putK X5 (.inl fl) (.ref a))->bg [p,d] H H'->Q (.int fl) H')
inductive yx(C CN:nt)(vs:mu V)(H:Hp)(Q:VK)(E:XK):Z3
 |m p d fl X5 n(_:vs=[.ref p,.int n])(_:fS C H p d fl X5)(_:∀v,bu X5 (.inl n)=some v->Q v H)(_:bu X5 (.inl n)=Z0->∀e H',ExcAt H' e CN [("number",.int n)]->ao H H'->E (.ref CN) (some e) H')
def lY(lkv:mu (Key×V)):Z3:=∀ a∈lkv,∃n:Z4,a.1=Sum.inl n
def lY.nil:lY []:=λ_ h=>by cases h
def lY.put(h:lY X5)(n:Z4)(v:V):lY (putK X5 (Sum.inl n) v):=λc a=>by
 unfold putK at a;split at a
 .let⟨b,h1,rfl⟩:=amS.mp a;let⟨m,e⟩:=h b h1;split
  .exact⟨m,e⟩
  .exact⟨m,e⟩
 .rcases amy.mp a with h1|h1
  .exact h c h1
  .grind
def sf(H:Hp)(F:mu nt):Z3:=∀ x∈F,(∃a,H x=some (.dK a))∨(∃C dx d fl,H x=some (.ins C dx<|sfs d fl))
def sf.tup(h:sf H F)(e:H t=some (.tup xs)):t∉F:=λb=>by rcases h t b with⟨c,a⟩|⟨C,dx,d,fl,a⟩ <;>(rw[e] at a;cases a)
def PAt.HV{b d:Z5}{c:Z4}(h:PAt CW CG H a wh b d rows c)(k:bg F H H')(f:sf H F):PAt CW CG H' a wh b d rows c:=by
 let⟨dx,r,R,h1,h2,h3⟩:=h;refine{dx,r,R,k _ _ h1 λi=>?_,k _ _ h2<|f.tup h2,h3.mono λt xs e=>k _ _ e<|f.tup e};rcases f _ i with⟨j,e⟩|⟨C,g,d',fl,e⟩
 .rw[h1] at e;cases e
 .rw[h1] at e;let e:=congrArg List.length (HO.ins.inj<|amw e).2.2;cases wh <;> simp[pfs,sfs] at e
def sf.one(h:H a=some (.dK kv)):sf H [a]:=λx b=>by
 let:x=a:=⇑b
 subst this;exact .inl {_,h}
def fS.HV{fl:Z4}(h:fS C H p d fl X5)(k:bg F H H')(a:p∉F)(hd:d∉F):fS C H' p d fl X5:=by let⟨dx,h1,h2⟩:=h;exact{dx,k _ _ h1 a,k _ _ h2 hd}
def KV.len':∀{ps:mu (Key×V)}{pv:mu (Key×nF)},KV ps pv->pv.length=ps.length
 |_,_,.nil=>rfl
 |_,_,.cons _ r=>by simp[KV.len' r]
def VA{X:Cx}{K:Frag}{e:Expr}{ta:TE}{f:Z6}{pos:Pos}(b:X.K=K)(he:PE X e ta)(a:attributeBase e f X.env (eval e X.env)=eval e X.env):PE X (.Attribute e f pos) (acD K ta f):=by subst b;exact bz he a
section
variable{X:Cx}{X4:mu (nt×Obj)}{σ:mu (o9 V)}{H:Hp}{s:qb}{d:nt}{u u':HO}
def Inv.swap(I:Inv X X4 σ H s)(e:H d=some u)(i:∀xs,u≠.tup xs)(no:∀y,u≠.own y)(t:∀ps,u≠.tbl ps)(nf:∀o v,u=.frz o v->X.H₀ d≠some (.frz o v))(new:cu X.prog X.w (Z9 H d u') s.heap d u'):Inv X X4 σ (Z9 H d u') s:=by
 let g:∀b,H b=Z0->Z9 H d u' b=Z0:=λb h=>by rw[au λz=>by subst z;rw[h] at e;cases e];exact h
 let hs:∀b v,H b=some v->v≠u->Z9 H d u' b=some v:=λb v h n=>by rw[au λz=>by subst z;rw[h] at e;cases e;exact n J];exact h
 refine{I.ok,I.os,I.bare,{I.base.keep,I.base.slot,λb o q n j=>g b<|I.base.free b o q n j,I.base.there,λb xs q=>hs b _ (I.base.tups b xs q) λz=>i xs z.symm,λb o v q=>?_,λb ps q=>?_},I.loc,I.cell,g _ I.free,λx c q=>g _<|I.gw x c q,λp l=>?_,λa o q=>?_,I.len}
 .let h1:=I.base.oz b o v q;by_cases f:b=d
  .subst f;rw[e] at h1;exact absurd q<|nf o v<|amw h1
  .rw[au f];exact h1
 .let⟨more,h1⟩:=I.base.qV b ps q;exact{more,hs b _ h1 λz=>t _ z.symm}
 .let⟨B,m,A⟩:=I.pin p l;exact{B,g _ m,A}
 .by_cases f:a=d
  .subst f;rw[aj] at q;cases q;exact new
  .rw[au f] at q;exact(I.hok a o q).stay (λ_ _ _ r=>r) (λb r=>hs b _ r λz=>no a z.symm) λb xs r=>hs b _ r λz=>i xs z.symm
def NF(H₀:Hp)(d:nt):Z3:=∀o v,H₀ d≠some (.frz o v)
def Inv.freeze(I:Inv X X4 σ H s)(e:H d=some (.dK X5)):NF X.H₀ d/\∃o,s.heap.get? d=some o/\Inv X X4 σ (Z9 H d (.frz o (.dK X5))) s:=by
 let nf:NF X.H₀ d:=λo v q=>by let:=I.base.oz d o v q;rw[e] at this;cases this
 let ok:=I.hok d _ e;let⟨z,y,vs,r,b,es,ep,a,c⟩:=(show cu X.prog X.w H s.heap d (.dK X5) from ok);exact{nf,b,a,I.swap e (λ_=>nofun) (λ_=>nofun) (λ_=>nofun) (λ_ _=>nofun) ⟨a,z,y,vs,r,b,es,ep,a,c⟩}
def Inv.ach(I:Inv X X4 σ H s)(e:H d=some (.frz o (.dK X5)))(nf:NF X.H₀ d):Inv X X4 σ (Z9 H d (.dK X5)) s:=by let⟨f,z,y,vs,r,b,es,ep,a,c⟩:=(show cu X.prog X.w H s.heap d (.frz o<|.dK X5) from I.hok d _ e);exact I.swap e (λ_=>nofun) (λ_=>nofun) (λ_=>nofun) (λo v _=>nf o v) ⟨z,y,vs,r,b,es,ep,a,c⟩
end
def Gy{ep:Z5}(ok:cu P w H h d (.frz o (.dK X5)))(a:o.data=.dict es ep):∃vs,KV X5 vs/\h.DictAt (cg P w) d vs ep:=by let⟨f,z,y,vs,r,j,g,i,b,c,hd,q⟩:=ok;rw[f] at b;cases b;rw[a] at hd;cases hd;exact{vs,r,_,_,f,c,a,q}
section
variable{X:Cx}{tg:Expr}
def ahB(H₀:Hp)(t:TS):TS:=λD σ H=>t {D with nx:=λa H'=>∃d o X5,H' d=some (.frz o<|.dK X5)/\NF H₀ d/\D.nx a (Z9 H' d<|.dK X5),rt:=λv H'=>∃d o X5,H' d=some (.frz o<|.dK X5)/\NF H₀ d/\D.rt v (Z9 H' d<|.dK X5)} σ H
def UJ{st:Stmt}{t:TS}(h:PS X st t):PS X st (ahB X.H₀ t):=by
 intro X4 s σ H D I q;refine thn (h X4 s σ H _ I q) λf s' b=>?_
 cases f with
 |next=>let⟨a,H',g,d,o,X5,e,nf,c⟩:=b;exact{a,_,g.ach e nf,c}
 |brk=>exact b
 |cont=>exact b
 |ret u=>let⟨v,a,H',g,r,d,o,X5,e,nf,c⟩:=b;exact{v,a,_,g.ach e nf,r,c}
end
section
variable{X:Cx}{X4:mu (nt×Obj)}{σ:St}{H:Hp}{s:qb}{a:nt}{X5:mu (Key×V)}{k:Key}{u r:nF}{z:V}{A:Around}{E:nF->qb->Z3}
def Nt(I:Inv X X4 σ H s)(e:H a=some (.dK X5))(m:RelV (kV k) u)(o:RelV z r)(t:X5.length<Z7)(h1:∀v i s',bu X5 k=some v->Inv X X4 σ H s'->RelV v i->Q i s')(h2:bu X5 k=Z0->∀s',Inv X X4 σ (Z9 H a (.dK (putK X5 k z))) s'->Q r s') :
  wpAny (model X.prog X.w) A (call (.builtin "dict.setdefault") [.ref a,u,r]) Q E s:=by
 let⟨p,hd,vs,c,dd⟩:=HY I.hok e;let l:vs.length≤Z7:=by rwa[←c.length]
 let h:(putK X5 k z).length≤Z7:=by let:=ng X5 k z;omega
 refine apw ao4 dd.typeIs PySem.F.entry_dict_setdefault (PySem.F.args_dict_setdefault_3 _ _ _) (PySem.kt_meets_setdefault (cg X.prog X.w) a (oH m) hd r) {vs,dd,l,λv g=>?_,λg h' f hs=>?_}
 .let:=c.val k;rw[g] at this;cases b:bu X5 k with
  |none=>rw[b] at this;exact this.elim
  |some j=>rw[b] at this;exact h1 j v _ b (I.tok _) this
 .let n:bu X5 k=Z0:=by
   let:=c.val k;rw[g] at this;cases b:bu X5 k with
   |none=>rfl
   |some j=>rw[b] at this;exact this.elim
  let he:∃q,h'.get? a=some q:=let ⟨q,_,_,hq,_⟩:=f;⟨q,hq⟩;exact h2 n _<|zT I (by rw[e];exact True.intro) hs he<|Kz h hd (c.put k o) f
end
inductive Ej(ty:TE)(tx:TE)(σ:St)(Q:VK)(x:V)(H1:Hp):Z3
 |m a(_:x=.ref a)(_:IsD H1 a)(_:ty σ H1 λy H2=>tx σ H2 λz H3=>∃X5 k,H3 a=some (.dK X5)/\y=kV k/\X5.length<Z7/\(∀v,bu X5 k=some v->Q v H3)/\(bu X5 k=Z0->Q z (Z9 H3 a (.dK (putK X5 k z)))))
def agW(td ty tx:TE):TE:=λσ H Q=>td σ H λx H1=>Ej ty tx σ Q x H1
def MP(n:PE X o td)(he:PE X e ty)(i:PE X f tx)(m:M2 X o "setdefault" apos e f cpos):PE X (.Call (.Attribute o "setdefault" apos) [e,f] [] cpos) (agW td ty tx):=by
 intro X4 s σ H Q I h;refine wpAny_Call_method m.base m.few m.line aos ao4 PySem.F.type_dict_setdefault (thn (n X4 s σ H _ I h) λ u s1 ⟨x,H1,I1,rx,a,ex,d,q1⟩=>?_);subst ex;obtain rfl:u=Value.ref a:=rx;let⟨g,j,_⟩:=Cy I1 d;exists g,j;rw[m.trees];refine anZ J (aoO (am7 (thn (he X4 s1 σ H1 _ I1 q1) λ r s2 ⟨y,H2,I2,ry,q2⟩=>am7 (thn (i X4 s2 σ H2 _ I2 q2) λ q s3 ⟨z,H3,I3,rz,X5,k,ea,ey,hl,q3,q4⟩=>anv ?_))))
 subst ey;exact Nt I3 ea ry rz hl (λv p s' b c l=>{v,H3,c,l,q3 v b}) λb s' c=>{z,_,c,rz,q4 b}
structure Leg where
 num:Z4
 start:Z4
 to:Z4
 bad:Z4
 cost:Z4
def ahead(legs:mu Leg)(P:Z4->o9 (mu Z4)):Z5:=(legs.filter λg=>(P g.start).isNone).length
def JE{α:Type}[DecidableEq α]:∀{l m:mu α},l.Nodup->(∀ x∈l,x∈m)->l.length≤m.length
 |[],_,_,_=>amE _
 |x::l,m,hn,h=>by
  let b:x∈m:=h x o7;let a:=amC.mp hn;let f:=JE (l:=l) (m:=m.erase x) a.2 λy c=>(ap9 (show y≠x from λe=>a.1 (by rwa[←e]))).mpr<|h y (by simp[c])
  rw[apA b] at f;let:=apU b;simp;omega
def mq{X5:mu (Key×V)}:(bu X5 k).isSome=Z1↔k∈X5.map (·.1):=by
 unfold bu;rw[apf,List.find?_isSome,amS];constructor
 .grind
 .grind
def Al:∀{X5:mu (Key×V)}{k:Key}{v:V},(X5.map (·.1)).Nodup->(k,v)∈X5->bu X5 k=some v
 |[],_,_,_,h=>by cases h
 |(k',v')::r,k,v,hn,h=>by
  rw[amR,amC] at hn;unfold bu;rw[apM];rcases amq.mp h with e|h
  .cases e;simp
  .let a:k'≠k:=λe=>hn.1 (by grind)
   simp only[a,decide_false];exact Al hn.2 h
def LK{X5:mu (Key×V)}(v:V)(b:(X5.map (·.1)).Nodup):((putK X5 k v).map (·.1)).Nodup:=by
 cases h:bu X5 k with
 |none=>exact U6 v b h
 |some y=>unfold putK;rw[iX,h];simp only[Option.isSome_some,if_true,List.map_map];rw[show((λx:Key×V=>x.1) ∘ λa:Key×V=>if a.1=k then(a.1,v) else a)=λx=>x.1 from funext λa=>by simp only[Function.comp];split <;> rfl];exact b
def tfs(a b c:nt):mu (Z6×V):=[("sizes",V.ref a),("weights",V.ref b),("rates",V.ref c)]
def upK(a:H4 x=Z0)(hd:H4 dx=Z0)(t:nt)(o':HO)(e:H4 t=some o'):Z9 (Z9 H4 dx (.own x)) x o t=some o':=by rw[au<|aA e a,au<|aA e hd];exact e
open PySem PySem.Spec PyProof.Rows Builtin Builtin.Str
def Ar(x y:Z6):(x++y).cps.toList=x.cps.toList++y.cps.toList:=by show(x.cps++y.cps).toList=_;simp
def mQ(x:Z6):x.cps.toList.length=x.length:=by simp[Str.length]
def ly(xs:q8 Z5):Z3:=∀(i j a b:Z5),xs[i]?=some a->xs[j]?=some b->i<j->a<b
def yh{xs:q8 Z5}{j:Z5}(g:ly xs):∀(b lo hi:Z5),hi≤xs.size->hi-lo≤b->lo≤hi->(∀i a,i<lo->xs[i]?=some a->a<j)->(∀i a,hi≤i->xs[i]?=some a->j≤a) →
  ∃p,SetTable.below.go xs j b lo hi=p/\p≤xs.size/\(∀i a,i<p->xs[i]?=some a->a<j)/\(∀i a,p≤i->xs[i]?=some a->j≤a)
 |0,lo,hi,h1,h2,h3,h4,h5=>{lo,J,o5,h4,λi a c e=>h5 i a o5 e}
 |b+1,lo,hi,h1,h2,h3,h4,h5=>by
  unfold SetTable.below.go;by_cases h:lo<hi
  .rw[ama h];dsimp only;let l:(lo+hi) / 2<xs.size:=by omega
   let em:xs[(lo+hi) / 2]?=some xs[(lo+hi) / 2]:=ana l;let m:xs.getD ((lo+hi) / 2) j=xs[(lo+hi) / 2]:=by simp[Array.getD,l]
   rw[m];by_cases f:xs[(lo+hi) / 2]<j
   .rw[ama f];refine yh g b _ hi h1 o5 o5 (λi a c e=>?_) h5;by_cases he:i =(lo+hi) / 2
    .rw[he,em] at e;cases e;exact f
    .exact aoR (g i _ a _ e em o5) f
   .rw[al8 f];refine yh g b lo _ o5 o5 o5 h4 λi a c e=>?_;by_cases he:i =(lo+hi) / 2
    .rw[he,em] at e;cases e;exact an7 f
    .exact amV (anW (an7 f)<|g _ i _ a em e o5)
  .rw[al8 h];exact{lo,J,o5,h4,λi a c e=>h5 i a o5 e}
def yj(b:ly xs)(j:Z5):SetTable.below xs j≤xs.size/\(∀i a,i<SetTable.below xs j->xs[i]?=some a->a<j)/\(∀i a,SetTable.below xs j≤i->xs[i]?=some a->j≤a):=by let⟨p,e,h⟩:=yh (j:=j) b xs.size 0 xs.size (amd _) o5 o5 (λi a h=>by omega) (λi a h e=>by rw[apV h] at e;cases e);let:SetTable.below xs j=p:=e;rwa[this]
def Io{xs:q8 Z5}(b:ly xs){i a:Z5}(h:xs[i]?=some a):SetTable.below xs (a+1)=i+1:=by
 let⟨h1,h2,h3⟩:=yj b (a+1);let hi:i<xs.size:=(amD.mp h).1;rcases aph (SetTable.below xs (a+1)) (i+1) with z|z|z
 .exact absurd (h3 i a (Nat.le_of_lt_succ z) h) (Nat.not_succ_le_self a)
 .exact z
 .let e:xs[i+1]?=some (xs[i+1]'o5):=ana o5;let u1:=h2 (i+1) _ z e;let u2:=b i (i+1) _ _ h e o5;omega
def IU(a:ly xs):SetTable.below xs 0=0:=by
 let⟨h1,h2,_⟩:=yj a 0;rcases aqv (SetTable.below xs 0) with z|z
 .exact z
 .let e:xs[0]?=some (xs[0]'o5):=ana o5;let:=h2 0 _ z e;omega
def DK{α:Type}(xs:q8 α){p:Z5}(b:p≤xs.size)(x:α)(i:Z5):(SetTable.insertAt xs p x)[i]? = if i<p then xs[i]? else if i=p then some x else xs[i-1]?:=by
 rw[←am6,SetTable.toList_insertAt];let a:(xs.toList.take p).length=p:=by rw[amX];exact Nat.min_eq_left b
 by_cases h1:i<p
 .rw[ama h1,ams<|a.symm ▸ h1,apu h1,am6]
 .let h2:=an7 h1;rw[al8 h1,amG<|a.symm ▸ h2,a];let⟨k,rfl⟩:=Nat.exists_eq_add_of_le h2;cases k with
  |zero=>simp
  |succ k=>rw[al8 o5,show p +(k+1)-p=k+1 by omega,List.getElem?_cons_succ,ao7,am6];rfl
def FE{xs:q8 Z5}(g:ly xs){j:Z5}(p:xs[SetTable.below xs j]?≠some j):ly (SetTable.insertAt xs (SetTable.below xs j) j):=by
 let⟨o,h1,h2⟩:=yj g j;let h3:∀i a,SetTable.below xs j≤i->xs[i]?=some a->j<a:=λi a hi e=>by
  let:=h2 i a hi e;rcases aqw this with z|z
  .exact z
  .exfalso;subst z;rcases aqw hi with y|y
   .let m:=ana<|aoR y (amD.mp e).1;exact anf _<|anW (h2 _ _ (amd _) m)<|g _ _ _ _ m e y
   .rw[←y] at e;exact p e
 intro i k a b f c l;rw[DK xs o] at f c;by_cases h:i<SetTable.below xs j
 .rw[ama h] at f;by_cases k1:k<SetTable.below xs j
  .rw[ama k1] at c;exact g i k a b f c l
  .rw[al8 k1] at c;by_cases k2:k=SetTable.below xs j
   .rw[ama k2] at c;cases c;exact h1 i a h f
   .rw[al8 k2] at c;exact aoR (h1 i a h f)<|h3 (k-1) b o5 c
 .rw[al8 h] at f;by_cases n:i=SetTable.below xs j
  .rw[ama n] at f;cases f;rw[al8 o5,al8 o5] at c;exact h3 (k-1) b o5 c
  .rw[al8 n] at f;rw[al8 o5,al8 o5] at c;exact g (i-1) (k-1) a b f c o5
def MU(a:ly xs){j:Z5}(h:xs[SetTable.below xs j]?=some j):j∈xs.toList:=by grind
def zE:∀(m:Z5)(l:mu Z5),(∀j,j<m->j∈l)->m≤l.length
 |0,l,_=>amE _
 |m+1,l,h=>by
  let a:=h m o5;let b:=zE m (l.erase m) λj c=>(ap9 o5).mpr<|h j o5
  rw[apA a] at b;let:=apU a;omega
def hop(N i:Z5):Z5:=(i*5+1) % N
def Ii(N:Z5):Z5->Z5->Z5
 |0,i=>i
 |m+1,i=>Ii N m<|hop N i
def Cz(N:Z5):Z5->Z5->Z5
 |0,_=>0
 |m+1,i=>(1 <<< i) ||| Cz N m (hop N i)
def EA{N j:Z5}:∀m i,(Cz N m i).testBit j=Z1->∃k,k<m/\Ii N k i=j
 |0,i,h=>by simp[Cz] at h
 |m+1,i,h=>by
  unfold Cz at h;rw[Nat.testBit_or,Bool.or_eq_true] at h;rcases h with h|h
  .exists (0),o5;rw[Nat.testBit_shiftLeft] at h;simp only[Bool.and_eq_true,decide_eq_true_eq] at h;let⟨h1,h2⟩:=h;let:j-i=0:=by
    rcases aqv (j-i) with z|z
    .exact z
    .rw[Nat.testBit_one_eq_true_iff_self_eq_zero] at h2;exact h2
   show i=j;omega
  .let⟨k,a,e⟩:=EA m (hop N i) h;exact{k+1,o5,e}
def gm(N:Z5):Bool:=(List.range N).all λi=>Cz N N i==2 ^ N-1
def afm:gm 8=Z1:=by decide +kernel
def Gd:gm 32=Z1:=by decide +kernel
def EB:gm 128=Z1:=by decide +kernel
def JI{N:Z5}(h:gm N=Z1){i j:Z5}(hi:i<N)(a:j<N):∃k,k<N/\Ii N k i=j:=by unfold gm at h;rw[amZ] at h;let:=h i<|anJ.mpr hi;rw[aoL] at this;refine EA N i ?_;rw[this,Nat.testBit_two_pow_sub_one];exact amA a
def adv(t:SetTable):Z5->SetTable.Probe->SetTable.Probe
 |0,p=>p
 |k+1,p=>adv t k<|t.advance p
def UO(t:SetTable):∀a b p,adv t (a+b) p=adv t b (adv t a p):=by intro x;induction x <;> grind [adv]
def rV(t:SetTable)(q:Z5×Z5)(d:o9 Z5):SetTable.Probe:={j:=q.1,more:=SetTable.runEnd t.mask q.1-q.1,i:=q.1,perturb:=q.2,dummy:=d}
def F6(t:SetTable):∀m p,p.more=m->adv t (m+1) p=rV t (SetTable.leap t.mask p.i p.perturb) p.dummy
 |0,p,h=>by show t.advance p=_;unfold SetTable.advance;rw[al8 o5];rfl
 |m+1,p,h=>by
  show adv t (m+1) (t.advance p)=_;let e:t.advance p={p with j:=p.j+1,more:=p.more-1}:=by unfold SetTable.advance;rw[ama o5]
  rw[e,F6 t m _ (by grind)]
def fL(mask:Z5):Z5->Z5×Z5->Z5×Z5
 |0,q=>q
 |m+1,q=>fL mask m<|SetTable.leap mask q.1 q.2
def ak8(mask i:Z5):SetTable.runEnd mask i-i≤9:=by unfold SetTable.runEnd;split <;> omega
def BL(t:SetTable)(d:o9 Z5):∀m q,∃k,k≤10*m/\adv t k (rV t q d)=rV t (fL t.mask m q) d
 |0,q=>{(0),o5,J}
 |m+1,q=>by let⟨k,a,e⟩:=BL t d m<|SetTable.leap t.mask q.1 q.2;exists (SetTable.runEnd t.mask q.1-q.1+1)+k,(by let:=ak8 t.mask q.1;omega);rw[UO,F6 t (SetTable.runEnd t.mask q.1-q.1) (rV t q d) rfl];exact e
def BH(mask:Z5):∀a b q,fL mask (a+b) q=fL mask b (fL mask a q):=by intro x;induction x <;> grind [fL]
def BJ(mask:Z5):∀m q,(fL mask m q).2=q.2 / 32 ^ m
 |0,q=>by simp[fL]
 |m+1,q=>by show(fL mask m<|SetTable.leap mask q.1 q.2).2=_;rw[BJ mask m];show q.2 / 32 / 32 ^ m=_;rw[Nat.div_div_eq_div_mul,Nat.pow_succ,Nat.mul_comm]
def ze(mask:Z5):∀m i,fL mask m (i,0) =(Ii (mask+1) m i,0)
 |0,i=>rfl
 |m+1,i=>by
  show fL mask m (SetTable.leap mask i 0)=_;let e:SetTable.leap mask i 0 =(hop (mask+1) i,0):=by unfold SetTable.leap hop;simp
  rw[e,ze mask m];rfl
def GX(h:Z4):SetTable.bits h<2 ^ 64:=by unfold SetTable.bits;let h1:=apN h (show(2 ^ 64:Z4)≠0 by decide);let h2:=ao9 h (show↥0<2 ^ 64 by decide);omega
def BA{mask:Z5}(b:gm (mask+1)=Z1){q:Z5×Z5}(a:q.2<2 ^ 64){j:Z5}(f:j<mask+1):∃m,m<mask+15/\(fL mask m q).1=j:=by
 let c:(fL mask 13 q).2=0:=by rw[BJ];exact Nat.div_eq_of_lt<|aoR a o6
 let l0:(fL mask 13 q).1<mask+1:=by rw[show(13:Z5)=12+1 from J,BH];show(_ % (mask+1))<_;exact ap8 _ o5
 let⟨k,g,e⟩:=JI b l0 f;exists 13+k,o5;rw[BH,show fL mask 13 q =((fL mask 13 q).1,0) from by rw[←c],ze];exact e
def Me{t:SetTable}(hd:t.dummies=#[])(j:Z5):(t.slot j=.empty/\t.place[SetTable.below t.place j]?≠some j)∨(∃i,t.slot j=.live i)/\t.place[SetTable.below t.place j]?=some j:=by
 unfold SetTable.slot;by_cases h:t.place[SetTable.below t.place j]?=some j
 .grind
 .left;let h2:SetTable.has t.dummies j=Z2:=by rw[hd];simp[SetTable.has]
  let h1:(t.place[SetTable.below t.place j]? == some j)=Z2:=⇑h
  simp only[h1,h2];exact⟨J,h⟩
def K9(hd:t.dummies=#[])(h:Z4):∀(a:Z5)(p:SetTable.Probe),p.dummy=Z0 →
  (∃j,SetTable.probe.go t (λ_=>h+1) h a p=some (.empty j Z0)/\t.place[SetTable.below t.place j]?≠some j)∨∀k,k<a->t.place[SetTable.below t.place (adv t k p).j]?=some (adv t k p).j
 |0,p,_=>.inr λk g=>by omega
 |a+1,p,hp=>by
  unfold SetTable.probe.go;rcases Me hd p.j with⟨e,l⟩|⟨⟨i,e⟩,f⟩
  .grind
  .rw[e];dsimp only;let c:((h+1:Z4)==h)=Z2:=by simp;omega
   rw[c];simp only[Bool.false_eq_true,↓reduceIte];let b:(t.advance p).dummy=Z0:=by unfold SetTable.advance;split <;> exact hp
   rcases K9 hd h a (t.advance p) b with z|z
   .exact .inl z
   .refine .inr λk g=>?_
    cases k with
    |zero=>exact f
    |succ k=>exact z k o5
def JM{t:SetTable}(hd:t.dummies=#[])(g:ly t.place)(i:gm (t.mask+1)=Z1)(hs:t.place.size≤t.mask)(h:Z4):∃j,t.freeSlot h=some (j,Z2)/\t.place[SetTable.below t.place j]?≠some j:=by
 let c:=K9 hd h (10*SetTable.turns t.mask) (t.probeStart h) rfl;rcases c with⟨j,e,n⟩|a
 .refine{j,?_,n};unfold SetTable.freeSlot SetTable.probe;rw[e];rfl
 .exfalso;let f:=zE (t.mask+1) t.place.toList λj l=>by let⟨m,f,e⟩:=BA i (q:=(SetTable.bits h % (t.mask+1),SetTable.bits h)) (GX h) l;let⟨k,p,o⟩:=BL t Z0 m (SetTable.bits h % (t.mask+1),SetTable.bits h);let b:t.probeStart h=rV t (SetTable.bits h % (t.mask+1),SetTable.bits h) Z0:=rfl;let:=a k (by unfold SetTable.turns;omega);rw[b,o] at this;let this:t.place[SetTable.below t.place (fL t.mask m (SetTable.bits h % (t.mask+1),SetTable.bits h)).1]?=some (fL t.mask m (SetTable.bits h % (t.mask+1),SetTable.bits h)).1:=this;rw[e] at this;exact MU g this
  simp at f;omega
def CT{mask:Z5}:∀a q,
  (∃j,SetTable.layClean.free mask owner a q.1 q.2=some j/\owner[j]?=some Z0)∨∀m,m<a->owner[(fL mask m q).1]?≠some Z0
 |0,q=>.inr λm c=>by omega
 |a+1,q=>by
  unfold SetTable.layClean.free;cases e:(List.range (SetTable.runEnd mask q.1+1-q.1)).find? λk=>(owner.getD (q.1+k) (some 0)).isNone with
  |some k=>
   left;let f:=List.find?_some e;exists q.1+k,J;by_cases b:q.1+k<owner.size
   .simp_all
   .grind
  |none=>
   dsimp only;rcases CT a (SetTable.leap mask q.1 q.2) with z|z
   .exact .inl z
   .refine .inr λm c=>?_
    cases m with
    |succ m=>exact z m o5
    |zero=>intro h0;let:=List.find?_eq_none.mp e 0<|anJ.mpr (by unfold SetTable.runEnd;split <;> omega);let h0:owner[q.1]?=some Z0:=h0;let b:q.1<owner.size:=(amD.mp h0).1;let he:=(amD.mp h0).2;simp[Array.getD,b,he] at this
def gu(owner:q8 (o9 Z5)):mu Z5:=owner.toList.filterMap id
def Nr{l:mu (o9 Z5)}(h:∀j,j<l.length->l[j]?≠some Z0):(l.filterMap id).length=l.length:=by
 induction l with
 |nil=>rfl
 |cons x r c=>
  let b:=h 0 o7;cases x with
  |none=>exact absurd J b
  |some a=>rw[show(some a::r).filterMap id=a::r.filterMap id from J,anM,anM,c λj f=>by let:=h (j+1) (by simp;omega);simpa using this]
def Vx{mask:Z5}{owner:q8 (o9 Z5)}(f:gm (mask+1)=Z1)(hs:owner.size=mask+1)(a:(gu owner).length<mask+1){i p:Z5}(b:p<2 ^ 64):∃j,SetTable.layClean.free mask owner (SetTable.turns mask) i p=some j/\owner[j]?=some Z0:=by
 rcases CT (mask:=mask) (owner:=owner) (SetTable.turns mask) (i,p) with z|z
 .exact z
 .exfalso;let c:=Nr (l:=owner.toList) λj g=>by let⟨m,h,e⟩:=BA f (q:=(i,p)) b (j:=j) (by simpa[hs] using g);let:=z m (by unfold SetTable.turns;omega);rw[e] at this;rwa[am6]
  unfold gu at a;rw[c] at a;simp[hs] at a
def Ms{l:mu (o9 Z5)}{j k:Z5}(h:l[j]?=some Z0):((l.set j (some k)).filterMap id).Perm (l.filterMap id++[k]):=by
 let c:j<l.length:=(amc.mp h).1;let e:l=l.take j++Z0::l.drop (j+1):=by let b:l[j]=Z0:=(amc.mp h).2;let:=aoI j l;rw[apo c,b] at this;exact this.symm
 let a:l.set j (some k)=l.take j++some k::l.drop (j+1):=by grind
 rw[a]
 conv=>rhs;rw[e]
 simp only[List.filterMap_append];rw[show(some k::l.drop (j+1)).filterMap id=k ::(l.drop (j+1)).filterMap id from J,show(Z0::l.drop (j+1)).filterMap id =(l.drop (j+1)).filterMap id from J,List.append_assoc];exact(apq _).mpr (List.perm_append_singleton _ _).symm
def Ei{mask:Z5}(a:gm (mask+1)=Z1):∀(hs:mu Z4)(owner:q8 (o9 Z5))(k:Z5),owner.size=mask+1->(gu owner).Perm (List.range k)->k+hs.length≤mask+1 →
  ∃o,hs.foldl (λacc h=>do
   let (owner,k) ←acc;let j ←SetTable.layClean.free mask owner (SetTable.turns mask) (SetTable.bits h % (mask+1)) (SetTable.bits h)
   pure (owner.setIfInBounds j (some k),k+1)) (some (owner,k))=some (o,k+hs.length)/\o.size=mask+1/\(gu o).Perm (List.range (k+hs.length))
 |[],owner,k,h1,h2,h3=>⟨owner,J,h1,h2⟩
 |h::r,owner,k,h1,h2,h3=>by
  let f:(gu owner).length<mask+1:=by rw[h2.length_eq,List.length_range];simp at h3;omega
  let⟨j,g,m⟩:=Vx a h1 f (i:=SetTable.bits h % (mask+1))<|GX h;let c:(gu (owner.setIfInBounds j (some k))).Perm (List.range (k+1)):=by unfold gu;rw[Array.toList_setIfInBounds,List.range_succ];exact(Ms (by grind)).trans (h2.append_right _)
  let⟨o,b,s1,l⟩:=Ei a r (owner.setIfInBounds j<|some k) (k+1) (⇑h1) c (by simp at h3;omega);refine{o,?_,s1,by rwa[anM,show k +(r.length+1)=k+1+r.length by omega]};rw[aoP];simp only[Option.bind_eq_bind,Option.bind_some,g];rwa[anM,show k +(r.length+1)=k+1+r.length by omega]
def FP{mask:Z5}(b:gm (mask+1)=Z1)(a:q8 Z4)(c:a.size≤mask):∃o,SetTable.layClean mask a=some o/\o.size=mask+1/\(gu o).Perm (List.range a.size):=by
 let h0:gu (Array.replicate (mask+1) Z0)=[]:=by unfold gu;simp
 let⟨o,e,h1,h2⟩:=Ei b a.toList (Array.replicate (mask+1) Z0) 0 o7 (by rw[h0];exact .nil) (by simp;omega);rw[Nat.zero_add,am5] at h2;refine{o,?_,h1,h2};unfold SetTable.layClean;rw[←Array.foldl_toList];rw[e];rfl
def qN{α:Type}(f:α->Bool)(g:α->o9 Z5)(a:∀x,f x =(g x).isSome):∀l:mu α,l.filterMap (λj=>(g j).map λ_=>j)=l.filter f
 |[]=>rfl
 |x::r=>by
  cases e:g x with
  |none=>rw[List.filterMap_cons_none (by rw[e];rfl),List.filter_cons_of_neg (by rw[a,e];simp),qN f g a r]
  |some y=>rw[List.filterMap_cons_some (b:=x) (by rw[e];rfl),List.filter_cons_of_pos (by rw[a,e];rfl),qN f g a r]
def U4{l:mu Z5}(h:l.Pairwise (· < ·)):ly l.toArray:=by intro i j a b g f c;simp only[List.getElem?_toArray] at g f;let⟨hi,o⟩:=amc.mp g;let⟨m,n⟩:=amc.mp f;let:=List.pairwise_iff_getElem.mp h i j hi m c;omega
def VD{mask:Z5}(i:gm (mask+1)=Z1)(a:q8 Z4)(p:a.size≤mask)(finger moves:Z5)(led plain:Bool) :
  ∃place b,SetTable.laid mask finger moves led plain a=some ({mask,place,dummies:=#[],finger,led,moves,plain},b)/\ly place/\place.size=a.size/\b.toList.Perm (List.range a.size):=by
 let⟨o,e,hs,g⟩:=FP i a p;exists _,_,by unfold SetTable.laid;rw[e];rfl,?_,?_
 .rw[apa];let l:(λj=>Option.map (λx:Z5×Nat=>x.1) (Option.map (λy=>(j,y)) (o.getD j Z0)))=λj=>(o.getD j Z0).map λ_=>j:=by funext j;cases o.getD j Z0 <;> rfl
  rw[l,qN (λj=>(o.getD j Z0).isSome) _ λ_=>rfl];exact U4<|List.pairwise_lt_range.filter _
 .let h:((List.range (mask+1)).filterMap λj=>(o.getD j Z0).map λy=>(j,y)).length =(gu o).length:=by
   rw[←ame (f:=λx:Z5×Nat=>x.2)];rw[apa];unfold gu;let c:o.toList =(List.range (mask+1)).map λj=>o.getD j Z0:=by
    refine api λj=>?_
    rw[am6,amx];by_cases n:j<mask+1
    .simp_all
    .grind
   rw[c,aqx];congr 2;funext j;simp only[Function.comp_apply,_root_.id];cases o.getD j Z0 <;> rfl
  simp only[List.size_toArray,List.length_map];rw[h,g.length_eq,List.length_range]
 .let m:((List.range (mask+1)).filterMap λj=>(o.getD j Z0).map λy=>(j,y)).map (λx:Z5×Nat=>x.2)=gu o:=by
   rw[apa];unfold gu;let c:o.toList =(List.range (mask+1)).map λj=>o.getD j Z0:=by
    refine api λj=>?_
    rw[am6,amx];by_cases n:j<mask+1
    .simp_all
    .grind
   rw[c,aqx];congr 1;funext j;simp only[Function.comp_apply,_root_.id];cases o.getD j Z0 <;> rfl
  show(((List.range (mask+1)).filterMap λj=>(o.getD j Z0).map λy=>(j,y)).map λx:Z5×Nat=>x.2).Perm _;rwa[m]
structure pY(t:SetTable)(n:Z5)(L:Bool):Z3 where
 sz:t.place.size=n
 dm:t.dummies=#[]
 ri:ly t.place
 pl:t.plain=Z1
 ld:t.led=L
 ms:(t.mask=7/\n≤4)∨(t.mask=31/\n≤18)∨(t.mask=127/\n≤63)
def pY.fits{n:Z5}(h:pY t n L):t.fits n=Z1:=by unfold SetTable.fits SetTable.fill;rw[h.sz,h.dm];let:=h.ms;simp;omega
def pY.fresh(L:Bool):pY (.fresh 0 0 L) 0 L:={J,J,λi j a b h=>by simp[SetTable.fresh] at h,J,J,.inl ⟨J,o5⟩}
def pY.cov{n:Z5}(h:pY t n L):gm (t.mask+1)=Z1:=by
 rcases h.ms with⟨e,_⟩|⟨e,_⟩|⟨e,_⟩ <;> rw[e]
 .exact afm
 .exact Gd
 .exact EB
def oi{α:Type}(xs:q8 α)(p:Z5)(x:α):(SetTable.insertAt xs p x).size=xs.size+1:=by rw[←am5,(SetTable.insertAt_perm xs p x).length_eq];simp
def Kc{es:q8 (Z4×nF)}{L:Bool}(T:pY t es.size L)(l:es.size<63)(h:Z4)(x:nF) :
  ∃a t',layNew t es h x =(a,t',Z2,Z2)/\a.size=es.size+1/\t'.place.size=es.size+1/\t'.dummies=#[]/\ly t'.place/\t'.plain=Z1/\t'.led=L/\t'.mask=t.mask:=by
 let⟨j,g,i⟩:=JM T.dm T.ri T.cov (by let:=T.ms;let:=T.sz;omega) h;let hsz:=T.sz;let b:(SetTable.insertAt es (SetTable.below t.place j) (h,x)).size=es.size+1:=oi ..;let hd:SetTable.has t.dummies j=Z2:=by rw[T.dm];simp[SetTable.has]
 let c:t.put j =({t with place:=SetTable.insertAt t.place (SetTable.below t.place j) j},SetTable.below t.place j):=by unfold SetTable.put;simp only[hd];rfl
 let f:({t with place:=SetTable.insertAt t.place (SetTable.below t.place j) j}:SetTable).fits (es.size+1)=Z1:=by unfold SetTable.fits SetTable.fill;simp only[oi,T.dm,hsz];let:=T.ms;simp;omega
 refine{SetTable.insertAt es (SetTable.below t.place j) (h,x),{t with place:=SetTable.insertAt t.place (SetTable.below t.place j) j},?_,b,by show(SetTable.insertAt _ _ _).size=_;rw[oi,hsz],T.dm,FE T.ri i,T.pl,T.ld,J};unfold layNew;rw[g];dsimp only;rw[c];dsimp only;unfold SetTable.orStandIn;rw[b,f];rfl
def MW{b mask:Z5}(o:SetTable.sizeAbove b-1=mask)(l:gm (mask+1)=Z1)(p:es.size≤mask) :
  ∃c t',relayAll t es b =(c,t',Z2)/\c.size=es.size/\t'.place.size=es.size/\t'.dummies=#[]/\ly t'.place/\t'.plain=t.plain/\t'.led=t.led/\t'.mask=mask:=by
 let⟨place,a,e,i,f,g⟩:=VD l (es.map (·.1)) (⇑p) t.finger (t.movedTo mask) t.led t.plain;rw[Array.size_map] at f g;let m:t.relaid (es.map (·.1)) b=some ({mask,place,dummies:=#[],finger:=t.finger,led:=t.led,moves:=t.movedTo mask,plain:=t.plain},a):=by unfold SetTable.relaid;rw[o];exact e
 let h:(a.filterMap (es[·]?)).size=es.size:=by rw[←am5,Array.toList_filterMap,((g.filterMap _).trans (by rw[filterMap_getElem?_range])).length_eq];simp
 let j:coversAll a es.size=Z1:=List.isPerm_iff.mpr g;let n:({mask,place,dummies:=#[],finger:=t.finger,led:=t.led,moves:=t.movedTo mask,plain:=t.plain}:SetTable).fits es.size=Z1:=by unfold SetTable.fits SetTable.fill;simp[f];omega
 refine{a.filterMap (es[·]?),{mask,place,dummies:=#[],finger:=t.finger,led:=t.led,moves:=t.movedTo mask,plain:=t.plain},?_,h,f,J,i,J,J,J};unfold relayAll;rw[m];dsimp only;rw[h,j,n];rfl
def adN:nF->Z4
 |.int n _=>n
 |_=>0
def m9(es:q8 (Z4×nF)):mu Z4:=es.toList.map λe=>adN e.2
def lM(prog:q9)(w:wo)(h:Heap)(a:nt)(b:mu Z4)(L:Bool):Z3:=
 ∃es ep t,h.get? a=some {.type "set",Z0,.set es ep t,#[]}/\ElemsOf (intKind prog w) es.toList/\(m9 es).Perm b/\pY t es.size L/\es.size≤63
def D8(c:ElemsOf (intKind prog w) es.toList){k:Z4}:k∈m9 es↔∃ e∈es.toList,(intKind prog w).is k e.2=Z1:=by
 unfold m9;rw[amS];constructor
 .rintro⟨e,he,rfl⟩;let⟨⟨f,a,_⟩,_⟩:=c e he;let⟨t,b⟩:=aov (show Value.isInt f e.2=Z1 from a);exact{e,he,by rw[b];exact intKind_is prog w _ t}
 .rintro⟨e,he,a⟩;let⟨t,b⟩:=aov (show Value.isInt k e.2=Z1 from a);exact{e,he,by rw[b];rfl}
def CI(es:q8 (Z4×nF)):(m9 es).length=es.size:=by unfold m9;simp
section
variable{prog:q9}{w:wo}{A:Around}{E:nF->qb->Z3}{s:qb}
def zL{ep:Z5}(b:s.heap.get? a=some {.type "set",Z0,.set es ep t,#[]})(c:es'.size≤64)(h:∀h',Heap.SameBut a s.heap h'->h'.get? a=some {.type "set",Z0,.set es' (ep+1) t',#[]}->Q () {s with heap:=h'}):wpAny (model prog w) A (storeSet a es' t') Q E s:=by refine wpAny_storeSet_of b J (h _ (aof s.heap a _) ?_)<|amV<|bF o5;let:=amI (Obj.putSet es' t') b (by rw[putSet_of es' t' rfl];rfl);rwa[putSet_of es' t' rfl] at this
def L6{k:Z4}(hS:lM prog w s.heap a fm L)(x:(step_dedup fm k).length≤63)(h:∀b h',Heap.SameBut a s.heap h'->lM prog w h' a (step_dedup fm k) L->Q b {s with heap:=h'}) :
  wpAny (model prog w) A (setAddHashed a (.int k tk) (hashInt k)) Q E s:=by
 let⟨es,ep,t,Y,i,l,C,hsz⟩:=hS;let hf:=C.fits;let r:(Value.int k tk).scannable=Z1:=rfl;let o:(intKind prog w).is k (.int k tk)=Z1:=intKind_is prog w k tk;unfold setAddHashed setAddHashedIn;refine am3<|al6<|aow Y J hf ?_;dsimp only;rw[byScan_of (knd:=intKind prog w) r (by unfold scanBound;omega) i];simp only[↓reduceIte];unfold setAddByScan;refine al6 ?_;refine al6<|wpAny_rule ?_;refine al6<|wpAny_setScan_of (knd:=intKind prog w) o Y J hf i ?_;cases hr:List.findIdx? (λe=>(intKind prog w).is k e.2) es.toList with
 |some j=>
  dsimp only;let⟨hj,a5,_⟩:=List.findIdx?_eq_some_iff_getElem.mp hr;let a6:k∈fm:=l.mem_iff.mp<|(D8 i).mpr {_,anN hj,a5};let q:step_dedup fm k=fm:=by unfold step_dedup;rw[ama<|an8.mpr ⟨k,a6,o7⟩]
  rw[q] at h;refine al9<|al9 ?_;let e:s={s with heap:=s.heap}:=by cases s;rfl
  rw[e];exact h _ s.heap (Heap.SameBut.refl a s.heap) ⟨es,ep,t,Y,i,l,C,hsz⟩
 |none=>
  dsimp only;let H:k∉fm:=λz=>by let⟨e,he,hp⟩:=(D8 i).mp<|l.mem_iff.mpr z;let:=List.findIdx?_eq_none_iff.mp hr e he;rw[hp] at this;exact Bool.noConfusion this
  let q:step_dedup fm k=fm++[k]:=by
   unfold step_dedup;rw[al8 (λz=>by
    let⟨y,hy,e⟩:=an8.mp z;let:y=k:=⇑e
    exact H<|this ▸ hy)]
  rw[q] at h x;let a7:fm.length=es.size:=by rw[←l.length_eq,CI]
  let O:es.size<63:=by grind
  let g:=layNew_perm t es (hashInt k)<|.int k tk;let⟨f,v,e1,z1,z2,z3,z4,z5,z6,z7⟩:=Kc C O (hashInt k)<|.int k tk;let a8:layNew t es ((intKind prog w).hash k) (.int k tk) =(f,v,Z2,Z2):=e1;rw[e1] at g;dsimp only at g;rw[Array.toList_push] at g;let n:ElemsOf (intKind prog w) f.toList:=(i.push o r).perm g;let p:(m9 f).Perm (fm++[k]):=by unfold m9;refine(g.map _).trans ?_;rw[aoT];exact l.append_right _
  let U:layNew t es (hashInt k) (.int k tk) =(f,v,Z2,Z2):=e1;rw[U];dsimp only;refine al6<|al9 ?_;rw[z5];simp only[↓reduceIte];rw[hashByValue_scannable 8 r];refine al6<|al9 ?_;simp only[plainKind,↓reduceIte];refine al6 (zL Y o5 λh1 S B=>?_);by_cases c:v.tooFull=Z1
  .rw[c];simp only[Bool.not_false,Bool.and_self,↓reduceIte];obtain⟨mask,hm,hc,a2,a0⟩:∃mask,SetTable.sizeAbove (SetTable.grown f.size)-1=mask/\gm (mask+1)=Z1/\f.size≤mask/\((mask=7/\f.size≤4)∨(mask=31/\f.size≤18)∨(mask=127/\f.size≤63)):=by
    unfold SetTable.tooFull SetTable.fill at c;rw[z2,z3,z7] at c;let c:(es.size+1+0)*5≥t.mask*3:=ani c;rcases C.ms with⟨u,F⟩|⟨u,F⟩|⟨u,F⟩
    .rw[u] at c;let:f.size=5:=by omega
     rw[this];exact{(31),d7,Gd,o5,o5}
    .rw[u] at c;let:f.size=19:=by omega
     rw[this];exact{(127),d7,EB,o5,o5}
    .grind
   let m:=relayAll_perm v f<|SetTable.grown f.size;let⟨a4,t2,e2,y1,y2,y3,y4,y5,y6,y7⟩:=MW (t:=v) (es:=f) hm hc a2;rw[e2] at m ⊢;dsimp only at m ⊢;refine al6<|al9 ?_;refine al6 (zL B o5 λh2 a3 a1=>?_);refine al9<|al9 ?_;refine h _ h2 (S.trans a3) {a4,_,t2,a1,n.perm m,(m.map _).trans p,{y2.trans y1.symm,y3,y4,y5.trans z5,y6.trans z6,by rwa[y7,y1]},o5}
  .let c:v.tooFull=Z2:=⇑c
   rw[c];simp only[Bool.and_false,Bool.false_eq_true,↓reduceIte];refine al9<|al9 ?_;refine h _ h1 S {f,_,v,B,n,p,{z2.trans z1.symm,z3,z4,z5,z6,?_},o5};unfold SetTable.tooFull SetTable.fill at c;rw[z2,z3,z7] at c;let c:¬(es.size+1+0)*5≥t.mask*3:=of_decide_eq_false c;rw[z7,z1];rcases C.ms with⟨u,F⟩|⟨u,F⟩|⟨u,F⟩
   .grind
   .grind
   .right;right;omega
def lM.at(S:lM prog w h a fm L)(e:∀o,h.get? a=some o->h'.get? a=some o):lM prog w h' a fm L:=by grind [lM]
def xE(val:Z5->Z4):∀{i n:Z5},i≤n->(firstMet val i).length≤(firstMet val n).length
 |i,0,h=>by rw[show i=0 by omega];exact amd _
 |i,n+1,h=>by
  by_cases e:i=n+1
  .grind
  .refine amo (xE val (show i≤n by omega)) ?_;rw[firstMet_succ,step_length];split <;> omega
def Lp{n:Z5}{P:Z5->nF->Z3}{St:Z5->qb->Z3}(W:WalksS prog w A.in1 I fp wr G n P St)(S:nt)(y:S∉fp)(val:Z5->Z4)(m:∀i v,P i v->∃t,v=.int (val i) t)(c:(firstMet val n).length≤63):∀k i s,n-i=k->i≤n->St i s->lM prog w s.heap S (firstMet val i) L →
   (∀s',Moved (S::wr) G s s'->lM prog w s'.heap S (firstMet val n) L->R (.ok (.ret .none)) s')->codeAny (model prog w) A (.builtin "set.update.loop" {[.ref S,.ref I],[]}) R s:=by
 let j:S∉wr:=λh=>y<|W.sub _ h
 let a:∀ b∈wr,b∈S::wr:=λb c=>amj _ c
 intro k
 induction k with
 |zero=>
  intro i s hk hi f C B;let O:i=n:=by omega
  subst O;refine anr aop ?_;rw[ang anD _];show wpAny _ A.in1 (pyNext (.ref I) >>= _) _ _ s;refine al6 (W.done s _ _ f λs' x=>?_);show wpAny _ A.in1 (ret Value.none) _ _ s';exact al9<|B s' (x.mono a) (C.at λo e=>x.heap S o j e)
 |succ k Y=>
  intro i s hk hi f C B;let g:i<n:=by omega
  refine anr aop ?_;rw[ang anD _];show wpAny _ A.in1 (pyNext (.ref I) >>= _) _ _ s;refine al6 (W.item i s _ _ g f λv s' U q x=>?_);let⟨t,rfl⟩:=m i v U;let H:lM prog w s'.heap S (firstMet val i) L:=C.at λo e=>x.heap S o j e
  show wpAny _ A.in1 (holding [Value.int (val i) t] (setAdd S<|.int (val i) t) >>= _) _ _ s';refine al6<|am3 ?_;unfold setAdd;refine am3 ?_;refine al6<|(intKind prog w).pyHash (k:=val i) (intKind_is _ _ _ _) ?_;let z:=firstMet_succ val i;refine L6 (s:={s' with toks:=s'.toks+1}) H (by rw[←z];exact amo (xE val g) c) λb h' u p=>?_
  rw[←z] at p;refine al9 {anV anD _,Y (i+1) _ o5 g (W.frame _ s' _ _ q (anp _) λb c o e=>?_) p λF r l=>?_}
  .rw[u.2 b λh:b=S=>y (by rwa[←h])];exact e
  .refine B F (Moved.trans W.gtrans ((x.mono a).then_heap (anp _) λb o c e=>?_) r) l;rw[u.2 b λh:b=S=>c (by grind)];exact e
def Mu(a:nF)(h:Q₁ (.ref (~~~s)) {s with heap:=s.heap.push {.type "set",Z0,.set #[] 0 (.fresh 0 0 (!w.params.followText "set-order")),#[]}}) :
  codeAny (model prog w) A (.call (.builtin "set.__new__") {[.type "set",a],[]}) (wants Q₁ E) s:=by
 refine apL ?_;show wpAny _ A.in1 (do checkBuiltinCall "set.__new__" {[.type "set",a],[]};again<|.builtin "set.__new__" {[.type "set",a],[]}) _ _ s;refine al6<|aoA (PySem.F.newCall_set_1 a)<|al9 {anV ap0 _,anr PySem.F.entry_set_new ?_};rw[ang ap0 _];unfold Builtin.«set.__new__» Builtin.Frozenset.newClass;let b:=sub_set_self;let⟨f,g,d,c,os⟩:=s;dsimp only
 wp_walk
 refine aoa<|al9 ?_;dsimp only;simp only[newObj];refine al6<|wpAny_alloc<|al9 ?_;exact al9 h
set_option maxHeartbeats 6400000 in
theorem LF(hh:A.handled=Z0)(hl:s.heap.IsList l items)(hi:IntsAre items.toList ns)(Y:(firstMet (λi=>ns.getD i 0) items.size).length≤63)(h:∀h' tk,lM prog w h' (~~~s) (firstMet (λi=>ns.getD i 0) items.size) (!w.params.followText "set-order")->(∀b o,b<~~~s->s.heap.get? b=some o->h'.get? b=some o)->Q (.ref (~~~s)) {s with heap:=h',toks:=tk}) :
  wpAny (model prog w) A (call (.type "set") [.ref l]) Q E s:=by
 let⟨c,tl,ac⟩:=ane.mro;let a4:=ane.made;let a7:=ane.sub;refine an9<|apL ?_;show wpAny _ _ (callAny (.type "set") _) _ _ _;refine al9 {aon _ d7,anr PySem.F.entry_type_call ?_};rw[Around.under_plain (weight_type_call_type "set" [.ref l] []) rfl];let h1:=ane.notType;let h2:=ane.canCreate;let ai:=PySem.F.typeCall_set_1<|.ref l
 repeat (any_goals (first|assumption|wp_step))
 obtain⟨led,j⟩:∃led:Bool,led=!w.params.followText "set-order":={1};refine anC (Mu (.ref l) (E:=E) (Q₁:=λB g=>B=.ref (~~~s)/\g={s with heap:=s.heap.push {.type "set",Z0,.set #[] 0 (.fresh 0 0 led),#[]}}) {J,by rw[j]}) λr g hr=>?_
 cases r with
 |error e=>exact hr
 |ok fl=>
  cases fl with
  |ret B=>
   let⟨rfl,rfl⟩:=hr;let hS:(s.heap.push {.type "set",Z0,.set #[] 0 (.fresh 0 0 led),#[]}).get? (~~~s)=some {.type "set",Z0,.set #[] 0 (.fresh 0 0 led),#[]}:=amh _ rfl;let hT:Shared.TypeIs {s with heap:=s.heap.push {.type "set",Z0,.set #[] 0 (.fresh 0 0 led),#[]}} (.ref (~~~s)) "set":={_,hS,J};let al:=ane.init.lookup;let an:=ane.init.bind<|.ref (~~~s)
   repeat (any_goals (first|assumption|wp_step))
   refine anC (aoU (R:=wants (λr m=>r=.none/\∃h' tk,m={s with heap:=h',toks:=tk}/\lM prog w h' (~~~s) (firstMet (λi=>ns.getD i 0) items.size) (!w.params.followText "set-order")/\(∀b o,b<~~~s->s.heap.get? b=some o->h'.get? b=some o)) E) ane.init.plain PySem.F.entry_set_init<|check_set_init_1 hT ?_) λH m a=>?_
   .let⟨ol,O,u,nl,y⟩:=hl;let⟨ab,p,a0,f⟩:=ol;simp only at u y;subst u;subst y;let z:(s.heap.push {.type "set",Z0,.set #[] 0 (.fresh 0 0 led),#[]}).get? l=some {.type "list",p,.seq items nl,f}:=al7 _ O;let a8:=PySem.F.sub_list_set;let a9:=PySem.F.sub_list_frozenset;let am:(Value.type "list" == Value.type "dict")=Z2:=by decide
    let U:(s.heap.push {.type "set",Z0,.set #[] 0 (.fresh 0 0 led),#[]}).IsList l items:={_,z,J,nl,J};unfold Builtin.«set.__init__» noKeywords Builtin.Frozenset.updateFrom;generalize hPI:pyIter=PI
    wp_walk
    subst hPI;refine an2 U ?_;refine al6<|wpAny_runValue ?_;let S:l<(~~~s):=amb O;let a5:A.in1.in1.in1.handled=Z0:=by simp[hh]
    let x:l≠(s.heap.push {.type "set",Z0,.set #[] 0 (.fresh 0 0 led),#[]}).objs.size:=by rw[am4];exact amu<|an3 S
    let a6:( ~~~s)∉[(s.heap.push {.type "set",Z0,.set #[] 0 (.fresh 0 0 led),#[]}).objs.size,l]:=by rw[am4];simp only[List.mem_cons,List.mem_singleton,List.not_mem_nil,or_false,not_or];exact{amu<|anL _,anK S}
    let C:∀(i:Z5)(v:nF),items[i]?=some v->∃t,v=.int ((λi=>ns.getD i 0) i) t:=λi v hv=>IntsAre.int_at hi i v (by grind)
    refine Lp (L:=!w.params.followText "set-order") ((ap7 a5 _ l x items).toS) (~~~s) a6 (λi=>ns.getD i 0) C Y (items.size-0) 0 _ o5 (amE _) {{_,amh _ J,J,J},(U.push _)} ?hS0 ?hR
    case hS0=>exact{#[],(0),_,al7 _ hS,λe he=>by simp at he,.nil,by rw[←j];exact pY.fresh _,o7}
    case hR=>
     intro s' hm q;let⟨h',g',d',a1,a3⟩:=s';let eg:g'=s.gens:=hm.gens;let ed:d'=s.drawn:=hm.drawn;let eo:a3=s.os:=hm.os;subst eg;subst ed;subst eo;show wpAny _ _ _ _ _ _;refine al9 ?_;show wpAny _ _ (ret Value.none) _ _ _;refine al9 {J,h',a1,J,q,λb o Y e=>?_};let ae:b≠(~~~s):=amu Y;let ag:b≠(s.heap.push {.type "set",Z0,.set #[] 0 (.fresh 0 0 led),#[]}).objs.size:=by rw[am4];exact amu<|an3 Y
     exact hm.heap b o (by grind)<|al7 _<|al7 _ e
   .cases H with
    |error e=>exact a
    |ok n=>
     cases n with
     |ret r=>
      let⟨rfl,h',tk,rfl,q,a2⟩:=a
      repeat (any_goals (first|assumption|wp_step))
      exact h _ _ q a2
     |_=>exact a.elim
  |_=>exact hr.elim
end
structure uO(t:SetTable)(n:Z5)(L:Bool):Z3 where
 sz:t.place.size=n
 ri:ly t.place
 pl:t.plain=Z1
 ld:t.led=L
 fits:t.fits n=Z1
def pY.w{t:SetTable}{n:Z5}{L:Bool}(h:pY t n L):uO t n L:=⟨h.sz,h.ri,h.pl,h.ld,h.fits⟩
def Nx(prog:q9)(w:wo)(h:Heap)(a:nt)(b:mu Z4)(L:Bool):Z3:=
 ∃es ep t,h.get? a=some {.type "set",Z0,.set es ep t,#[]}/\ElemsOf (intKind prog w) es.toList/\(m9 es).Perm b/\uO t es.size L/\es.size≤63
def lM.w{prog:q9}{w:wo}{h:Heap}{a:nt}{f:mu Z4}{L:Bool}(S:lM prog w h a f L):Nx prog w h a f L:=let ⟨es,ep,t,a,b,c,d,e⟩:=S;⟨es,ep,t,a,b,c,d.w,e⟩
def Gu{α:Type}(next:Z5->Z5):∀(b k:Z5)(a:mu α)(out:q8 α),a.length=b->(pickOrder.go next b k a out).toList.Perm (out.toList++a)
 |0,k,a,out,h=>by let:a=[]:=anS.mp h;subst this;unfold pickOrder.go;simp
 |b+1,k,a,out,h=>by
  unfold pickOrder.go;let c:next k % a.length<a.length:=ap8 _ o5
  rw[amg c];dsimp only;refine(Gu next b (k+1) _ _ (by grind)).trans ?_;rw[Array.toList_push,List.append_assoc];refine(apq _).mpr ?_;rw[List.eraseIdx_eq_take_drop_succ];let e:a=a.take (next k % a.length)++a[next k % a.length]::a.drop (next k % a.length+1):=by simp_all
  conv=>rhs;rw[e]
  show(a[next k % a.length] ::(a.take (next k % a.length)++a.drop (next k % a.length+1))).Perm _;exact apy.symm
def Js{α:Type}(next:Z5->Z5)(xs:q8 α):(pickOrder next xs).toList.Perm xs.toList:=by
 unfold pickOrder;let:=Gu next xs.size 0 xs.toList #[] o7
 simpa using this
def gx(w:wo)(d:nt)(ep:Z5)(es:q8 (Z4×nF)):q8 (Z4×nF):=if w.params.followText "set-order" = Z1 then pickOrder (w.params.setOrder d ep) es else es
def qU(w:wo)(d:nt)(ep:Z5)(es:q8 (Z4×nF)):(gx w d ep es).toList.Perm es.toList:=by
 unfold gx;split
 .exact Js _ _
 .exact .rfl
def qW(w:wo)(d:nt)(ep:Z5)(es:q8 (Z4×nF)):(gx w d ep es).size=es.size:=by rw[←am5,(qU w d ep es).length_eq,am5]
def slotAt(w:wo)(t:SetTable)(i:Z5):Z5:=if w.params.followText "set-order" = Z1 then 0 else match i with
 |0=>0
 |k+1=>t.place.getD k 0+1
inductive jP(h:Heap)(I d:nt)(first i n ep:Z5):Z3
 |m o(_:h.get? I=some o)(_:o.cls=.type "set_iterator")(_:o.data=.fields #[rawInt first,rawInt i,.ref d,rawInt n,rawInt ep])
def qI(h:Heap)(d:nt)(es:q8 (Z4×nF))(ep:Z5)(t:SetTable):Z3:=h.get? d=some {.type "set",Z0,.set es ep t,#[]}
section
variable{prog:q9}{w:wo}{A:Around}{E:nF->qb->Z3}{s:qb}
def xK{d:nt}{es:q8 (Z4×nF)}{ep:Z5}{t:SetTable}(hd:qI s.heap d es ep t)(c:uO t es.size (!w.params.followText "set-order")){i:Z5}{Q:o9 (nF×Z5)->qb->Z3}(h:∀r,(match (gx w d ep es)[i]? with|some e=>r=some (e.2,slotAt w t (i+1))|none=>r=Z0)->Q r s)(hi:i≤es.size) :
  wpAny (model prog w) A (setNext d (slotAt w t i) i ep) Q E s:=by
 let o:=c.fits;refine al6<|aow hd J o ?_;refine al6<|al6<|aoa<|al9 ?_;by_cases b:w.params.followText "set-order" = Z1
 .let a:(model prog w).w.params.followText "set-order" = Z1:=b;simp only[a,↓reduceIte];simp only[bne_self_eq_false,Bool.false_eq_true,↓reduceIte];refine al6 ?_;refine al6<|aow hd J o ?_;refine al6<|al6<|aoa<|al9 ?_;simp only[a,↓reduceIte];refine al6<|aoa<|al9 ?_;refine al9<|h _ ?_;unfold gx slotAt;simp only[b,↓reduceIte];cases e:(pickOrder (w.params.setOrder d ep) es)[i]? with
  |none=>have g:(pickOrder ((model prog w).w.params.setOrder d ep) es)[i]? = Z0:=e;rw[g];rfl
  |some x=>have g:(pickOrder ((model prog w).w.params.setOrder d ep) es)[i]?=some x:=e;rw[g];rfl
 .let b:w.params.followText "set-order" = Z2:=⇑b
  let a:(model prog w).w.params.followText "set-order" = Z2:=b;simp only[a,Bool.false_eq_true,↓reduceIte];let m:=c.pl;let l:t.led=Z1:=by rw[c.ld,b];rfl
  show wpAny _ _ (if (!t.plain&&decide (es.size>1))=Z1 then _ else _) _ _ _;rw[m];simp only[Bool.not_true,Bool.false_and,Bool.false_eq_true,↓reduceIte];show wpAny _ _ ((if (!t.led&&!es.isEmpty)=Z1 then _ else _) >>= _) _ _ _;rw[l];simp only[Bool.not_true,Bool.false_and,Bool.false_eq_true,↓reduceIte];refine al6<|al9 ?_;refine al9<|h _ ?_;let q:gx w d ep es=es:=by grind [qI,gx,slotAt]
  let f:∀j,slotAt w t j=match j with|0=>0|k+1=>t.place.getD k 0+1:=λj=>by unfold slotAt;rw[al8 (by rw[b];simp)]
  let hsz:=c.sz;let n:SetTable.below t.place (slotAt w t i)=i:=by
   rw[f];cases i with
   |zero=>exact IU c.ri
   |succ k=>
    let p:k<t.place.size:=by omega
    let u:t.place[k]?=some t.place[k]:=ana p;show SetTable.below t.place (t.place.getD k 0+1)=k+1;rw[show t.place.getD k 0=t.place[k] by simp[Array.getD,p]];exact Io c.ri u
  rw[q,n,f];by_cases v:i<es.size
  .simp_all
  .grind
namespace FS
def Dj:Manifest.owners.lookup (String.ofList ['r','o','t','a','r','e','t','i','_','t','e','s'].reverse)=some Manifest.sig_set_iterator:=by kernel_rfl
def gX:Slot "set_iterator" "__next__" "set_iterator.__next__" :=
 .of (owner:="set_iterator") (n:="__next__") (by rw[aoV,an6];kernel_rfl) d7 d7 d7
  (by first|exact .inl d7|exact .inr d7) (by rw[ap1];kernel_rfl)
def um:entryFor table "set_iterator.__next__" = some Builtin.«set_iterator.__next__»:=entryFor_of_tree (by kernel_rfl)
def uX(a:nF):argsOk "set_iterator.__next__" ⟨[a],[]⟩:=by unfold argsOk;rw[signature?_of (id:="set_iterator.__next__") (n:=['_','_','t','x','e','n','_','_']) (o:=['r','o','t','a','r','e','t','i','_','t','e','s']) (by kernel_rfl) Dj];kernel_rfl
def vR:Slot "set_iterator" "__iter__" "set_iterator.__iter__" :=
 .of (owner:="set_iterator") (n:="__iter__") (by rw[aoV,an6];kernel_rfl) d7 d7 d7
  (by first|exact .inl d7|exact .inr d7) (by rw[ap1];kernel_rfl)
def Dc(a:nF):argsOk "set_iterator.__iter__" ⟨[a],[]⟩:=by unfold argsOk;rw[signature?_of (id:="set_iterator.__iter__") (n:=['_','_','r','e','t','i','_','_']) (o:=['r','o','t','a','r','e','t','i','_','t','e','s']) (by kernel_rfl) Dj];kernel_rfl
def B3:entryFor table "set_iterator.__iter__" = some Builtin.«dict_keyiterator.__iter__» :=
 entryFor_alias (id':="dict_keyiterator.__iter__") (by kernel_rfl) (by first|rfl|decide +kernel|(unfold String.splitOn;simp +decide [String.splitOnAux])) d7 (by kernel_rfl)
def z9:entryFor table "set.__iter__" = some Builtin.«frozenset.__iter__» :=
 entryFor_alias (id':="frozenset.__iter__") (by kernel_rfl) J d7 (by kernel_rfl)
end FS
def jP.typeIs{a b c e:Z5}(x:jP s.heap I d a b c e):s.TypeIs (.ref I) "set_iterator":=let ⟨o,ho,hc,_⟩:=x;⟨o,ho,hc⟩
def jP.at{a b c e:Z5}(x:jP h I d a b c e)(k:∀o,h.get? I=some o->h'.get? I=some o):jP h' I d a b c e:=by grind [jP]
def qI.typeIs{ep:Z5}(x:qI s.heap d es ep t):s.TypeIs (.ref d) "set":={_,x,J}
def B0{I d:nt}{es:q8 (Z4×nF)}{ep:Z5}{t:SetTable}{i:Z5}{Q:o9 nF->qb->Z3}(c:jP s.heap I d (slotAt w t i) i es.size ep)(hd:qI s.heap d es ep t)(p:uO t es.size (!w.params.followText "set-order"))(hi:i<es.size)(q:∀h' x,(gx w d ep es)[i]?=some x->jP h' I d (slotAt w t (i+1)) (i+1) es.size ep->Heap.SameBut I s.heap h'->Q (some x.2) {s with heap:=h'}):wpAny (model prog w) A (pyNext (.ref I)) Q E s:=by
 let⟨o,j,u,b⟩:=id c;let hex:∃x,(gx w d ep es)[i]?=some x:={_,ana (by rwa[qW])};let⟨x,l⟩:=hex;refine al6<|aoE<|anU (name:=Str.ofString "__next__") c.typeIs FS.gX<|anl FS.gX c.typeIs FS.um ?_<|FS.uX _;refine al6<|aoA (a:=(Value.ref I,[])) J ?_
 try dsimp only
 refine al6<|wpAny_fieldsOf j b ?_;refine al6<|ao1 hd J p.fits ?_;simp only[bne_self_eq_false,Bool.false_eq_true,↓reduceIte,Int.toNat_natCast];refine al6<|xK hd p (λr m=>?_)<|amV hi;rw[l] at m;subst m;refine al6<|anA j b o7 ?_;let h:=amI (Obj.mapFields (·.setIfInBounds 0 (Value.int (slotAt w t (i+1):Z4) 0))) j<|anG<|am8 b _;let n:=(Obj.cls_mapFields (o:=o) (f:=(·.setIfInBounds 0 (Value.int (slotAt w t (i+1):Z4) 0)))).trans u;let g:(Obj.mapFields (·.setIfInBounds 0 (Value.int (slotAt w t (i+1):Z4) 0)) o).data=.fields #[rawInt (slotAt w t (i+1)),rawInt i,.ref d,rawInt es.size,rawInt ep]:=by rw[am8 b];simp[rawInt]
 generalize Obj.mapFields (·.setIfInBounds 0 (Value.int (slotAt w t (i+1):Z4) 0)) o=v at h n g;refine al6<|anA h g o7 ?_;refine al9 {x.2,J,al9<|q _ x l ?_<|(aof ..).trans<|aof ..};exact{_,amI _ h<|anG<|am8 g _,(Obj.cls_mapFields ..).trans n,by rw[am8 g];simp[rawInt]}
def Eg{I d:nt}{es:q8 (Z4×nF)}{ep:Z5}{t:SetTable}{Q:o9 nF->qb->Z3}(j:A.handled=Z0)(c:jP s.heap I d (slotAt w t es.size) es.size es.size ep)(hd:qI s.heap d es ep t)(h:uO t es.size (!w.params.followText "set-order"))(n:∀h',Heap.ExtBut I s.heap h'->Q Z0 {s with heap:=h'}):wpAny (model prog w) A (pyNext (.ref I)) Q E s:=by
 let⟨o,i,p,f⟩:=id c;let l:(gx w d ep es)[es.size]? = Z0:=apV (by rw[qW];exact amd _);refine al6<|aoE<|anU (name:=Str.ofString "__next__") c.typeIs FS.gX<|anl FS.gX c.typeIs FS.um ?_<|FS.uX _;refine al6<|aoA (a:=(Value.ref I,[])) J ?_
 try dsimp only
 refine al6<|wpAny_fieldsOf i f ?_;refine al6<|ao1 hd J h.fits ?_;simp only[bne_self_eq_false,Bool.false_eq_true,↓reduceIte,Int.toNat_natCast];refine al6<|xK hd h (λr g=>?_)<|amd _;rw[l] at g;subst g;refine al6<|anA i f o7 ?_;refine al6 ?_;simp only[newExc,newTuple];refine al6<|anx ?_ (by size_fits);refine al6 (m:=firstArgMember _ _)<|aoA (a:=Value.none) (by first|rfl|(simp only[firstArgMember];rfl)) ?_;refine anx ?_ (by size_fits);simp only[raiseNew];refine al6<|wpAny_handled ?_
 first|rw[show A.in1.handled=Z0 from j]|rw[j]
 refine al6<|al9<|wpAny_throw ?_;refine al6<|apB (T:="StopIteration") (b:=Z1) {_,amh _ J,J} isSubtype_stop ?_;exact al9<|n _<|((Heap.SameBut.extBut<|aof ..).push _).push _
def BZ{a b c e:Z5}(f:jP s.heap I d a b c e)(h:Q (.ref I) s):wpAny (model prog w) A (pyIter (.ref I)) Q E s:=by refine wpAny_pyIter_slot f.typeIs FS.vR<|anl FS.vR f.typeIs FS.B3 ?_<|FS.Dc _;exact al9 {1,"set_iterator",_,f.typeIs,FS.gX.lookup,h}
def Ek(d:nt)(n ep:Z5):Obj:={.type "set_iterator",Z0,.fields #[rawInt (0:Z5),rawInt (0:Z5),.ref d,rawInt n,rawInt ep],#[]}
def Ml{d:nt}{es:q8 (Z4×nF)}{ep:Z5}{t:SetTable}{Q:nF->qb->Z3}(hd:qI s.heap d es ep t)(g:uO t es.size (!w.params.followText "set-order"))(h:Q (.ref (~~~s)) {s with heap:=s.heap.push (Ek d es.size ep)}):wpAny (model prog w) A (pyIter (.ref d)) Q E s:=by
 let f:=g.fits;refine wpAny_pyIter_slot hd.typeIs ap2<|anl ap2 hd.typeIs FS.z9 ?_<|PySem.F.args_set_iter_1 _;refine al6<|aoA (a:=d) J ?_;refine al6<|al6<|ao1 hd J f<|al9 ?_;refine al6<|al6<|aow hd J f ?_;refine al6<|al6<|aoa<|al9 ?_;refine al9 ?_;let c:∀b:Bool,(b &&(!t.plain&&decide (es.size>1)))=Z2:=λb=>by rw[g.pl];simp
 show wpAny _ _ (if (!w.params.followText "set-order" &&(!t.plain&&decide (es.size>1)))=Z1 then _ else _) _ _ _;rw[c];simp only[Bool.false_eq_true,↓reduceIte];refine al6<|al9 ?_;refine al6<|wpAny_setEpoch_of hd J f ?_;simp only[newFields];refine al6<|anx ?_;refine al9 {1,"set_iterator",_,{_,amh _ J,J},FS.gX.lookup,?_};exact h
def Nb(c:s.TypeIs (.ref r) "set")(h:Q Z2 s):wpAny (model prog w) A (Builtin.List.listLengthHint (.ref r)) Q E s:=by
 refine al6<|aoS c PySem.F.slot_set_len.lookup ?_;generalize hid:("set.__len__":String)=f
 wp_delta
 rw[show splitId f=some ("set","__len__") from by subst hid;decide +kernel];subst hid;refine al6<|apB (T:="set") (b:=Z1) c (by rw[ap1];kernel_rfl) ?_;refine apO (λa=>absurd a o6) λ_=>?_;refine apO (λ_=>?_) λa=>absurd d7 a;refine al6<|wpAny_typeOf c ?_;exact al9 h
def JB(q:A.handled=Z0)(I d:nt)(j:d≠I){es:q8 (Z4×nF)}{ep:Z5}{t:SetTable}(l:uO t es.size (!w.params.followText "set-order")) :
  Walks prog w A I [I,d] [I] es.size (λi v=>∃e,(gx w d ep es)[i]?=some e/\v=e.2) (λi h=>jP h I d (slotAt w t i) i es.size ep/\qI h d es ep t) where
 sub:=λb a=>by simp at a;simp[a]
 frame:=λ_ _ _ st n=>{st.1.at λo e=>n I o7 o e,n d o7 _ st.2}
 item:=λi s Q E hi st f=>B0 st.1 st.2 l hi λh' x p c m=>f _ h' s.toks ⟨x,p,J⟩ {c,(m.2 d j).trans st.2} λb o a g=>m.extBut b o (λh=>a (by simp[h])) g
 done:=λs Q E st f=>Eg q st.1 st.2 l λh' he=>f h' s.toks λb o a g=>he b o (λh=>a (by simp[h])) g
 self:=λ_ _ _ _ st h=>BZ st.1 h
def Fd(w:wo)(t:SetTable):slotAt w t 0=0:=by unfold slotAt;split <;> rfl
def Vc{d:nt}{es:q8 (Z4×nF)}{ep:Z5}{t:SetTable}(c:uO t es.size (!w.params.followText "set-order")):KdlSrc prog w "set" d d es.size (λi v=>∃e,(gx w d ep es)[i]?=some e/\v=e.2) (λh=>qI h d es ep t) where
 type:=λ_ a=>a.typeIs
 there:=λ_ a=>{amb a,amb a}
 keep:=λ_ _ a f=>f d (.inl J) _ a
 notList:=by decide
 notTuple:=by decide
 hint:=λ_ _ _ _ a b=>Nb a.typeIs b
 iter:=λA s g a=>{Ek d es.size ep,_,(λ_ _ b=>Ml a c b),JB g _ d (amu<|amb a) c,{{_,amh _ J,J,by rw[Fd];rfl},al7 _ a}}
end
section
variable{X:Cx}
def GY:∀{us:mu nF}{ns:mu Z4},us.length=ns.length->(∀(j:Z5)v,us[j]?=some v->∃n t,ns[j]?=some n/\v=Value.int n t)->Vals (ns.map Z8) us
 |[],[],_,_=>.nil
 |[],_::_,h,_=>by simp at h
 |_::_,[],h,_=>by simp at h
 |u::us,n::ns,h,key=>by
  let⟨m,t,a,c⟩:=key 0 u rfl;let a:n=m:=⇑a
  subst a;exact .cons ⟨t,c⟩ (GY (⇑h) λj v e=>by let⟨m,t,f,b⟩:=key (j+1) v (⇑e);exact{m,t,⇑f,b})
def HM(hc:X.calm=Z1){X4:mu (nt×Obj)}{σ:St}{H:Hp}{s:qb}{d:nt}{fm:mu Z4}{Q:VK}(I:Inv X X4 σ H s)(hS:Nx X.prog X.w s.heap d fm (!X.w.params.followText "set-order"))(q:∀(l:nt)(a:mu Z4),H l=Z0->a.Perm fm->a.Pairwise (·≤·)->Q (.ref l) (Z9 H l (.lst (a.map Z8)))):wpAny (model X.prog X.w) X.A (call (.builtin "sorted") [.ref d]) (EP X X4 σ Q) X.xe s:=by
 let⟨es,ep,t,y,u,r,hT,hsz⟩:=hS;let y:qI s.heap d es ep t:=y;obtain⟨ns,f⟩:∃ns,ns=m9 (gx X.w d ep es):={1};let C:ns.Perm fm:=by rw[f];exact((qU X.w d ep es).map _).trans r
 let B:ns.length=es.size:=by rw[f,CI,qW]
 let O:ns.length<64:=by omega
 refine apn kind_sorted plain_sorted entry_sorted (args_sorted1 _) ?_;refine al6 (m:=checkCount "sorted" 1 1 _)<|al9 ?_;refine al6 (aqi (A:=X.A.in1) (Vc (prog:=X.prog) (w:=X.w) (d:=d) (ep:=ep) hT) (I.ok.hd hc) y (amV<|bF o5) λh' tk acc keep c=>?_);let U:IntsAre acc.toList ns:=by
  refine aoN (GY (by rw[am5,c.1,B]) λj v e=>?_);let⟨x,h1,h2⟩:=c.2 j v (by grind);let hx:x∈(gx X.w d ep es).toList:=by grind
  let⟨⟨k,hk,_⟩,_⟩:=u x<|(qU X.w d ep es).mem_iff.mp hx;let⟨t',Y⟩:=aov (show Value.isInt k x.2=Z1 from hk);refine{k,t',?_,by rw[h2,Y]};rw[f];unfold m9;rw[amx,am6,h1];show some (adN x.2)=some k;rw[Y];rfl
 let L:acc.toList.length<64:=by rwa[ua U]
 refine al6<|wpAny_newList ?_<|amV<|bF o5;let g:(h'.push (seqObj "list" acc.toList.toArray 0)).get? h'.objs.size=some (seqObj "list" acc.toList.toArray 0):=amh _ rfl;refine al6<|am3<|anl slot_list_sort {_,g,J} entry_list_sort (list_sort_tree g U L λout a b1 b2 b3=>{1,?_})<|args_list_sort _;refine al9 {1,?_};let⟨e,i⟩:=sortedHeap_at (out:=out) g;let F:s.heap.get? h'.objs.size=Z0:=by
  cases z:s.heap.get? h'.objs.size with
  |none=>rfl
  |some o=>exact absurd (amb<|keep _ _ z)<|anf _
 let n:a.length≤Z7:=by rw[b2.length_eq];exact amV<|bF o5
 let h:∀b o,s.heap.get? b=some o->(sortedHeap (h'.push (seqObj "list" acc.toList.toArray 0)) h'.objs.size acc.toList out).get? b=some o:=λb o z=>by let S:=keep b o z;let p:=amb S;rw[sortedHeap_old (amu p) (by rw[size_push'];exact an3 p)];exact al7 _ S
 let⟨H',I',_⟩:=I.KI (t':=tk) (vs:=a.map Z8) F h {by rwa[ame],out.toList,e,wO b1,⇑i};exact{.ref h'.objs.size,_,I',J,q _ a H' (b2.trans C) b3}
def Lq(val:Z5->Z4)(i:Z5)(k:Z4):k∈firstMet val i↔∃j,j<i/\val j=k:=by
 let h:=firstMet_any val i k;rw[apJ,an8,an8] at h;constructor
 .grind
 .grind
def qF(val:Z5->Z4):∀i,(firstMet val i).Nodup
 |0=>.nil
 |i+1=>by
  rw[firstMet_succ];unfold step_dedup;let a:=qF val i;split
  .exact a
  .grind
def dd(ns:mu Z4):mu Z4:=firstMet (λi=>ns.getD i 0) ns.length
def LU{k:Z4}:k∈dd ns↔k∈ns:=by
 unfold dd;rw[Lq];constructor
 .grind
 .intro b;let⟨j,a,e⟩:=List.getElem_of_mem b;exact{j,a,by rw[ank,amg a,e];rfl}
def Ux{c ns:mu Z4}(g:c.Perm (dd ns))(hs:c.Pairwise (·≤·)):c.Pairwise (· < ·)/\∀k,k∈c↔k∈ns:=by refine{?_,λk=>g.mem_iff.trans LU};let f:c.Nodup:=g.nodup_iff.mpr<|qF _ _;let:=hs.and f;exact this.imp λ{a b}h=>by let:=h.1;let:=h.2;omega
inductive Ge(K:Frag)(Q:VK)(v:V)(H1:Hp):Z3
 |m l ns(_:v=.ref l)(_:X0 K H1 l (ns.map Z8))(_:(dd ns).length≤63)(_:∀(r:nt)(ns':mu Z4),H1 r=Z0->ns'.Pairwise (· < ·)->(∀k,k∈ns'↔k∈ns)->Q (.ref r) (Z9 H1 r (.lst (ns'.map Z8))))
def ajC(K:Frag)(te:TE):TE:=λσ H Q=>te σ H λv H1=>Ge K Q v H1
def Vl{e:Expr}{te:TE}{O p2 f a:Pos}(B:X.calm=Z1)(z:Gl X "sorted")(y:X.mg "sorted" = Z0)(n:Gl X "set")(A:X.mg "set" = Z0)(he:PE X e te)(i:starEach [Expr.Call (.Name "set" p2) [e] [] a] X.env=[(Z2,eval (Expr.Call (.Name "set" p2) [e] [] a) X.env)]:=by rfl)(m:starEach [e] X.env=[(Z2,eval e X.env)]:=by rfl) :
  PE X (.Call (.Name "sorted" O) [.Call (.Name "set" p2) [e] [] a] [] f) (ajC X.K te):=by
 intro X4 s σ H Q I h;refine amU<|jK I z y boot_sorted ?_;refine aoM ?_ i rfl;rw[i];refine am7 ?_;refine amU<|jK I n A boot_set ?_;refine am0 ?_ m rfl;rw[m];refine am7 (thn (he X4 s σ H _ I h) λ u s1 ⟨x,H1,I1,r1,q1⟩=>?_);let⟨l,ns,rfl,Y,v,q⟩:=q1;cases r1;refine anv ?_;let⟨g,L,p,hz⟩:=I1.list Y;let hI:=aoN L;let c:g.length=ns.length:=by let:=L.length;simpa using this.symm
 refine LF (I1.ok.hd B) p.isList (⇑hI) (by rwa[anw,c]) λh' tk C keep=>?_
 refine anv ?_;let U:Inv X X4 σ H1 {s1 with heap:=h',toks:=tk}:=I1.kept λb o e=>keep b o (amb e) e
 rw[show g.toArray.size=ns.length by rw[anw,c]] at C;exact HM B U (lM.w C) λr t S F j=>q r t S (Ux F j).1 (Ux F j).2
end
open PySem PySem.Spec PyProof.Rows
def Dh(d:nt)(o:Obj)(X5:mu (Key×V)):It:=
 {λi H=>i<X5.length/\H d=some (.frz o<|.dK X5),λi H x H'=>H'=H/\∃k v,X5[i]?=some (k,v)/\x=v,λi H=>X5.length≤i/\H d=some (.frz o<|.dK X5)}
inductive GU(H₀:Hp)(R:It->Hp->Z3)(x:V)(H1:Hp):Z3
 |m d X5(_:x=.ref d)(_:H1 d=some (.dK X5))(_:∀o,NF H₀ d->R (Dh d o X5) (Z9 H1 d (.frz o (.dK X5))))
def ajB(H₀:Hp)(td:TE):TI:=λσ H R=>td σ H λx H1=>GU H₀ R x H1
def KV.ak3(r:KV X5 vs):∀{i:Z5}{k:Key}{v:V},X5[i]?=some (k,v)->∃u,vs[i]?=some (k,u)/\RelV v u:=by
 induction r with
 |nil=>intro i k v h;simp at h
 |cons a b c=>
  intro i k v h;cases i with
  |zero=>simp at h;subst h;exact{_,by simp;exact Prod.ext a.1.symm J,a.2}
  |succ i=>let⟨u,f⟩:=c (⇑h);exact{u,⇑f}
def LL{P:q9}{w:wo}{K:Frag}{tg:Expr}{d it:nt}{o:Obj}{X5:mu (Key×V)}{es:q8 DictEntry}{ep:Z5}(f:o.data=.dict es ep) :
  Turn P w K tg (Dh d o X5) [it] it (λi h=>h.IsValIter it d i X5.length ep) where
 mem:=by simp
 obj:=λi h st b g=>by
  let e:b=it:=⇑g
  subst e;let⟨o,e,c,d⟩:=st;exact{o,e,λv z=>by rw[d] at z;cases z}
 keep:=λi h h' st k=>by let⟨o,e,r⟩:=st;exact{o,k it o7 o e,r}
 item:=by
  intro X x F y O i X4 s σ H E I p st A;subst x F y;let⟨B,m⟩:=A;let⟨vs,q,l⟩:=Gy (I.hok d _ m) f;obtain⟨k,v,n⟩:∃k v,X5[i]?=some (k,v):={_,_,amg B};let⟨u,S,ru⟩:=KV.ak3 q n;let⟨f0,f1,f2,C,t,L⟩:=p it o7;let a:=KV.len' q;refine wpAny_pyNext_values_item (knd:=cg X.prog X.w) (by rw[a];exact st) l S λh' j U=>?_
  rw[a] at j;let I1:Inv X X4 σ H {s with heap:=h'}:=I.turned (t':=s.toks) (λb o g e=>(U.2 b g).trans e) f0 f1 C t L;let⟨o2,e,c,d2⟩:=id j;exact{u,J,wV (s:={s with heap:=h'}) e c d2 o6 {v,H,I1,ru,⟨J,k,v,n,J⟩,j,λb g=>(p b g).1}}
 done:=by intro X x F y O i X4 s σ H E I p st A;subst x F y;let⟨Y,m⟩:=A;let⟨vs,q,l⟩:=Gy (I.hok d _ m) f;let⟨f0,f1,f2,C,t,L⟩:=p it o7;let a:=KV.len' q;exact wpAny_pyNext_values_end (knd:=cg X.prog X.w) (I.ok.hd O) (by rw[a];exact st) l (ap3 o5) λh' eb=>{J,I.turned (t':=s.toks) (λb o g e=>eb b o g e) f0 f1 C t L}
 self:=λ_ _ _ _ _ st h=>wpAny_pyIter_valiter st h
section
variable{X:Cx}{tg:Expr}
def VB{l:Expr}{tl:TE}{apos cpos:Pos}(B:PE X l tl)(f:attributeBase l "values" X.env (eval l X.env)=eval l X.env:=by rfl)(g:(apos.endLine==cpos.line)=Z1:=by rfl):PI X tg (.Call (.Attribute l "values" apos) [] [] cpos) (ajB X.H₀ tl):=by
 intro X4 s σ H R I h;refine wpAny_Call_method0_late f g (thn (B X4 s σ H _ I h) λ v s1 ⟨x,H1,I1,r1,q1⟩=>?_);let⟨d,X5,e,hd,q⟩:=q1;subst e;cases (show v=Value.ref d from r1);let⟨nf,o,m,A⟩:=I1.freeze hd;let⟨z,y,vs,r,O,es,ep,t,c,a,rest⟩:=(show cu X.prog X.w H1 s1.heap d (.dK X5) from I1.hok d _ hd);rw[m] at t;cases t;let i:=KV.len' r;let L:s1.heap.DictAt (cg X.prog X.w) d vs ep:=⟨o,es,m,c,a,rest⟩;let⟨p,C,_⟩:=Cy I1 (show IsD H1 d from .inl {X5,.inl hd});refine{"dict","dict.values",aos,apC,PySem.F.type_dict_values,p,C,anZ J<|PySem.evalArgs_none ?_};refine apw apC p PySem.F.entry_dict_values (PySem.F.args_dict_values_1 _) (meets_dict_values (cg X.prog X.w) d y) {⟨vs,o,es,ep,m,c,a,rest⟩,?_};let n:=A.kept (t':=s1.toks) (h':=s1.heap.push {Value.type "dict_values",Z0,Data.fields #[Value.ref d],#[]}) λb o e=>al7 _ e
 let j:(s1.heap.push {Value.type "dict_values",Z0,Data.fields #[Value.ref d],#[]}).DictAt (cg X.prog X.w) d vs ep:={o,es,al7 _ m,c,a,rest};refine wpAny_pyIter_values (knd:=cg X.prog X.w) (d:=d) (kvs:=vs) (ep:=ep) {_,amh _ J,J,J} j ?_;refine{_,[(s1.heap.push {Value.type "dict_values",Z0,Data.fields #[Value.ref d],#[]}).objs.size],_,_,1,n.kept (t':=s1.toks) λb o e=>al7 _ e,LL a,{_,amh _ J,J,by rw[i];rfl},λb u=>?_,q o nf};let e:b =(s1.heap.push {Value.type "dict_values",Z0,Data.fields #[Value.ref d],#[]}).objs.size:=⇑u
 subst e;exact n.m7 (amd _)<|n.hok.fresh<|amd _
end
def KW{d:nt}{o:Obj}{X5:mu (Key×V)}(D:nt){g:TG}{tt:TT}{te:TE}{σ:St}{H:Hp}{R:Hp->Z3}(f:Z5->St->Hp->mu V->Z3)(h0:f 0 σ H [])(u:∀i σ H ys,i≤X5.length->f i σ H ys->H d=some (.frz o (.dK X5)))(hs:∀i k v σ H ys,X5[i]?=some (k,v)->f i σ H ys->g v σ H λa s=>tt a s λb n=>if b=Z1 then
   te a n λy j=>j D=some (.lst ys)/\ys.length<Z7/\f (i+1) a (Z9 j D (.lst (ys++[y]))) (ys++[y]) else f (i+1) a n ys)(hd:∀σ H ys,f X5.length σ H ys->R H) :
  ∃W:Z5->Z5->St->Hp->mu V->Z3,(∃m,W 0 m σ H [])/\∀i m c H' ys,W i m c H' ys->((Dh d o X5).stop i H'/\R H')∨
   ((Dh d o X5).go i H'/\∃N:St->Hp->mu V->Z3,(∀c H' h,N c H' h->∃t,t<m/\W (i+1) t c H' h)/\∀x H2,(Dh d o X5).yld i H' x H2->g x c H2 λa s=>tt a s λb n=>if b=Z1 then
    te a n λy j=>j D=some (.lst ys)/\ys.length<Z7/\N a (Z9 j D (.lst (ys++[y]))) (ys++[y])
    else N a n ys):=by
 exists λi m σ H ys=>m=X5.length-i/\i≤X5.length/\f i σ H ys,{X5.length,o7,amE _,h0};rintro i m σ H ys ⟨rfl,hi,p⟩;let q:=u i σ H ys hi p;by_cases l:i<X5.length
 .refine .inr {⟨l,q⟩,f (i+1),λc H' h z=>{X5.length -(i+1),o5,J,l,z},λx H' y=>?_};let⟨e,k,v,r,rfl⟩:=y;subst e;exact hs i k _ σ _ ys r p
 .let e:i=X5.length:=by omega
  subst e;exact .inl {{amd _,q},hd σ H ys p}
abbrev dM:=Z4->o9 (Z4×Z4×Bool)
def wZ(CW CG:nt)(H:Hp)(v:V)(s d:Z4)(g:Bool):Z3:=∃a wh b dd rows c,v=.ref a/\PAt CW CG H a wh b dd rows c/\rows.length≤100/\d =↥dd/\s =(stN wh b:Z4)-1/\g=decide (c =(sY wh b dd rows:Z5))
def wZ.keep{s d:Z4}(h:wZ CW CG H v s d g)(k:ao H H'):wZ CW CG H' v s d g:=by let⟨a,wh,b,dd,rows,c,h1,h2,h3⟩:=h;exact{a,wh,b,dd,rows,c,h1,h2.keep k,h3}
def nq(CW CG:nt)(H:Hp)(X5:mu (Key×V))(M:dM):Z3:=∀n:Z4,match M n with
 |none=>bu X5 (Sum.inl n)=Z0
 |some (s,d,g)=>∃v,bu X5 (Sum.inl n)=some v/\wZ CW CG H v s d g
section
variable{CW CG:nt}{H H':Hp}{X5 lkv:mu (Key×V)}{M:dM}{F:mu nt}{n s d:Z4}{g:Bool}
def nq.got(h:nq CW CG H X5 M)(e:M n=some (s,d,g)):∃v,bu X5 (Sum.inl n)=some v/\wZ CW CG H v s d g:=by let:=h n;rwa[e] at this
def nq.gone(h:nq CW CG H X5 M)(e:M n=Z0):bu X5 (Sum.inl n)=Z0:=by let:=h n;rwa[e] at this
def nq.has(h:nq CW CG H X5 M)(e:bu X5 (Sum.inl n)=some v):∃s d g,M n=some (s,d,g)/\wZ CW CG H v s d g:=by
 cases a:M n with
 |none=>rw[h.gone a] at e;cases e
 |some x=>let⟨s,d,g⟩:=x;let⟨b,h1,h2⟩:=h.got a;rw[h1] at e;cases e;exact⟨s,d,g,J,h2⟩
def nq.keep(h:nq CW CG H X5 M)(k:ao H H'):nq CW CG H' X5 M:=λn=>by
 cases e:M n with
 |none=>exact h.gone e
 |some x=>let⟨s,d,g⟩:=x;let⟨v,h1,h2⟩:=h.got e;exact{v,h1,h2.keep k}
end
def okG(gd g:Bool):Z3:=g=Z1∨gd=Z2
instance (gd g:Bool):Decidable (okG gd g):=inferInstanceAs<|Decidable (_∨_)
inductive Rk (M:dM) (gd:Bool):Z5->Z4->Z3
 |zero:Rk M gd 0 (-1)
 |step {k:Z5} {n s d:Z4} {g:Bool}:M n=some (s,d,g)->okG gd g->Rk M gd k s->Rk M gd (k+1) d
def Rch(M:dM)(gd:Bool)(d:Z4):Z3:=∃k,Rk M gd k d
def Lev(M:dM)(gd:Bool)(d:Z4)(k:Z5):Z3:=Rk M gd k d/\∀j,j<k->¬Rk M gd j d
section
variable{M:dM}{gd:Bool}
def LD:∀(k:Z5){d:Z4},Rk M gd k d->∃j,j≤k/\Lev M gd d j:=by
 intro k
 induction k using Nat.strongRecOn with
 |_ k ih=>
  intro d h;by_cases a:∃j,j<k/\Rk M gd j d
  .let⟨j,a,b⟩:=a;let⟨i,hi,f⟩:=ih j a b;exact⟨i,o5,f⟩
  .exact{k,amd _,h,λj c b=>a ⟨j,c,b⟩}
def Lev.one{d:Z4}{j k:Z5}(h:Lev M gd d j)(h':Lev M gd d k):j=k:=by
 rcases aph j k with x|x|x
 .exact absurd h.1 (h'.2 j x)
 .exact x
 .exact absurd h'.1 (h.2 k x)
def Lev.zero:Lev M gd (-1) 0:={.zero,λj h=>absurd h o5}
def Rk.Jd{d:Z4}(h:Rk M gd 0 d):d = -1:=by cases h;rfl
def Lev.pred{d:Z4}{k:Z5}(h:Lev M gd d (k+1)):∃n s g,M n=some (s,d,g)/\okG gd g/\Lev M gd s k:=by
 let⟨h1,h2⟩:=h;cases h1 with
 |step a b c=>exact{_,_,_,a,b,c,λj i f=>h2 (j+1) o5<|.step a b f}
def D6(M:dM):Z3:=∀n s d g,M n=some (s,d,g)->0≤d
def Rk.pos(b:D6 M){k:Z5}{d:Z4}(h:Rk M gd (k+1) d):0≤d:=by
 cases h with
 |step a _ _=>exact b _ _ _ _ a
def RdL(M:dM)(gd:Bool)(ns:mu Z4):Z3:=ns.Pairwise (· < ·)/\∀x,x∈ns↔Rch M gd x/\x≠-1
structure jm(lk:mu (Key×V))(M:dM)(gd:Bool)(t:Z5):Z3 where
 nd:(lk.map (·.1)).Nodup
 gc:lY lk
 eK:∀d v,bu lk (Sum.inl d)=some v->∃n s g k,v=V.int n/\M n=some (s,d,g)/\okG gd g/\Lev M gd s k/\Lev M gd d (k+1)/\k+1≤t
 Ia:∀d k,Lev M gd d (k+1)->k+1≤t->(bu lk (Sum.inl d)).isSome=Z1
structure pF(lk:mu (Key×V))(M:dM)(gd:Bool):Z3 where
 nd:(lk.map (·.1)).Nodup
 gc:lY lk
 eK:∀d v,bu lk (Sum.inl d)=some v->∃n s g k,v=V.int n/\M n=some (s,d,g)/\okG gd g/\Lev M gd s k/\Lev M gd d (k+1)
 Ia:∀d k,Lev M gd d (k+1)->(bu lk (Sum.inl d)).isSome=Z1
def jm.nil:jm [] M gd 0:={List.nodup_nil,lY.nil,λd v h=>(by cases h),λd k _ h=>absurd h o5}
def jm.end_{t:Z5}(h:jm lk M gd t)(o:∀d,¬Lev M gd d t):pF lk M gd:=by
 let f:∀j d,¬Lev M gd d (t+j):=by
  intro j
  induction j with
  |zero=>exact o
  |succ j m=>intro d hd;let⟨n,s,g,_,_,hs⟩:=Lev.pred (k:=t+j) hd;exact m s hs
 refine{h.nd,h.gc,λd v e=>?_,λd k hd=>?_}
 .let⟨n,s,g,k,a,b,c,l,i,_⟩:=h.eK d v e;exact⟨n,s,g,k,a,b,c,l,i⟩
 .by_cases p:k+1≤t
  .exact h.Ia d k hd p
  .exact absurd (show Lev M gd d (t +(k+1-t)) by rwa[show t +(k+1-t)=k+1 by omega]) (f _ d)
def pF.iff(h:pF lk M gd)(o:D6 M)(d:Z4):(bu lk (Sum.inl d)).isSome=Z1↔Rch M gd d/\d≠-1:=by
 constructor
 .intro e;cases l:bu lk (Sum.inl d) with
  |none=>rw[l] at e;cases e
  |some v=>let⟨n,s,g,k,_,a,b,c,m⟩:=h.eK d v l;exact{{_,m.1},by let:=Rk.pos o m.1;omega}
 .rintro⟨⟨k,p⟩,f⟩;let⟨j,_,i⟩:=LD k p;cases j with
  |zero=>exact absurd (Rk.Jd i.1) f
  |succ j=>exact h.Ia d j i
def pF.rise{lk:mu (Key×V)}(h:pF lk M gd)(i:D6 M){ns ns':mu Z4}(e:lk.map (·.1)=ns.map Sum.inl)(c:ns'.Perm ns)(hs:ns'.Pairwise (·≤·)):RdL M gd ns':=by
 let g:ns.Nodup:=by let:=h.nd;rw[e] at this;exact(aox.mp this).imp λa b=>a<|congrArg Sum.inl b
 let f:ns'.Nodup:=c.nodup_iff.mpr g;refine{(hs.and f).imp λ⟨a,b⟩=>by omega,λx=>?_};rw[c.mem_iff,←h.iff i x,mq,e,amS];constructor
 .intro h;exact⟨x,h,J⟩
 .rintro⟨y,h,e⟩;cases e;exact h
end
def ahA:o9 nF->q8 nF
 |none=>#[]
 |some v=>#[v,v]
def La(P:Z5->nF->Z3)(f:Z5->Z4)(j:Z5):o9 nF->Z3
 |none=>j=0
 |some v=>∃i,i<j/\P i v/\∀a,a<j->f a≤f i
section
variable{prog:q9}{w:wo}{A:Around}{R:Result->qb->Z3}{It:nt}{fp wr:mu nt}{n:Z5}{P:Z5->nF->Z3}{St:Z5->Heap->Z3}{f:Z5->Z4}{dv:nF}
def LM(W:Walks prog w A.in1 It fp wr n P St)(O:∀i v,P i v->∃t,v=Value.int (f i) t)(Z:nt)(hZ:Z∉fp) :
  ∀k j s B c,n-j=k->j≤n->St j s.heap->La P f j B →
  s.heap.get? Z=some {.type "list",Z0,.seq (ahA B) c,#[]} →
  (∀v h2 U,((n=0/\v=dv)∨La P f n (some v))->(∀b o,b∉wr->b≠Z->s.heap.get? b=some o->h2.get? b=some o)->R (.ok (.ret v)) {s with heap:=h2,toks:=U}) →
  codeAny (model prog w) A (.builtin "max.loop" {[.ref It,.none,.ref Z],[(Str.ofString "default",dv)]}) R s:=by
 let L:=CmpOf.ints_gt (prog:=prog) (w:=w) (A:=A.in1) f O;let nZ:Z∉wr:=λh=>hZ<|W.sub _ h
 let nm:(toString "max" ++ toString ".loop":String) = "max.loop":=by decide
 intro k
 induction k with
 |zero=>
  intro j s B c ek hj st Y hS C;let ej:j=n:=by omega
  subst ej;refine anr F.entry_max_loop ?_;rw[ang anO _];show wpAny _ A.in1 (seqItems? (.ref Z) >>= _) _ _ s;refine al6<|wpAny_seqItems hS J ?_;show wpAny _ A.in1 (tryCatch (pyNext<|.ref It) _ >>= _) _ _ s;refine al6<|ap4 (W.done s _ _ st λh2 U y=>?_);let a:=y Z _ nZ hS;cases B with
  |none=>refine al6<|wpAny_rule<|al9 ?_;exact C dv h2 U (.inl ⟨Y,J⟩) λb o g _ e=>y b o g e
  |some r=>replace a:h2.get? Z=some {.type "list",Z0,.seq #[r,r] c,#[]}:=a;show wpAny _ A.in1 (updateSeq Z (λ_=>#[]) >>= _) _ _ _;refine al6 ?_;refine anY a J<|al6<|apW<|al9 ?_;exact C r _ U (.inr Y) λb o g l e=>(amt _ _<|amW l).trans<|y b o g e
 |succ k ih=>
  intro j s B c ek hj st Y hS C;let u:j<n:=by omega
  refine anr F.entry_max_loop ?_;rw[ang anO _];show wpAny _ A.in1 (seqItems? (.ref Z) >>= _) _ _ s;refine al6<|wpAny_seqItems hS J ?_;show wpAny _ A.in1 (tryCatch (pyNext<|.ref It) _ >>= _) _ _ s;refine al6<|ap4 (W.item j s _ _ u st λv h2 U hP z y=>?_);let a:=y Z _ nZ hS;cases B with
  |none=>
   let j0:j=0:=Y;subst j0;replace a:h2.get? Z=some {.type "list",Z0,.seq #[] c,#[]}:=a;show wpAny _ A.in1 (updateSeq Z (λ_=>#[v,v]) >>= _) _ _ _;refine al6 ?_;refine anY a J ?_;rw[nm];refine al9 {anV anO _,ih 1 _ (some v) _ o5 u (W.frame _ _ _ z λb g o e=>?_) {(0),o5,hP,λi hi=>by rw[show i=0 by omega];exact aoB _} (amI _ a J) λv3 h3 q m p=>?_}
   .exact(amt _ _ λh:Z=b=>hZ (by rwa[h])).trans e
   .exact C v3 h3 q m λb o g l e=>p b o g l<|(amt _ _<|amW l).trans<|y b o g e
  |some r=>
   let⟨i,hi,S,x⟩:=Y;replace a:h2.get? Z=some {.type "list",Z0,.seq #[r,r] c,#[]}:=a;show wpAny _ A.in1 (tryCatch (holding [v,v]<|richCompare .Gt v r >>= _) _ >>= _) _ _ _;refine al6<|ap4<|am3<|al6<|L j i v r _ _ _ hP S ?_;refine al6<|am3<|anu ?_;refine al6<|apW<|al9 ?_;by_cases g:f j>f i
   .simp only[show decide (f j>f i)=Z1 from decide_eq_true g,if_true];refine al6 ?_;refine anY a J<|al6<|apW ?_;rw[nm];refine al9 {anV anO _,ih (j+1) _ (some v) _ o5 u (W.frame _ _ _ z λb g o e=>?_) {j,o5,hP,λH a0=>?_} (amI _ a J) λv3 h3 q m p=>?_}
    .exact(amt _ _ λh:Z=b=>hZ (by rwa[h])).trans e
    .by_cases e:H=j
     .rw[e];exact aoB _
     .let:=x H o5;omega
    .exact C v3 h3 q m λb o g l e=>p b o g l<|(amt _ _<|amW l).trans<|y b o g e
   .simp only[show decide (f j>f i)=Z2 from decide_eq_false g,Bool.false_eq_true,if_false];refine al6<|apW ?_;rw[nm];refine al9 {anV anO _,ih (j+1) _ (some r) c o5 u z {i,o5,S,λH a0=>?_} a λv3 h3 q m p=>?_}
    .by_cases e:H=j
     .rw[e];omega
     .exact x H o5
    .exact C v3 h3 q m λb o g l e=>p b o g l<|y b o g e
end
def Ks(a d:nF):argsOk "max" ⟨[a],[(Str.ofString "default",d)]⟩:=by unfold argsOk;kernel_rfl
def JX(dv:nF):Builtin.Builtins.bindParams "max" ["key","default"] 0 {[],[(Str.ofString "default",dv)]}=pure [Z0,some dv]:=by kernel_rfl
def maxD(d:V):mu Z4->V
 |[]=>d
 |x::r=>.int<|r.foldl max x
def foldl_max:∀(r:mu Z4)(x:Z4),(r.foldl max x=x∨r.foldl max x∈r)/\x≤r.foldl max x/\∀ y∈r,y≤r.foldl max x
 |[],x=>{.inl J,aoB _,o7}
 |y::r,x=>by
  rw[aoP];let⟨h1,h2,h3⟩:=foldl_max r<|max x y;refine{?_,o5,λz a=>?_}
  .rcases h1 with h1|h1
   .rcases(show max x y=x∨max x y=y by omega) with e|e
    .exact .inl (h1.trans e)
    .exact .inr (by rw[h1,e];simp)
   .exact .inr (amj _ h1)
  .rcases amq.mp a with rfl|a
   .omega
   .exact h3 z a
def UY{ns:mu Z4}{m:Z4}(c:m∈ns)(h:∀ y∈ns,y≤m):maxD d ns=.int m:=by
 cases ns with
 |nil=>simp at c
 |cons x r=>
  let⟨h1,h2,h3⟩:=foldl_max r x;let a:r.foldl max x≤m:=by
   rcases h1 with e|e
   .rw[e];exact h x o7
   .exact h _ (amj _ e)
  let b:m≤r.foldl max x:=by
   rcases amq.mp c with rfl|e
   .exact h2
   .exact h3 m e
  show V.int (r.foldl max x)=.int m;congr 1;omega
section
variable{X:Cx}{x:Z6}{p pos kpos:Pos}{e de:Expr}{t:TA}{td:TE}
inductive Hf(K:Frag)(Q:VK)(vs:mu V)(d:V)(H2:Hp):Z3
 |m a ns(_:vs=[.ref a])(_:X0 K H2 a (ns.map Z8))(_:Q (maxD d ns) H2)
def aiC(K:Frag)(t:TA)(td:TE):TE:=λσ H Q=>t σ H λvs H1=>td σ H1 λd H2=>Hf K Q vs d H2
def MC{X4:mu (nt×Obj)}{σ:St}{H:Hp}{s:qb}{Q:VK}{a:nt}{ns:mu Z4}{d:V}{dv:nF}(L:X.calm=Z1)(I:Inv X X4 σ H s)(Y:X0 X.K H a (ns.map Z8))(rd:RelV d dv)(q:Q (maxD d ns) H) :
  wpAny (model X.prog X.w) X.A (call (.builtin "max") [.ref a] [(Str.ofString "default",dv)]) (EP X X4 σ Q) X.xe s:=by
 let⟨c,rv,pl,_⟩:=I.list Y;let C:=aoN rv;let u:s.heap.IsList a c.toArray:=pl.isList;let l:a<(~~~s):=by let⟨o,e,_⟩:=u;exact amb e
 let p:=ua C;let h:∀i v,c.toArray[i]?=some v->∃t,v=Value.int (ns.getD i 0) t:=λi v e=>C.int_at i v (⇑e)
 let nm:(toString "max" ++ toString ".loop":String) = "max.loop":=by decide
 refine kmk_tree F.kind_max F.plain_max F.entry_max (Ks _ _) ?_;show wpAny _ X.A.in1 (Builtin.Builtins.bindParams "max" ["key","default"] 0 {[],[(Str.ofString "default",dv)]} >>= _) _ _ s;refine al6<|aoA (JX dv) ?_;refine al6<|al9 ?_;refine al6<|an2 u ?_;refine al6<|anx ?_;rw[nm];let W:=ap7 (prog:=X.prog) (w:=X.w) (A:=X.A.in1) (I.ok.hd L) (~~~s) a (DB l<|amd _) c.toArray;refine al9 {anV anO _,LM (f:=λi=>ns.getD i 0) (dv:=dv) W h ((s.heap.push {.type "list_iterator",Z0,.fields #[.ref a,.int 0 0],#[]}).objs.size) (λg=>?_) c.toArray.size 0 _ Z0 _ J (amE _) {{_,al7 _<|amh _ J,J,J},let ⟨o,e,r⟩:=u;{o,al7 _<|al7 _ e,r}} J (amh _ J) λv h2 tk hv hk=>?_}
 .rw[am4] at g;simp only[List.mem_cons,List.not_mem_nil,or_false] at g;rcases g with g|g
  .exact absurd g (Nat.succ_ne_self _)
  .exact absurd l (by rw[←g];exact Nat.not_lt_of_le<|anp _)
 .refine{maxD d ns,H,I.kept λb o e=>hk b o (λg=>?_) (λB=>?_)<|al7 _<|al7 _ e,?_,q}
  .let:b=( ~~~s):=⇑g
   exact absurd (amb e) (by rw[this];exact anf _)
  .rw[am4] at B;exact absurd (amb e) (by rw[B];exact Nat.not_lt_of_le<|anp _)
  .let hsz:c.toArray.size=ns.length:=by simp[p]
   rcases hv with⟨h0,rfl⟩|⟨i,hi,O,n⟩
   .let:ns=[]:=anS.mp o5;subst this;exact rd
   .let⟨t,rfl⟩:=h i v O;let x:i<ns.length:=by omega
    let e:ns.getD i 0=ns[i]:=by rw[ank,amg x,Option.getD_some]
    rw[UY (m:=ns.getD i 0) (by rw[e];exact anN x) λy U=>?_]
    .exact⟨t,J⟩
    .let⟨j,z⟩:=amQ.mp U;let S:j<ns.length:=(amc.mp z).1;let:ns.getD j 0≤ns.getD i 0:=n j o5;rw[show ns.getD j 0=y by rw[ank,z];rfl] at this;exact this
def F0(f:X.calm=Z1)(g:Gl X "max")(i:X.mg "max" = Z0)(j:PA X [e] t)(hd:PE X de td)(he:backTo pos (starEach [e] X.env) =(Z2,eval e X.env)::backTo pos (starEach [] X.env):=by rfl)(b:(backTo pos (starEach [e] X.env)).any (·.1)=Z2:=by rfl):PE X (.Call (.Name "max" p) [e] [{some "default",de,kpos}] pos) (aiC X.K t td):=by intro X4 s σ H Q I h;refine amU<|jK I g i boot_max ?_ o6 o6;refine callWith_kw (he:=he) (hplain:=b) (thn (j pos X4 s σ H _ I h) λ us s1 ⟨vs,H1,I1,r1,q1⟩=>?_);refine kws_cons (thn (hd X4 s1 σ H1 _ I1 q1) λ dv s2 ⟨d,H2,I2,rd,a,ns,e1,hS,q⟩=>kws_nil ?_);subst e1;let⟨u,rfl,c⟩:=vals1 r1;cases (show u=Value.ref a from c);exact MC f I2 hS rd q
end
def GK(d:Z4):∀L:mu Z4,inV (.int d) (L.map Z8)=decide (d∈L)
 |[]=>by simp[inV]
 |x::r=>by
  let a:=GK d r;unfold inV at a ⊢;rw[amR,aob,a];by_cases h:x=d
  .subst h;simp[eqV]
  .let h2:¬d=x:=λe=>h e.symm
   simp[eqV,h,h2]
section
variable{α:Type}
def lD(M:Z4->o9 α)(n:Z4)(x:o9 α):Z4->o9 α:=λm=>if m=n then x else M m
def sA{M:Z4->o9 α}{n:Z4}:lD M n x n=x:=ama J
def mR{M:Z4->o9 α}{n m:Z4}(h:m≠n):lD M n x m=M m:=al8 h
structure gf(Pr:V->α->Z3)(X5:mu (Key×V))(M:Z4->o9 α):Z3 where
 nd:(X5.map (·.1)).Nodup
 gc:lY X5
 none_:∀n,M n=Z0->bu X5 (Sum.inl n)=Z0
 eK:∀n u,M n=some u->∃v,bu X5 (Sum.inl n)=some v/\Pr v u
variable{Pr Pr':V->α->Z3}{X5:mu (Key×V)}{M:Z4->o9 α}
def gf.nil:gf Pr [] (λ_=>Z0):={List.nodup_nil,lY.nil,λn _=>rfl,λn u e=>by cases e}
def gf.mono(h:gf Pr X5 M)(k:∀v u,Pr v u->Pr' v u):gf Pr' X5 M:={h.nd,h.gc,h.none_,λn u e=>let ⟨v,h1,h2⟩:=h.eK n u e;{v,h1,k v u h2}}
def gf.has(h:gf Pr X5 M){n:Z4}(e:bu X5 (Sum.inl n)=some v):∃u,M n=some u/\Pr v u:=by
 cases a:M n with
 |none=>rw[h.none_ n a] at e;cases e
 |some u=>let⟨b,h1,h2⟩:=h.eK n u a;rw[h1] at e;cases e;exact⟨u,J,h2⟩
def gf.put(h:gf Pr X5 M){n:Z4}(a:Pr v u):gf Pr (putK X5 (Sum.inl n) v) (lD M n (some u)):=by
 refine{LK _ h.nd,h.gc.put n _,λm e=>?_,λm u' e=>?_}
 .by_cases em:m=n
  .grind [putK,lD]
  .rw[mR em] at e;rw[kC,al8 λz=>em<|ao6 z];exact h.none_ m e
 .by_cases em:m=n
  .subst em;rw[sA] at e;cases e;exact{v,by rw[kC,ama rfl],a}
  .rw[mR em] at e;rw[kC,al8 λz=>em<|ao6 z];exact h.eK m u' e
def gf.at_(h:gf Pr X5 M){i:Z5}(e:X5[i]?=some (k,v)):∃n u,k=Sum.inl n/\M n=some u/\Pr v u/\bu X5 (Sum.inl n)=some v:=by let c:=aml e;let⟨n,b⟩:=h.gc _ c;let a:=Al h.nd (k:=k) (v:=v) c;rw[show k=Sum.inl n from b] at a;let⟨u,h1,h2⟩:=h.has a;exact⟨n,u,b,h1,h2,a⟩
def gf.ix(h:gf Pr X5 M){n:Z4}(e:M n=some u):∃(i:Z5)(v:V),X5[i]?=some ((Sum.inl n:Key),v):=by let⟨v,h1,_⟩:=h.eK n u e;let:=mq.mp (show(bu X5<|Sum.inl n).isSome=Z1 by rw[h1];rfl);let⟨c,a,b⟩:=amS.mp this;let⟨i,hi⟩:=amQ.mp a;exact{i,c.2,by rw[hi,←b]}
def gf.keys(h:gf Pr X5 M){ns:mu Z4}(e:X5.map (·.1)=ns.map Sum.inl)(n:Z4):n∈ns↔(M n).isSome=Z1:=by
 let:n∈ns↔(bu X5 (Sum.inl n)).isSome=Z1:=by rw[mq,e,amS];exact{λh=>⟨n,h,J⟩,λ⟨y,h,z⟩=>by cases z;exact h}
 rw[this];cases a:M n with
 |none=>rw[h.none_ n a];simp
 |some u=>let⟨v,h1,_⟩:=h.eK n u a;rw[h1];rfl
end
structure al5 where
 wh:Bool
 b:Z5
 d:Z5
 rows:mu (Z5×Z5)
 bits:Z5
def ig(S:Z4->Z3)(v:V):Z3:=(v=.non/\∀x,¬S x)∨∃m:Z4,v=.int m/\S m/\∀x,S x->x≤m
def Gi(ns:mu Z4):ig (λx=>x∈ns) (maxD .non ns):=by
 cases ns with
 |nil=>exact .inl {J,λx h=>by cases h}
 |cons x r=>
  let⟨h1,h2,h3⟩:=foldl_max r x;refine .inr {r.foldl max x,J,?_,λy a=>?_}
  .grind
  .grind
def ig.ext{S a:Z4->Z3}(h:ig S v)(e:∀x,S x↔a x):ig a v:=by grind [ig]
structure PcU where
 wh:Bool
 b:Z5
 d:Z5
 rows:mu (Z5×Z5)
 c:Z4
def PcU.st(u:PcU):Z4:=(stN u.wh u.b:Z4)-1
def PcU.good(u:PcU):Bool:=decide (u.c =(sY u.wh u.b u.d u.rows:Z5))
inductive cE(CW CG:nt)(H:Hp)(v:V)(u:PcU):Z3
 |m a(_:v=.ref a)(_:PAt CW CG H a u.wh u.b u.d u.rows u.c)(_:u.rows.length≤100)
section
variable{CW CG:nt}{H H':Hp}{F:mu nt}{v:V}{u:PcU}
def cE.keep(h:cE CW CG H v u)(k:ao H H'):cE CW CG H' v u:=let ⟨a,h1,h2,h3⟩:=h;{a,h1,h2.keep k,h3}
end
open PySem PySem.Spec PySem.Calls PyProof.Rows
abbrev lH(h:Heap)(e it:nt)(i:Z4)(b:nF)(a:nt)(f:Bool):Z3:=
 h.get? e=some {.type "enumerate",Z0,.fields #[rawInt a,.bool f,.ref it,rawInt i,.none,b],#[]}
section
variable{prog:q9}{w:wo}{A:Around}{E:nF->qb->Z3}{s:qb}
def Ls(b:s.heap.get? a=some o)(h:Q (some o) s):wpAny (model prog w) A (loadIfAlive a) Q E s:=by
 let h':Q (s.heap.get? a) s:=by rwa[b]
 exact λ_ _ _=>h'
def Et{i:Z5}(he:lH s.heap e it i item a f)(ha:s.heap.get? a=some oa)(a2:a≠e)(a0:a≠it)(a3:s.heap.IsListIter it l i)(hl:s.heap.IsList l items)(hx:items[i]?=some x)(B:e≠it)(hQ:∀h',lH h' e it (↥i+1) item a Z1->h'.IsListIter it l (i+1)->h'.get? (~~~s)=some {.type "tuple",Z0,.seq #[.int i s.toks,x],#[]}->h'.objs.size= ~~~s+1 →
   (∀b o,b≠e->b≠it->s.heap.get? b=some o->h'.get? b=some o)->Q (some (.ref (~~~s))) {s with heap:=h',toks:=s.toks+1}) :
  wpAny (model prog w) A (pyNext (.ref e)) Q E s:=by
 let hT:s.TypeIs (.ref e) "enumerate":={_,he,J};refine al6 (aoE (anU (name:=Str.ofString "__next__") hT anE
  (anl anE hT ao5 ?_<|aoW _)))
 let⟨O,g,d,S,os⟩:=s;show wpAny _ _ (field (.ref e) 2 >>= _) _ _ _;refine al6<|am1 he J (x:=.ref it) J ?_;refine al6 (wpAny_nextOf_list_item a3 hl hx λh₁ y m=>?_);replace m:Heap.SameBut it O h₁:=m;let v:lH h₁ e it i item a f:=(m.2 e B).trans he;refine al6<|am1 v J (x:=rawInt i) J ?_;refine al6<|am1 v J (x:=.none) J ?_;refine al6<|wpAny_mkInt ?_;refine al6 (apb v o7 λh₂ t j=>?_);replace j:Heap.SameBut e h₁ h₂:=j;replace t:lH h₂ e it (↥i+1) item a f:=t;refine al6 (apb t o7 λh₃ u n=>?_);replace n:Heap.SameBut e h₂ h₃:=n;replace u:lH h₃ e it (↥i+1) item a f:=u;refine al6<|wpAny_newTuple ?_;let q:lH (h₃.push {.type "tuple",Z0,.seq #[.int i S,x],#[]}) e it (↥i+1) item a f:=al7 _ u;generalize hh₄:h₃.push {.type "tuple",Z0,.seq #[.int i S,x],#[]}=h at q;let hsz:h₃.objs.size=O.objs.size:=by rw[n.1,j.1,m.1]
 let a1:e<O.objs.size:=amb he;let F:h.get? O.objs.size=some {.type "tuple",Z0,.seq #[.int i S,x],#[]}:=by rw[←hh₄,←hsz];exact amh _ J
 let H:h.objs.size=O.objs.size+1:=by rw[←hh₄,am4,hsz]
 let z:∀b o,b≠e->b≠it->O.get? b=some o->h.get? b=some o:=λb o Y a4 hb=>by rw[←hh₄];exact al7 _<|n.extBut b o Y<|j.extBut b o Y<|m.extBut b o a4 hb
 let C:h.IsListIter it l (i+1):=by rw[←hh₄];let⟨o,ho,r⟩:=(y.extBut j.extBut<|amW B).extBut n.extBut<|amW B;exact{o,al7 _ ho,r}
 show wpAny _ _ (Builtin.SmallTypes.ownedTupleIsFree (.ref e) >>= _) _ _ {h,g,d,S+1,os};rw[hsz];clear hh₄ u n t j v m y hsz h₃ h₂ h₁;let L:h.get? a=some oa:=z a oa a2 a0 ha;refine al6 ?_;refine al6<|am1 q J (x:=rawInt a) J ?_;show wpAny _ _ (loadIfAlive ((a:Z4).toNat) >>= _) _ _ _;rw[Int.toNat_natCast];refine al6<|Ls L ?_;simp only[Option.isNone_some,Bool.false_eq_true,if_false];refine al6<|am1 q J (x:=.bool f) J ?_;let U:∀h₅:Heap,lH h₅ e it (↥i+1) item a Z1->Heap.SameBut e h h₅->Q (some (.ref O.objs.size)) ⟨h₅,g,d,S+1,os⟩:=λh₅ p c=>hQ h₅ p (C.extBut c.extBut<|amW B) (c.extBut _ _ (anK a1) F) (by rw[c.1,H]) λb o hb hi e=>c.extBut b o hb<|z b o hb hi e
 cases f with
 |true=>rw[al8 (show ¬((Value.bool Z1 != Value.bool Z1)=Z1) from amn)];refine al9 ?_;simp only[Bool.false_eq_true,if_false];exact al9 {1,al9<|U h q<|Heap.SameBut.refl _ _}
 |false=>rw[ama (show(Value.bool Z2 != Value.bool Z1)=Z1 from J)];refine al6 (apb q o7 λh₅ p c=>?_);replace c:Heap.SameBut e h h₅:=c;replace p:lH h₅ e it (↥i+1) item a Z1:=p;refine al9 ?_;simp only[Bool.false_eq_true,if_false];exact al9 {1,al9<|U h₅ p c}
def EY{i:Z5}(t:A.handled=Z0)(he:lH s.heap e it i item a f)(h:s.heap.IsListIter it l i)(q:s.heap.IsList l items)(m:items[i]? = Z0)(n:∀h',Heap.ExtBut it s.heap h'->Q Z0 {s with heap:=h'}):wpAny (model prog w) A (pyNext (.ref e)) Q E s:=by
 let j:s.TypeIs (.ref e) "enumerate":={_,he,J};refine al6 (aoE (anU (name:=Str.ofString "__next__") j anE
  (anl anE j ao5 ?_<|aoW _)))
 show wpAny _ _ (field (.ref e) 2 >>= _) _ _ _;refine al6<|am1 he J (x:=.ref it) J ?_;refine al6 (wpAny_nextOf_list_end t h q m λh' x g c=>?_);let⟨o,r,p⟩:=c;refine al6<|apB (T:="StopIteration") (b:=Z1) ⟨o,r,p⟩ isSubtype_stop ?_;exact al9<|n _ g
def K0:typeLookup (.type "enumerate") "__len__" = pure Z0:=by rw[aoV,an6];kernel_rfl
def Iq:typeLookup (.type "enumerate") "__length_hint__" = pure Z0:=by rw[aoV,an6];kernel_rfl
def IG(h:Heap)(e it:nt)(i:Z5)(g:nt->Z3):Z3:=(i=0/\IsEnum h e it 0 .none)∨∃b a f c,lH h e it i b a f/\h.get? a=some c/\a≠e/\a≠it/\g a
def Mz{i:Z5}(st:IG s.heap e it i Pa)(h:s.heap.IsListIter it l i)(r:s.heap.IsList l items)(p:items[i]?=some x)(j:e≠it)(q:∀h' g a f,lH h' e it (↥i+1) g a f->((i=0/\a= ~~~s)∨Pa a)->h'.IsListIter it l (i+1)->h'.get? (~~~s)=some {.type "tuple",Z0,.seq #[.int i s.toks,x],#[]}->h'.objs.size= ~~~s+1 →
   (∀b o,b≠e->b≠it->s.heap.get? b=some o->h'.get? b=some o)->Q (some (.ref (~~~s))) {s with heap:=h',toks:=s.toks+1}) :
  wpAny (model prog w) A (pyNext (.ref e)) Q E s:=by
 rcases st with⟨rfl,he⟩|⟨g,a,f,v,he,u,m,n,t⟩
 .exact wpAny_pyNext_enum_item (i:=0) he h r p j λh' a b c d k=>q h' x _ Z2 a (.inl ⟨J,J⟩) b c d k
 .exact Et he u m n h r p j λh' a b c d k=>q h' g _ Z1 a (.inr t) b c d k
def L4{i:Z5}(m:A.handled=Z0)(st:IG s.heap e it i Pa)(b:s.heap.IsListIter it l i)(h:s.heap.IsList l items)(c:items[i]? = Z0)(g:∀h',Heap.ExtBut it s.heap h'->Q Z0 {s with heap:=h'}):wpAny (model prog w) A (pyNext (.ref e)) Q E s:=by
 rcases st with⟨rfl,he⟩|⟨j,a,f,q,he,r,n,o,p⟩
 .exact wpAny_pyNext_enum_end (i:=0) m he b h c g
 .exact EY m he b h c g
end
def qD{a b:Z5}(h:a<b∨b<a):a≠b:=by omega
def EnL(H0 H:Hp)(xs:mu V)(ts:mu nt):Z3:=∀(j:Z5)(t:nt),ts[j]?=some t->H0 t=Z0/\∃x,xs[j]?=some x/\H t=some (.tup [.int ↥j,x])
def ML{X:Cx}{X4:mu (nt×Obj)}{σ:St}{A:Around}(hh:A.handled=Z0){S e it l:nt}{xs:mu V}{us:mu nF}(rv:Vals xs us)(ai:e≠it)(am:l≠e)(ar:l≠it)(a8:S≠e)(a9:S≠it)(al:l≠S)(hz:xs.length≤Z7)(res:nF){R:Result->qb->Z3}{H0:Hp}(hR:∀H' s' ts,Inv X X4 σ H' s'->(∀b o,b≠S->H0 b=some o->H' b=some o)->ts.length=xs.length->H' S=some (.lst (ts.map V.ref))->EnL H0 H' xs ts->R (.ok (.ret res)) s') :
  ∀(k i:Z5)(H:Hp)(s:qb)(ts:mu nt),xs.length-i=k->i≤xs.length->Inv X X4 σ H s->dU X X4 H e->dU X X4 H it->IG s.heap e it i (λa=>ts[0]?=some a)->s.heap.IsListIter it l i->s.heap.IsList l us.toArray->(∀b o,b≠S->H0 b=some o->H b=some o)->H S=some (.lst (ts.map V.ref))->ts.length=i->EnL H0 H xs ts →
   codeAny (model X.prog X.w) A (.builtin "list.extend.loop" {[.ref S,.ref e,res],[]}) R s:=by
 intro k
 induction k with
 |zero=>
  intro i H s ts hk hi I fe U st p hl v Y g hE;let F:us.toArray[i]? = Z0:=by let:=rv.length;simp;omega
  refine anr apr ?_;rw[ang aoi _];refine al6 (L4 (A:=A.in1) hh st p hl F λh' ex=>?_);refine al9<|hR H _ ts (I.Im (t':=s.toks) (ch:=[it]) (λb o c q=>ex b o (⇑c) q) λb c=>?_) v o5 Y hE;let e1:b=it:=⇑c
  rwa[e1]
 |succ k ih=>
  intro i H s ts hk hi I fe U st p hl v Y g hE;let B:i<xs.length:=by omega
  obtain⟨x,hx⟩:∃x,xs[i]?=some x:={_,amg B};let⟨u,eu,ru⟩:=Vals.get rv hx;let ag:us.toArray[i]?=some u:=⇑eu
  refine anr apr ?_;rw[ang aoi _];refine al6 (Mz (A:=A.in1) st p hl ag ai λh' ac a f as ab a5 ht hsz kk=>?_);let nT:H (~~~s)=Z0:=I.hok.fresh<|amd _;let I2:Inv X X4 σ (Z9 H (~~~s) (.tup [.int ↥i,x])) {s with heap:=h',toks:=s.toks+1}:=
   I.Hw (ch:=[e,it]) (λb o c q=>by
    simp only[List.mem_cons,List.not_mem_nil,or_false,not_or] at c;exact kk b o c.1 c.2 q) (λb c=>by
    simp only[List.mem_cons,List.not_mem_nil,or_false] at c;rcases c with rfl|rfl
    .exact fe
    .exact U) (amd _) {by show 2≤Z7;decide,[Value.int ↥i s.toks,u],.cons ⟨s.toks,J⟩<|.cons ru .nil,{_,ht,J,(0),J}}
  let m:S≠(~~~s):=aA Y nT;let a7:Z9 H (~~~s) (.tup [.int ↥i,x]) S=some (.lst (ts.map V.ref)):=by rwa[au m]
  let⟨_,a0,n,rS,lS,eS⟩:=I2.x6 a7;let C:a0.length≤Z7:=by rw[←rS.length,ame,g];exact amo (amV B) hz
  let I3:=I2.Nu (t':=s.toks+1) a7 eS (f:=(·.push (Value.ref (~~~s)))) (its':=a0++[Value.ref (~~~s)]) (ys:=(ts++[~~~s]).map V.ref) o7 (aoT ▸ Vals.append rS (.cons J .nil)) (by rw[ame,amK,g];exact amo B hz);let up:∀b o,b≠S->h'.get? b=some o->(h'.update S (Obj.mapSeq (·.push (Value.ref (~~~s))))).get? b=some o:=λb o c e=>(amt _ _<|amW c).trans e
  let elt:e<(~~~s):=by
   rcases st with⟨_,he⟩|⟨_,_,_,_,he,_⟩
   .exact amb he
   .exact amb he
  let a6:it<(~~~s):=by let⟨o,L,_⟩:=p;exact amb L
  let old:∀b,b<~~~s->b≠S->Z9 (Z9 H (~~~s) (.tup [.int ↥i,x])) S (.lst ((ts++[~~~s]).map V.ref)) b=H b:=λb c hs=>by rw[au hs,au<|amu c]
  let ae:Z9 (Z9 H (~~~s) (.tup [.int ↥i,x])) S (.lst ((ts++[~~~s]).map V.ref)) (~~~s)=some (.tup [.int ↥i,x]):=by rw[au m.symm,aj]
  let h:∀b o,b≠S->H b=some o->Z9 (Z9 H (~~~s) (.tup [.int ↥i,x])) S (.lst ((ts++[~~~s]).map V.ref)) b=some o:=λb o c eb=>by rwa[au c,au<|aA eb nT]
  let an:H0 (~~~s)=Z0:=by
   cases z:H0 (~~~s) with
   |none=>rfl
   |some o=>have:=v _ _ m.symm z;rw[nT] at this;cases this
  refine al6 (anY eS J (al9 ⟨anV aoi _,ih (i+1) _ _ (ts++[~~~s]) o5 B I3 {(old e elt a8.symm).trans fe.1,fe.2} {(old it a6 a9.symm).trans U.1,U.2} (.inr ?_) (by
   let⟨o,L,r⟩:=a5;exact{o,up it o a9.symm L,r}) (by
   let⟨o,L,r⟩:=hl;exact{o,up l o al<|kk l o am ar L,r}) (λb o c eb=>h b o c<|v b o c eb) aj (by rw[amK,g];rfl) λj t O=>?_⟩) C (by rw[Array.size_push];exact Nat.succ_le_succ C))
  .let first:(ts++[~~~s])[0]?=some a:=by
    rcases ab with⟨h0,rfl⟩|ha
    .rw[List.eq_nil_of_length_eq_zero<|g.trans h0];rfl
    .rw[ams (amc.mp ha).1];exact ha
   let a4:∃oa,(h'.update S (Obj.mapSeq (·.push (Value.ref (~~~s))))).get? a=some oa/\a≠e/\a≠it:=by
    rcases ab with⟨_,rfl⟩|ha
    .exact{_,up _ _ m.symm ht,anK elt,anK a6}
    .let⟨_,y,_,hy⟩:=hE 0 a ha;let aS:a≠S:=λz=>by rw[z,Y] at hy;cases hy
     let⟨_,its',_,o,L,_⟩:=I3.hok a _<|h a _ aS hy;exact{o,L,aA hy fe.1,aA hy U.1}
   let⟨oa,l1,l2,l3⟩:=a4;refine{ac,a,f,oa,?_,l1,l2,l3,first};let e2:((i+1:Z5):Z4) =↥i+1:=by omega
   rw[e2];exact up e _ a8.symm as
  .rcases aph j ts.length with h1|h1|h1
   .rw[ams h1] at O;let⟨a1,y,a2,a3⟩:=hE j t O;let tS:t≠S:=λz=>by rw[z,Y] at a3;cases a3
    exact{a1,y,a2,h t _ tS a3}
   .subst h1;rw[amG<|amd _,aqy] at O;cases O;rw[g];exact⟨an,x,hx,ae⟩
   .rw[ap3 (by rwa[amK])] at O;cases O
section
variable{X:Cx}
inductive LG(K:Frag)(Q:VK)(v:V)(H1:Hp):Z3
 |m l xs(_:v=.ref l)(_:X0 K H1 l xs)(_:∀(r:nt)(ts:mu nt)(H2:Hp),H1 r=Z0->ao H1 H2->ts.length=xs.length->H2 r=some (.lst (ts.map V.ref))->EnL H1 H2 xs ts->Q (.ref r) H2)
def akR(K:Frag)(te:TE):TE:=λσ H Q=>te σ H λv H1=>LG K Q v H1
def FL{e:Expr}{te:TE}{p1 p2 m a:Pos}(hc:X.calm=Z1)(a5:Gl X "list")(a4:X.mg "list" = Z0)(Y:Gl X "enumerate")(a8:X.mg "enumerate" = Z0)(he:PE X e te)(z:starEach [Expr.Call (.Name "enumerate" p2) [e] [] a] X.env=[(Z2,eval (Expr.Call (.Name "enumerate" p2) [e] [] a) X.env)]:=by rfl)(C:starEach [e] X.env=[(Z2,eval e X.env)]:=by rfl) :
  PE X (.Call (.Name "list" p1) [.Call (.Name "enumerate" p2) [e] [] a] [] m) (akR X.K te):=by
 intro X4 s σ H Q I h;refine amU<|jK I a5 a4 boot_list ?_;refine am0 ?_ z rfl;rw[z];refine am7 ?_;refine amU<|jK I Y a8 boot_enumerate ?_;refine am0 ?_ C rfl;rw[C];refine am7 (thn (he X4 s σ H _ I h) λ u s1 ⟨x,H1,I1,r1,q1⟩=>?_);let⟨l,xs,rfl,hl,q⟩:=q1;cases r1;refine anv ?_;let⟨us,rv,pl,hz⟩:=I1.list hl;let ll:l<(~~~s1):=by let⟨o,i,_⟩:=pl.isList;exact amb i
 refine call_enumerate_list pl.isList λh' L z2 zs kk=>?_
 refine anv ?_;let I2:Inv X X4 σ H1 {s1 with heap:=h',toks:=s1.toks}:=I1.kept kk;let U:dU X X4 H1 (~~~s1+1):=I1.m7 (anp _)<|I1.hok.fresh<|anp _;let fi:dU X X4 H1 (~~~s1):=I1.m7 (amd _)<|I1.hok.fresh<|amd _;let a0:h'.IsList l us.toArray:=by let⟨o,i,r⟩:=pl.isList;exact{o,kk l o i,r}
 obtain⟨e0,y⟩:∃e0,~~~s1+1=e0:={1};rw[y] at L U ⊢;obtain⟨i0,ab⟩:∃i0,~~~s1=i0:={1};rw[ab] at L z2 fi y zs ll;let a6:h'.objs.size=i0+2:=zs;refine callType_codes PySem.F.called_list (PySem.F.typeCall_list_1 _) PySem.F.entry_list_init (code_list_new (.ref e0) (Q₁:=λn g=>n=.ref h'.objs.size/\g={s1 with heap:=h'.push {.type "list",Z0,.seq #[] 0,#[]}}) ⟨J,J⟩) λn g hq=>?_
 let⟨h1,h2⟩:=hq;subst h1 h2;let hS:(h'.push {.type "list",Z0,.seq #[] 0,#[]}).get? h'.objs.size=some {.type "list",Z0,.seq #[] 0,#[]}:=amh _ rfl;exists {_,hS,J},PySem.F.args_list_init_2 _ _;unfold Builtin.«list.__init__»;generalize hX:Builtin.List.listExtendWith=XX
 wp_walk
 subst hX;let f:((h'.push {.type "list",Z0,.seq #[] 0,#[]}).update h'.objs.size (Obj.mapSeq λx=>#[])).get? h'.objs.size=some {.type "list",Z0,.seq #[] 0,#[]}:=amI _ hS rfl;let kp:∀b o,h'.get? b=some o->((h'.push {.type "list",Z0,.seq #[] 0,#[]}).update h'.objs.size (Obj.mapSeq λx=>#[])).get? b=some o:=λb o e=>Heap.get?_update_of_ne _ (anK<|amb e)<|al7 _ e
 generalize (h'.push {.type "list",Z0,.seq #[] 0,#[]}).update h'.objs.size (Obj.mapSeq λx=>#[])=h2 at f kp ⊢;obtain⟨S,p⟩:∃S,h'.objs.size=S:={1};rw[p] at f a6 ⊢;let e2:IsEnum h2 e0 i0 0 .none:=kp _ _ L;let hT:Shared.TypeIs {s1 with heap:=h2} (.ref e0) "enumerate":={_,e2,J};refine al6<|wpAny_typeOf hT ?_;let a7:Builtin.List.listSameRef (Value.ref S) (Value.ref e0)=Z2:=by unfold Builtin.List.listSameRef;simp;exact qD o5
 refine apO (λa3=>absurd a3 (by rw[a7];decide)) λ_=>?_;refine al6<|wpAny_pyIter_enum (s:={s1 with heap:=h2}) e2 ?_;refine al6<|am3 ?_;refine al6<|aoS hT K0 ?_;refine al6<|aoS hT Iq ?_;refine al9 ?_;refine al6<|wpAny_rule ?_;refine al6 ?_;refine al6<|anY f J ?_;let v:=amI (Obj.mapSeq (·.push Value.none)) f rfl;refine anY v J ?_;let B:=amI (Obj.mapSeq (·.pop)) v rfl;let c:∀b o,h'.get? b=some o->((h2.update S (Obj.mapSeq (·.push Value.none))).update S (Obj.mapSeq (·.pop))).get? b=some o:=λb o e=>by let O:S≠b:=qD (by let O:@LT.lt Z5 _ b h'.objs.size:=amb e;let hs:h'.objs.size=S:=p;omega);exact(amt _ _ O).trans ((amt _ _ O).trans<|kp b o e)
 generalize (h2.update S (Obj.mapSeq (·.push Value.none))).update S (Obj.mapSeq (·.pop))=h4 at B c ⊢;let ac:=rv.length;let nS:H1 S=Z0:=I2.hok.fresh (by grind);let I4:Inv X X4 σ (Z9 H1 S (.lst [])) {s1 with heap:=h4,toks:=s1.toks}:=I2.laid (t':=s1.toks) (h':=h4) c (by grind) {amE _,[],_,.nil,B};let hh:X.A.handled=Z0:=I1.ok.hd hc;let ae:@LT.lt Z5 _ l i0:=ll;refine al9 ⟨aon _ d7,ML (X:=X) (X4:=X4) (σ:=σ) (H0:=Z9 H1 S<|.lst []) (by simp[hh]) rv (S:=S) (e:=e0) (it:=i0) (l:=l) (qD o5) (qD o5) (qD o5) (qD o5) (qD o5) (qD o5) hz _ (λH' s' ts I' k' tl a9 hE=>?_) xs.length 0 (Z9 H1 S<|.lst []) _ [] o5 (amE _) I4 {by rw[au<|qD o5];exact U.1,U.2} {by rw[au<|qD o5];exact fi.1,fi.2} (.inl {J,c _ _ L}) (by
  let⟨o,i,r⟩:=z2;exact{o,c _ _ i,r}) (by
  let⟨o,i,r⟩:=a0;exact{o,c _ _ i,r}) (λb o _ e=>e) aj J λj t e=>by simp at e⟩
 refine{J,.ref S,H',I',J,q S ts H' nS (λb o eb=>k' b o (aA eb nS)<|(au<|aA eb nS) ▸ eb) tl a9 λj t ej=>?_};let⟨a1,a2⟩:=hE j t ej;refine{?_,a2};by_cases ht:t=S
 .grind
 .rw[au ht] at a1;exact a1
end
def qZ{f:Z5->Z4}:∀k i,i≤k->f i≤f (argBest (λi j=>decide (f i>f j)) k)
 |0,i,h=>by rw[show i=0 by omega];exact aoB _
 |k+1,i,h=>by
  let e:argBest (λi j=>decide (f i>f j)) (k+1)=if decide (f (k+1)>f (argBest (λi j=>decide (f i>f j)) k)) then k+1 else argBest (λi j=>decide (f i>f j)) k:=rfl
  rw[e];by_cases a:f (k+1)>f (argBest (λi j=>decide (f i>f j)) k)
  .rw[ama<|amA a];by_cases hi:i=k+1
   .rw[hi];exact aoB _
   .let:=qZ (f:=f) k i o5;omega
  .rw[al8 (⇑a)];by_cases hi:i=k+1
   .rw[hi];omega
   .exact qZ k i o5
def yS{bt:Z5->Z5->Bool}:∀k,argBest bt k≤k
 |0=>amd _
 |k+1=>by
  let e:argBest bt (k+1)=if bt (k+1) (argBest bt k) then k+1 else argBest bt k:=rfl
  rw[e];let:=yS (bt:=bt) k;split <;> omega
open PySem PySem.Spec PyProof.Rows Builtin Builtin.Str
section
variable{c:Z4}(h0:0≤c)(h1:c<10 ^ 20)
include h0 h1
end
@[elab_as_elim] def ln0{P:mu nF->Z3}(us:mu nF)(a:us.length=0)(h:P []):P us:=by
 cases us with
 |nil=>exact h
 |cons=>cases a
@[elab_as_elim] def ln1{P:mu nF->Z3}(us:mu nF)(b:us.length=1)(h:∀a,P [a]):P us:=by
 cases us with
 |nil=>cases b
 |cons x us=>exact ln0 (P:=λl=>P (x::l)) us (amF b)<|h x
@[elab_as_elim] def ln2{P:mu nF->Z3}(us:mu nF)(c:us.length=2)(h:∀a b,P [a,b]):P us:=by
 cases us with
 |nil=>cases c
 |cons x us=>exact ln1 (P:=λl=>P (x::l)) us (amF c)<|h x
@[elab_as_elim] def ln3{P:mu nF->Z3}(us:mu nF)(f:us.length=3)(h:∀a b c,P [a,b,c]):P us:=by
 cases us with
 |nil=>cases f
 |cons x us=>exact ln2 (P:=λl=>P (x::l)) us (amF f)<|h x
@[elab_as_elim] def ln4{P:mu nF->Z3}(us:mu nF)(f:us.length=4)(h:∀a b c d,P [a,b,c,d]):P us:=by
 cases us with
 |nil=>cases f
 |cons x us=>exact ln3 (P:=λl=>P (x::l)) us (amF f)<|h x
@[elab_as_elim] def ln5{P:mu nF->Z3}(us:mu nF)(f:us.length=5)(h:∀a b c d e,P [a,b,c,d,e]):P us:=by
 cases us with
 |nil=>cases f
 |cons x us=>exact ln4 (P:=λl=>P (x::l)) us (amF f)<|h x
@[elab_as_elim] def ln6{P:mu nF->Z3}(us:mu nF)(g:us.length=6)(h:∀a b c d e f,P [a,b,c,d,e,f]):P us:=by
 cases us with
 |nil=>cases g
 |cons x us=>exact ln5 (P:=λl=>P (x::l)) us (amF g)<|h x
@[elab_as_elim] def ln7{P:mu nF->Z3}(us:mu nF)(i:us.length=7)(h:∀a b c d e f g,P [a,b,c,d,e,f,g]):P us:=by
 cases us with
 |nil=>cases i
 |cons x us=>exact ln6 (P:=λl=>P (x::l)) us (amF i)<|h x
@[elab_as_elim] def ln8{P:mu nF->Z3}(us:mu nF)(j:us.length=8)(h:∀a b c d e f g i,P [a,b,c,d,e,f,g,i]):P us:=by
 cases us with
 |nil=>cases j
 |cons x us=>exact ln7 (P:=λl=>P (x::l)) us (amF j)<|h x
@[elab_as_elim] def ln9{P:mu nF->Z3}(us:mu nF)(m:us.length=9)(h:∀a b c d e f g i j,P [a,b,c,d,e,f,g,i,j]):P us:=by
 cases us with
 |nil=>cases m
 |cons x us=>exact ln8 (P:=λl=>P (x::l)) us (amF m)<|h x
@[elab_as_elim] def ln10{P:mu nF->Z3}(us:mu nF)(m:us.length=10)(h:∀a b c d e f g i j k,P [a,b,c,d,e,f,g,i,j,k]):P us:=by
 cases us with
 |nil=>cases m
 |cons x us=>exact ln9 (P:=λl=>P (x::l)) us (amF m)<|h x
def GA(K:Frag)(x:Z6)(a:nt):Z3:=nsIn K mainGlobals x=some (some<|.ref a)
def GN(K:Frag)(x:Z6):Z3:=nsIn K mainGlobals x=some Z0
def FA(K:Frag)(C:nt)(m:Z6)(f:nt):Z3:=findIn K (.ref C) m=some (some<|.ref f)
def GF(K:Frag)(x:Z6)(st:Stmt):Z3:=∃f fd,GA K x f/\Fun K x x st f fd
def MV(K:Frag)(m q:Z6)(st:Stmt)(f:nt):Z3:=isFn K (.ref f)=Z1/\∃fd,Fun K m q st f fd
def MF(K:Frag)(C:nt)(m q:Z6)(st:Stmt):Z3:=∃f,FA K C m f/\MV K m q st f
def EC(K:Frag)(C:nt):Z3:=cQ K C/\keepIn K (.ref C)=Z1
def PX(K:Frag)(C:nt):Z3:=Cls K C/\makesIn K C=Z1/\keepIn K (.ref C)=Z1
structure Bs(P:q9)(w:wo)(K:Frag)(mg:Z6->o9 nF)(base:Heap):Z3 where
 ex:∃h:Heap,K.In h/\h.Ns mainGlobals mg
abbrev Bd(x q:Z6)(st:Stmt)(ps:mu Z6):Z3:=∀kV b f c a ct us,us.length=ps.length->bindArgs (fnOf x q (er st) (c7 st) (az st) .none kV b f c a ct) {us,[]}=pure (ps.zip us)
section
variable{P:q9}{w:wo}{K:Frag}{mg:Z6->o9 nF}{base:Heap}{x q m:Z6}{st:Stmt}{f C:nt}{fd:qd}{N ps:mu Z6}{k:Z5}{sp:Sp}
def Bs.at_(Y:Bs P w K mg base)(a:GA K x f):mg x=some (.ref f):=by let⟨h,X,G⟩:=Y.ex;exact amf X G a
def bdA{m q:Z6}{st:Stmt}{ps:mu Z6}(h:Bd m q st ps:=by intro _ _ _ _ _ _ us a;first|exact ln0 us a rfl|exact ln1 us a λ_=>rfl|exact ln2 us a λ_ _=>rfl|exact ln3 us a λ_ _ _=>rfl|exact ln4 us a λ_ _ _ _=>rfl|exact ln5 us a λ_ _ _ _ _=>rfl|exact ln6 us a λ_ _ _ _ _ _=>rfl|exact ln7 us a λ_ _ _ _ _ _ _=>rfl|exact ln8 us a λ_ _ _ _ _ _ _ _=>rfl|exact ln9 us a λ_ _ _ _ _ _ _ _ _=>rfl|exact ln10 us a λ_ _ _ _ _ _ _ _ _ _=>rfl):Bd m q st ps:=h
def GF.d(l:GF K x st)(Y:Bs P w K mg base)(h:∀{f fd},Fun K x x st f fd->aM P w K mg base (CXx P w) k f fd ps sp)(b:Bd x x st ps:=by exact bdA):DefX P w K mg base x k ps sp:=by let⟨f,fd,a,F⟩:=l;exact{f,fd,Y.at_ a,h F,F.kp,F.binds b}
def MV.d(l:MV K m q st f)(a:FA K C m f)(Y:Bs P w K mg base)(h:∀{f fd},Fun K m q st f fd->aM P w K mg base (CXx P w) k f fd ps sp)(b:Bd m q st ps:=by exact bdA):zo P w K mg base C m k ps sp:=by let⟨i,fd,F⟩:=l;exact{f,fd,⟨a,i,F.kp⟩,h F,F.binds b}
def MF.d(l:MF K C m q st)(Y:Bs P w K mg base)(h:∀{f fd},Fun K m q st f fd->aM P w K mg base (CXx P w) k f fd ps sp)(b:Bd m q st ps:=by exact bdA):zo P w K mg base C m k ps sp:=by let⟨f,a,l⟩:=l;exact l.d a Y h b
def MF.e(l:MF K C "__init__" q st)(a:GA K x C)(e:EC K C)(Y:Bs P w K mg base)(h:∀{f fd},Fun K "__init__" q st f fd->aM P w K mg base (CXx P w) k f fd ps sp)(c:Bd "__init__" q st ps:=by exact bdA):Nl P w K mg base x C k ps sp:=by let⟨f,b,i,fd,F⟩:=l;exact{f,fd,Y.at_ a,⟨e.1,b,i,e.2⟩,h F,F.binds c}
def MF.mk1(l:MF K C "__init__" q st)(a:GA K x C)(e:PX K C)(Y:Bs P w K mg base)(h:∀{f fd},Fun K "__init__" q st f fd->aM P w K mg base (CXx P w) k f fd ps sp)(c:Bd "__init__" q st ps:=by exact bdA):Cs P w K mg base x C k ps sp:=by let⟨f,b,i,fd,F⟩:=l;exact{f,fd,Y.at_ a,⟨e.2.1,b,i,e.2.2⟩,h F,F.binds c}
def Fun.okY(F:Fun K x q st f fd)(S:aG N ps (az st))(h:∀vs H Q E,sp vs H Q E->vs.length=ps.length/\∀a A outer s,cO k (A.deeper (envOfC q (az st) (~~~s) f a)) →
   ∃t,PSs (bq (CXx P w) P w K mg base N q (az st) f a A outer s H E) (c7 st) t/\t {nx:=λ_ H'=>Q .non H',rt:=Q} (start N vs) H):aM P w K mg base (CXx P w) (k+1) f fd ps sp:=
 F.okX S (λvs H Q E e=>(h vs H Q E e).1) λa A outer s H vs Q E b e=>(h vs H Q E e).2 a A outer s b
end
section
variable{X:Cx}{k n:Z5}{C:nt}{ps:mu Z6}{sp:Sp}{E:XS}{x m:Z6}{p pos apos:Pos}{e o:Expr}{es:mu Expr}{ta:TE}{t:TA}
def pcS(D:DefX X.prog X.w X.K X.mg X.base x k ps sp)(c:cS X E)(f:cO n X.A)(i:PA X (e::es) t)(h:k≤n:=by first|decide|omega)(g:Gl X x:=by rfl)(a:(x ==("__debug__":Str))=Z2:=by decide)(he:starEach (e::es) X.env =(Z2,eval e X.env)::starEach es X.env:=by rfl)(b:(backTo pos (starEach es X.env)).any (·.1)=Z2:=by rfl) :
  PE X (.Call (.Name x p) (e::es) [] pos) (DS sp E t):=MO D c (f.mono h) g i a he b
def psS(i:Z5){x:Z6}{e:Expr}{te:TE}{pos pos':Pos}(b:X.N.Nodup)(he:PE X e te)(hi:X.N[i]?=some x:=by rfl)(a:Loc X.env.scope x:=by exact Or.inl J)(hs:swapsWith e (some (.Name x pos')) pos.line X.env=pure Z2:=by rfl)(c:X.fn x=Z1∨X.env.scope.names.lookup x=some .local:=by first|exact .inl rfl|exact .inr rfl|assumption) :
  PS X (.Assign [.Name x pos'] e pos) (HW te (tN i)):=Ws b hi a he hs c
def pgN(i:Z5)(b:X.N.Nodup)(c:X.fn x=Z1∨X.env.scope.names.lookup x=some .local:=by first|exact .inl rfl|exact .inr rfl|assumption)(hi:X.N[i]?=some x:=by rfl)(a:Loc X.env.scope x:=by exact Or.inl J):PG X (.Name x pos) (tN i):=U3 b hi a c
end
def dE(w:wo)(e:Z6×Tok×nF):DictEntry:={hashStr w e.1,.str e.1 e.2.1,e.2.2}
def gdn{P:q9}{w:wo}{K:Frag}{a:nt}{ep:Z5}(es:mu (Z6×Tok×nF))(b:(es.map (·.1)).Nodup)(h:K.lookup a=some {.type "dict",Z0,.dict (es.map (dE w)).toArray ep,#[]}){c:Heap}(X:K.In c):c.DictOf (cg P w) a (es.map λe=>((Sum.inr e.1:Key),e.2.2)):=by
 exists _,_,_,X a _ h,⟨J,J,J⟩,J,?_,?_
 .intro e he;simp only[List.mem_toArray,List.mem_map] at he;let⟨x,_,rfl⟩:=he;exact{Sum.inr x.1,uJ x.1 x.2.1,J}
 .clear h b;show Pairs _ (es.map<|dE w) _
  induction es with
  |nil=>exact .nil
  |cons e es f=>exact .cons (uJ e.1 e.2.1) J f
 .rw[aoq];exact aox.mpr ((aox.mp b).imp λh e=>h<|Sum.inr.inj e)
def BD{es:mu (Z6×Tok×nF)}(b:(es.map (·.1)).Nodup){e:Z6×Tok×nF}(h:e∈es):valueAt (es.map λe=>((Sum.inr e.1:Key),e.2.2)) (Sum.inr e.1)=some e.2.2:=by
 induction es with
 |nil=>cases h
 |cons x es c=>
  rw[amR,amC] at b;unfold valueAt;rw[amR,apM];rcases amq.mp h with rfl|h
  .simp
  .let a:x.1≠e.1:=λz=>b.1 (z ▸ anz h)
   simp only[Sum.inr.injEq,a,decide_false];exact c b.2 h
def GDF(P:q9)(w:wo)(K:Frag)(mg:Z6->o9 nF)(a:nt)(l:mu (Z6×Z6)):Z3:=(a==sysModules)=Z2/\∀h:Heap,K.In h->∃vs:mu (Key×nF),h.DictOf (cg P w) a vs/\∀ p∈l,valueAt vs (Sum.inr p.1)=mg p.2
def agz{P:q9}{w:wo}{K:Frag}{mg:Z6->o9 nF}{a:nt}{ep:Z5}(es:mu (Z6×Tok×nF))(l:mu (Z6×Z6))(hs:(a==sysModules)=Z2)(h:K.lookup a=some {.type "dict",Z0,.dict (es.map (dE w)).toArray ep,#[]})(f:l.map (·.1)=es.map (·.1))(c:(l.map (·.1)).Nodup)(j:l.map (λp=>mg p.2)=es.map λe=>some e.2.2):GDF P w K mg a l:=by rw[f] at c;refine{hs,λm X=>{_,gdn es c h X,λp b=>?_}};let⟨i,hi⟩:=amQ.mp b;let h1:=congrArg (λl=>l[i]?) f;let h2:=congrArg (λl=>l[i]?) j;simp only[List.getElem?_map,hi,Option.map_some] at h1 h2;let⟨e,he,g⟩:=ami.mp h1.symm;rw[he] at h2;rw[←g,BD c<|aml he];exact(amw h2).symm
inductive D0(Kn:Z6->Z3)(F:Z6->Sp)(E:XS)(t:TA)(σ:St)(Q:VK)(y:V)(H1:Hp):Z3
 |m z(_:y=.str z)(_:Kn z)(_:t σ H1 λvs H2=>F z vs H2 Q (E σ))
def acL(a:Z6->Z3)(F:Z6->Sp)(E:XS)(ty:TE)(t:TA):TE:=λσ H Q=>ty σ H λy H1=>D0 a F E t σ Q y H1
def MJ{X:Cx}{d:nt}{l:mu (Z6×Z6)}{j:Z6->Z3}{F:Z6->Sp}{k:Z5}{E:XS}{o i e:Expr}{es:mu Expr}{p pos:Pos}{ty:TE}{t:TA}(g:GDF X.prog X.w X.K X.mg d l)(U:∀z,j z->∃n ps,(z,n)∈l/\DefX X.prog X.w X.K X.mg X.base n k ps (F z))(C:cS X E)(L:cO k X.A)(ho:PE X o (tC (.ref d)))(hi:PE X i ty)(hs:IC i)(ha:PA X (e::es) t)(he:starEach (e::es) X.env =(Z2,eval e X.env)::starEach es X.env:=by rfl)(a:(backTo pos (starEach es X.env)).any (·.1)=Z2:=by rfl)(O:eval (.Call (.Subscript o i p) (e::es) [] pos) X.env =(do callWith pos (←eval (.Subscript o i p) X.env) [] (backTo pos (starEach (e::es) X.env)) (backToKw pos (keywordEach [] X.env))):=by rfl) :
  PE X (.Call (.Subscript o i p) (e::es) [] pos) (acL j F E ty t):=by
 intro X4 s σ H Q I h;rw[O];refine al6<|Av aoh.lookup hs (thn (ho X4 s σ H (λv H'=>v=.ref d/\H'=H) I ⟨J,J⟩) λ u s1 ⟨x,H1,I1,rx,ex,eH⟩=>?_);subst ex eH;obtain rfl:u=Value.ref d:=rx;refine thn (hi X4 s1 σ _ _ I1 h) λ iv s2 ⟨y,H2,I2,ry,c⟩=>?_
 let⟨z,rfl,S,c⟩:=c;let⟨n,ps,Y,D⟩:=U z S;let⟨f,fd,m,Fn,kp,b⟩:=D.ex;let⟨vs,dd,hv⟩:=g.2 s2.heap I2.kIn;exists dd.typeIs;let B:=hv _ Y;rw[m] at B;refine apv (oH (k:=Sum.inr z) ry) dd.mapOf B ?_;refine anc (h₀:=X.base) I.ok.mod.kin kp (thn (ha pos X4 _ σ H2 _ (I2.tok _) c) λ us s3 ⟨vs,H3,I3,r,q⟩=>{I3.kIn,?_}) he a;exact rF Fn L b C I3 r q
def RelV.Yc{x:V}{u:nF}(h:HN u=some x):RelV x u:=by unfold HN at h;split at h <;> first|(cases h;first|exact{1}|rfl)|cases h
def fY(K:Frag)(a:nt)(xs:mu V):Bool:=match K.lookup a with
 |some ⟨.type t,_,.seq its _,_⟩=>t == "tuple" &&(decide (its.size≤1000)&&decide (its.toList.map HN=xs.map some))
 |_=>Z2
def Kw{K:Frag}{a:nt}{xs:mu V}(h:fY K a xs=Z1){H:Hp}:X3 K H a xs:=by
 unfold fY at h;split at h
 .rename_i t _ b n _ e;simp only[Bool.and_eq_true,beq_iff_eq,decide_eq_true_eq] at h;let⟨rfl,h1,h2⟩:=h;refine .inr {_,b,n,e,J,J,amV<|bF h1,?_};clear h1 e;generalize b.toList=us at h2
  induction us generalizing xs with
  |nil=>cases xs with
   |nil=>exact .nil
   |cons x xs=>simp at h2
  |cons u us c=>cases xs with
   |nil=>simp at h2
   |cons x xs=>simp only[List.map_cons,List.cons.injEq] at h2;exact .cons (RelV.Yc h2.1)<|c h2.2
 .cases h
def GDT(P:q9)(w:wo)(K:Frag)(a:nt)(l:mu (Z6×mu V)):Z3:=(a==sysModules)=Z2/\∀h:Heap,K.In h->∃vs:mu (Key×nF),h.DictOf (cg P w) a vs/\∀ p∈l,∃b,valueAt vs (Sum.inr p.1)=some (.ref b)/\∀H,X3 K H b p.2
def aaB{P:q9}{w:wo}{K:Frag}{a:nt}{ep:Z5}(es:mu (Z6×Tok×nF))(l:mu (Z6×mu V))(hs:(a==sysModules)=Z2)(h:K.lookup a=some {.type "dict",Z0,.dict (es.map (dE w)).toArray ep,#[]})(g:l.map (·.1)=es.map (·.1))(f:(l.map (·.1)).Nodup)(n:∀ p∈es.zip l,∃b,p.1.2.2=.ref b/\fY K b p.2.2=Z1):GDT P w K a l:=by rw[g] at f;refine{hs,λq X=>{_,gdn es f h X,λp c=>?_}};let⟨i,hi⟩:=amQ.mp c;let h1:=congrArg (λl=>l[i]?) g;simp only[List.getElem?_map,hi,Option.map_some] at h1;let⟨e,he,m⟩:=ami.mp h1.symm;let⟨b,j,o⟩:=n (e,p)<|aml (i:=i) (by rw[apm];exact⟨he,hi⟩);exact{b,by rw[←m,BD f<|aml he,j],λH=>Kw o}
inductive K7(l:mu (Z6×mu V))(Q:VK)(y:V)(H1:Hp):Z3
 |m z xs(_:y=.str z)(_:(z,xs)∈l)(_:Q (.bl Z1) H1)
def akF(l:mu (Z6×mu V))(ty:TE):TE:=λσ H Q=>ty σ H λy H1=>K7 l Q y H1
inductive SK(K:Frag)(l:mu (Z6×mu V))(Q:VK)(y:V)(H1:Hp):Z3
 |m z xs(_:y=.str z)(_:(z,xs)∈l)(_:∀b,(∀H,X3 K H b xs)->Q (.ref b) H1)
def tGT(K:Frag)(l:mu (Z6×mu V))(ty:TE):TE:=λσ H Q=>ty σ H λy H1=>SK K l Q y H1
section
variable{X:Cx}{i o:Expr}{pos:Pos}{ty:TE}{d:nt}{l:mu (Z6×mu V)}
def ad7(g:GDT X.prog X.w X.K d l)(hi:PE X i ty)(j:PE X o (tC (.ref d))):PC X .In i o (akF l ty):=by
 intro X4 s σ H Q I h;refine thn (hi X4 s σ H _ I h) λ n s1 ⟨y,H1,I1,ry,q1⟩=>thn (j X4 s1 σ H1 (λv H'=>v=.ref d/\H'=H1) I1 ⟨J,J⟩) λ u s2 ⟨x,H2,I2,rx,ex,eH⟩=>?_
 let⟨z,xs,m,c,q1⟩:=q1;subst ex eH m;obtain rfl:u=Value.ref d:=rx;let⟨vs,dd,f⟩:=g.2 s2.heap I2.kIn;let⟨b,a,_⟩:=f _ c;refine wpAny_in_of (oH (k:=Sum.inr z) ry) g.1 dd.mapOf ?_;rw[a];exact{.bl _,_,I2.tok _,J,q1}
def aiX(g:GDT X.prog X.w X.K d l)(n:PE X o (tC (.ref d)))(hi:PE X i ty)(hs:IC i):PE X (.Subscript o i pos) (tGT X.K l ty):=by
 intro X4 s σ H Q I h;refine Av aoh.lookup hs (thn (n X4 s σ H (λv H'=>v=.ref d/\H'=H) I ⟨J,J⟩) λ u s1 ⟨x,H1,I1,rx,ex,eH⟩=>?_);subst ex eH;obtain rfl:u=Value.ref d:=rx;refine thn (hi X4 s1 σ _ _ I1 h) λ q s2 ⟨y,H2,I2,ry,a⟩=>?_
 let⟨z,xs,p,j,a⟩:=a;subst p;let⟨vs,dd,m⟩:=g.2 s2.heap I2.kIn;let⟨b,c,f⟩:=m _ j;exists dd.typeIs;exact apv (oH (k:=Sum.inr z) ry) dd.mapOf c {.ref b,_,I2.tok _,J,a b f}
end
def DP{X:Cx}{hs:mu ExceptHandler}:PH X hs (λ_ _ _ _ _=>False):=by
 unfold PH
 intros
 exact False.elim (by assumption)
def Vy{X:Cx}{o e:Expr}{es:mu Expr}{m:Z6}{apos pos:Pos}{to:TE}{pl:Sem Bool}(he:PE X o to)(a:eval (.Call (.Attribute o m apos) (e::es) [] pos) X.env =(do
   let ov ←eval o X.env
   standAt apos.atName
   let (f,first) ←holding [ov] (getMethod ov m pl)
   callWith pos f first (backTo pos (starEach (e::es) X.env)) (backToKw pos (keywordEach [] X.env))):=by rfl) :
  PE X (.Call (.Attribute o m apos) (e::es) [] pos) (λσ H _=>to σ H λ_ _=>False):=by
 intro X4 s σ H Q I h;exact an4 (pl:=pl) (thn (he X4 s σ H _ I h) λ u s1 ⟨x,H1,I1,rx,f⟩=>f.elim) a
def DJ(K:Frag)(l:mu nt):Bool:=(List.range l.length).all λi=>(List.range l.length).all λj=>match l[i]?,l[j]? with
 |some a,some b=>decide (mroIn K a (.ref b)=some (decide (i=j)))
 |_,_=>Z2
def bW{K:Frag}{l:mu nt}(h:DJ K l=Z1)(i j:Z5){a b:nt}(f:l[i]?=some a)(c:l[j]?=some b):mroIn K a (.ref b)=some (decide (i=j)):=by let h1:=amZ.mp h i<|anJ.mpr (amc.mp f).1;let h2:=amZ.mp h1 j<|anJ.mpr (amc.mp c).1;rw[f,c] at h2;exact ani h2
def Dq{X:Cx}{e:Expr}:PE X e (λ_ _ _=>False):=λ_ _ _ _ _ _ h=>h.elim
def Jz{P:q9}{w:wo}{K:Frag}{tg:Expr}(it:nt)(lo:Z4)(n:Z5):Turn P w K tg (Itr lo n) [it] it (λi h=>IsLongIter h it (lo +(i:Z5)*1) (↥n -(i:Z5)) 1) where
 mem:=by simp
 obj:=λi h st b a=>by
  let e:b=it:=⇑a
  subst e;exact⟨_,st,λv z=>by let A:Data.fields _=Data.cell v:=z;cases A⟩
 keep:=λi h h' st k=>k it o7 _ st
 item:=by
  intro X l q u j i X4 s σ H E I f st m;subst l q u;let⟨f0,f1,f2,r,g,p⟩:=f it o7;let W:=Walks.longrange (prog:=X.prog) (w:=X.w) (I.ok.hd j) it lo 1 n;refine W.item i s _ _ m st λv h' x C c F=>?_
  let⟨t,rfl⟩:=C;let B:Inv X X4 σ H {s with heap:=h',toks:=x}:=I.turned (λb o a e=>F b o (⇑a) e) f0 f1 r g p;refine{1,wV (s:={s with heap:=h',toks:=x}) (n:="longrange_iterator") c J J o6 {.int (lo+i),H,B,{t,?_},⟨J,J⟩,c,λb a=>(f b a).1}};rw[Int.mul_one]
 done:=by intro X l q u j i X4 s σ H E I f st m;subst l q u;let⟨f0,f1,f2,r,g,p⟩:=f it o7;exact wpAny_pyNext_long_end (I.ok.hd j) st (by let:n≤i:=m;omega) λh' y=>{J,I.turned (t':=s.toks) (λb o a e=>y b o a e) f0 f1 r g p}
 self:=λ_ _ _ _ _ st h=>wpAny_pyIter_longiter st h
section
variable{X:Cx}{tg:Expr}
def Ly{X4:mu (nt×Obj)}{σ:St}{H:Hp}{s:qb}{R:It->Hp->Z3}{E:nF->qb->Z3}{lo hi:Z4}{t u v:Tok}{f:Z5}(I:Inv X X4 σ H s)(a:Builtin.Range.small lo hi 1=Z2)(q:R (Itr lo (hi-lo).toNat) H):wpAny (model X.prog X.w) X.A (pyIter (.ref (~~~s))) (PIE X X4 σ tg R) E {s with heap:=s.heap.push {.type "range",Z0,.fields #[.int lo t,.int hi u,.int 1 v],#[]},toks:=f}:=by
 refine wpAny_pyIter_longrange (IsRange.new ..) a ?_;let c:Inv X X4 σ H {s with heap:=s.heap.push {.type "range",Z0,.fields #[.int lo t,.int hi u,.int 1 v],#[]},toks:=f}:=I.kept λb o e=>al7 _ e
 refine⟨(s.heap.push {.type "range",Z0,.fields #[.int lo t,.int hi u,.int 1 v],#[]}).objs.size,[(s.heap.push {.type "range",Z0,.fields #[.int lo t,.int hi u,.int 1 v],#[]}).objs.size],_,_,H,J,
  c.kept (t':=f) λb o e=>al7 _ e,Jz _ lo (hi-lo).toNat,?_,λb a=>?_,q⟩
 .let h:lo +((0:Z5):Z4)*1=lo:=by simp
  let g:(((hi-lo).toNat:Z5):Z4) -((0:Z5):Z4)=Builtin.Range.rangeSize lo hi 1:=by rw[rangeSize_one];split <;> omega
  show IsLongIter _ _ (lo +((0:Z5):Z4)*1) ((((hi-lo).toNat:Z5):Z4) -((0:Z5):Z4)) 1;rw[h,g];exact amh _ J
 .let e:b =(s.heap.push {.type "range",Z0,.fields #[.int lo t,.int hi u,.int 1 v],#[]}).objs.size:=⇑a
  subst e;exact c.m7 (amd _)<|c.hok.fresh<|amd _
inductive Hg(R:It->Hp->Z3)(vs:mu V)(H1:Hp):Z3
 |m (i j:Z4)(_:vs=[.int i,.int j])(_:(-(2 ^ 62)≤i/\i<2 ^ 62/\-(2 ^ 62)≤j/\j<2 ^ 62)∨2 ^ 63≤i)(_:R (Itr i (j-i).toNat) H1)
def akh(ta:TA):TI:=λσ H R=>ta σ H λvs H1=>Hg R vs H1
def Kl{a b:Expr}{ta:TA}{p pos:Pos}(n:Gl X "range")(o:X.mg "range" = Z0)(y:PA X [a,b] ta)(hs:starEach [a,b] X.env=[(Z2,eval a X.env),(Z2,eval b X.env)]:=by rfl)(c:starEach [b] X.env=[(Z2,eval b X.env)]:=by rfl) :
  PI X tg (.Call (.Name "range" p) [a,b] [] pos) (akh ta):=by
 intro X4 s σ H R I h;refine Call_<|jK I n o boot_range<|am0 (thn (y pos X4 s σ H _ I h) λ us s1 ⟨vs,H1,I1,r1,q1⟩=>?_) (by rw[hs,c]) (by rw[c];rfl);let⟨i,j,e,g,q⟩:=q1;subst e;cases r1 with
 |cons r f=>
  cases f with
  |cons x f=>
   cases f;let⟨t,rfl⟩:=r;let⟨t',rfl⟩:=x;rcases g with⟨q1,v,m,u⟩|z
   .exact call_range_2 (yG I1 q1 v m u q)
   .let l:Builtin.Range.small i j 1=Z2:=by
     let e:Builtin.Range.rangeFitsLong i=Z2:=by unfold Builtin.Range.rangeFitsLong;simp;omega
     unfold Builtin.Range.small;rw[e];rfl
    exact call_range_2<|Ly I1 l q
end
def GW:∀{l:mu Z5}{n:Z5},n∈l->n≤l.sum
 |x::l,n,h=>by
  rw[List.sum_cons];rcases amq.mp h with h|h
  .omega
  .let:=GW h;omega
def split_le{z p:Z6}{c:Z5}(a:p∈Txt.split z ⟨#[c]⟩):p.length≤z.length:=by let e:=aoo z ⟨#[c]⟩;let h:=congrArg PySem.Str.length e;rw[←aoH,size_glued] at h;let:=GW (anz (f:=(·.length)) a);omega
def Hz{z:Z6}{c:Z5}:(Txt.split z ⟨#[c]⟩).length≤z.length+1:=by let e:=aoo z ⟨#[c]⟩;let h:=congrArg PySem.Str.length e;rw[←aoH,size_glued] at h;let:(⟨#[c]⟩:Str).length=1:=rfl;rw[this] at h;omega
def Jm:mu Z6->o9 (Z4×Z4)
 |[a,b]=>if okW a=Z1/\okW b=Z1 then some (intOf a,intOf b) else Z0
 |_=>Z0
def chg(z:Z6):o9 (Z4×Z4):=Jm<|Txt.split z<|Str.ofString "="
def qz{z:Z6}(h:okW z=Z1):z.length≤20:=by simp only[okW,Bool.and_eq_true,decide_eq_true_eq] at h;exact h.1.1.2
def Ka{ps:mu Z6}(h:¬ps.length=2):Jm ps=Z0:=by
 match ps,h with
 |[],_=>rfl
 |[_],_=>rfl
 |[_,_],h=>exact absurd J h
 |_::_::_::_,_=>rfl
inductive At where
 |c (s:Z6)
 |n (k:Z4)
def At.d:At->Z6
 |.c s=>s
 |.n k=>bY k
def dn:mu At->Z6
 |[]=>⟨#[]⟩
 |a::as=>as.foldl (λs b=>s++b.d) a.d
def flA(as:mu At):mu Z5:=as.flatMap λa=>a.d.cps.toList
def nG(as:mu At):(dn as).cps.toList=flA as:=by
 let:∀(as:mu At)(s:Z6),(as.foldl (λs b=>s++b.d) s).cps.toList=s.cps.toList++flA as:=by
  intro as
  induction as with
  |nil=>intro s;simp[flA]
  |cons a as c=>intro s;rw[aoP,c,Ar];simp[flA]
 cases as with
 |nil=>rfl
 |cons a as=>show(as.foldl (λs b=>s++b.d) a.d).cps.toList=_;rw[this];simp[flA]
def ec(p:Z6):mu At:=if p.cps.size=0 then [] else [.c p]
def gl:mu Z6->mu (mu At)->mu (mu At)
 |[p],w::ws=>(ec p++w)::ws
 |p::q::r,ws=>ec p::gl (q::r) ws
 |_,ws=>ws
def cut(s:Z5):mu At->mu (mu At)
 |[]=>[[]]
 |.n k::as=>match cut s as with
  |w::ws=>(.n k::w)::ws
  |[]=>[]
 |.c z::as=>gl (Txt.split z ⟨#[s]⟩)<|cut s as
def fz(as:mu At):Z3:=∀k,At.n k∈as->0≤k/\k<10 ^ 20
def Ec(p:Z6):flA (ec p)=p.cps.toList:=by
 unfold ec;split
 .rename_i h;let:p.cps=#[]:=Array.eq_empty_of_size_eq_zero h;rw[this];rfl
 .simp[flA,At.d]
def rX(a b:mu At):flA (a++b)=flA a++flA b:=by simp[flA]
def jn(s:Z5):mu (mu Z5)->mu Z5
 |[]=>[]
 |[x]=>x
 |x::y::r=>x++s::jn s (y::r)
def zU(s:Z5):∀ws:mu Z6,(Str.join ⟨#[s]⟩ ws).cps.toList=jn s (ws.map (·.cps.toList))
 |[]=>rfl
 |[x]=>rfl
 |x::y::r=>by show(x ++⟨#[s]⟩++Str.join ⟨#[s]⟩ (y::r)).cps.toList=_;rw[Ar,Ar,zU s (y::r)];simp[jn]
def Vq(s:Z5)(x:mu Z5):∀{r:mu (mu Z5)},r≠[]->jn s (x::r)=x++s::jn s r
 |[],h=>absurd J h
 |_::_,_=>rfl
def Ud(s:Z5)(a x:mu Z5)(r:mu (mu Z5)):jn s ((a++x)::r)=a++jn s (x::r):=by cases r <;> simp[jn]
def Ow:∀{ps:mu Z6}{ws:mu (mu At)},ps≠[]->ws≠[]->gl ps ws≠[]
 |[],_,h,_=>absurd J h
 |[p],[],_,h=>absurd J h
 |[p],w::ws,_,_=>by simp[gl]
 |p::q::r,ws,_,_=>by simp[gl]
def NV(s:Z5):∀{ps:mu Z6}{ws:mu (mu At)},ps≠[]->ws≠[]->jn s ((gl ps ws).map flA)=jn s (ps.map (·.cps.toList))++jn s (ws.map flA)
 |[],_,h,_=>absurd J h
 |[p],[],_,h=>absurd J h
 |[p],w::ws,_,_=>by show jn s (flA (ec p++w)::ws.map flA)=_;rw[rX,Ud,Ec];rfl
 |p::q::r,ws,_,hw=>by let a:=NV s (ps:=q::r) (ws:=ws) o7 hw;show jn s (flA (ec p) ::(gl (q::r) ws).map flA)=_;rw[Vq s _<|⇑(Ow o7 hw),a,Ec];simp[jn]
def wF(s:Z5):∀as:mu At,cut s as≠[]
 |[]=>by simp[cut]
 |.n k::as=>by
  let:=wF s as;unfold cut;split
  .simp
  .contradiction
 |.c z::as=>Ow (λh=>by let:=split_pos z ⟨#[s]⟩;rw[h] at this;exact absurd this o6)<|wF s as
def Eu(s:Z5):∀as:mu At,jn s ((cut s as).map flA)=flA as
 |[]=>rfl
 |.n k::as=>by
  let a:=Eu s as;let f:=wF s as;unfold cut;split
  .rename_i w ws e;rw[e] at a;show jn s (((bY k).cps.toList++flA w)::ws.map flA) =(bY k).cps.toList++flA as;rw[Ud,←a];rfl
  .contradiction
 |.c z::as=>by
  show jn s ((gl _ _).map flA)=z.cps.toList++flA as;let b:Txt.split z ⟨#[s]⟩≠[]:=λh=>by let:=split_pos z ⟨#[s]⟩;rw[h] at this;exact absurd this o6
  rw[NV s b<|wF s as,Eu s as,←zU,aoo]
def LJ{s:Z5}{p:Z6}(h:s∉p.cps.toList):s∉flA (ec p):=by rwa[Ec]
def GJ{s:Z5}:∀{ps:mu Z6}{ws:mu (mu At)},(∀ p∈ps,s∉p.cps.toList)->(∀ w∈ws,s∉flA w)->∀ w∈gl ps ws,s∉flA w
 |[],ws,_,hw=>by cases ws <;> simpa[gl] using hw
 |[p],[],_,_=>by simp[gl]
 |[p],w::ws,hp,hw=>by
  intro x a;rcases amq.mp a with rfl|a
  .rw[rX,amy];rintro(z|z)
   .exact LJ (hp p o7) z
   .exact hw w o7 z
  .exact hw x (by simp[a])
 |p::q::r,ws,hp,hw=>by
  intro x a;rcases amq.mp a with rfl|a
  .exact LJ (hp p o7)
  .exact GJ (λy b=>hp y<|amj _ b) hw x a
def yK{s:Z5}(hs:s<48∨57<s):∀{as:mu At},fz as->∀ w∈cut s as,s∉flA w
 |[],_=>by simp[cut,flA]
 |.n k::as,h=>by
  let f:=yK hs (as:=as) λk b=>h k<|amj _ b
  unfold cut;split
  .rename_i w ws e;rw[e] at f;intro x a;rcases amq.mp a with rfl|a
   .show s∉(bY k).cps.toList++flA w;rw[amy];rintro(z|z)
    .exact JP (h k o7).1 hs z
    .exact f w o7 z
   .exact f x (by simp[a])
  .intro x a;cases a
 |.c z::as,h=>GJ (StrLaws.split_free z s) (yK hs λk b=>h k<|amj _ b)
def Ef{s:Z5}(hs:s<48∨57<s){as:mu At}(h:fz as):Txt.split (dn as) ⟨#[s]⟩ =(cut s as).map dn:=by
 let e:dn as=Str.join ⟨#[s]⟩ ((cut s as).map dn):=by
  refine AX ?_;rw[nG,zU,aoq,←Eu s as];congr 1;refine ao2 λw _=>?_
  exact(nG w).symm
 conv=>lhs;rw[e]
 refine IZ (⇑(wF s as)) λp b=>?_
 let⟨w,a,rfl⟩:=amS.mp b;rw[nG];exact yK hs h w a
def wv:mu At->o9 Z4
 |[.n k]=>some k
 |[.c z]=>if okW z=Z1 then some (intOf z) else Z0
 |_=>Z0
def Ji{k:Z4}(h0:0≤k)(h1:k<10 ^ 20):intOf (bY k)=k:=by unfold intOf;rw[sQ h0 h1];rfl
def Cu{w:mu At}{k:Z4}(h:fz w)(e:wv w=some k):okW (dn w)=Z1/\intOf (dn w)=k:=by
 unfold wv at e;split at e
 .cases e;let:=h k o7;exact{U9 this.1 this.2,Ji this.1 this.2}
 .split at e
  .rename_i z a;cases e;exact⟨a,J⟩
  .cases e
 .cases e
def tU{s:Z5}:∀{as:mu At},fz as->∀ w∈cut s as,fz w
 |[],_=>by intro w m k f;simp[cut] at m;subst m;cases f
 |.n k::as,h=>by
  let g:=tU (s:=s) (as:=as) λk f=>h k<|amj _ f
  unfold cut;split
  .rename_i w ws e;rw[e] at g;intro x a j b;rcases amq.mp a with rfl|a
   .rcases amq.mp b with e|b
    .cases e;exact h k o7
    .exact g w o7 j b
   .exact g x (by simp[a]) j b
  .intro x a;cases a
 |.c z::as,h=>by
  let g:=tU (s:=s) (as:=as) λk f=>h k<|amj _ f
  show ∀ w∈gl _ _,fz w;generalize Txt.split z ⟨#[s]⟩=ps;generalize cut s as=ws at g;let i:∀p,fz (ec p):=λp k f=>by unfold ec at f;split at f <;> simp at f
  induction ps with
  |nil=>cases ws <;> simpa[gl] using g
  |cons p ps l=>cases ps with
   |nil=>cases ws with
    |nil=>intro x a;simp[gl] at a
    |cons w ws=>
     intro x a j b;rcases amq.mp a with rfl|a
     .rcases amy.mp b with b|b
      .exact i p j b
      .exact g w o7 j b
     .exact g x (by simp[a]) j b
   |cons q r=>
    intro x a;rcases amq.mp a with rfl|a
    .exact i p
    .exact l x a
def cv(w:mu At):o9 (Z4×Z4):=match cut 61 w with
 |[a,b]=>match wv a,wv b with
  |some x,some y=>some (x,y)
  |_,_=>Z0
 |_=>Z0
def aht{w:mu At}{c:Z4×Z4}(h:fz w)(e:cv w=some c):chg (dn w)=some c:=by
 unfold cv at e;split at e
 .rename_i a b g;split at e
  .rename_i x y j i;cases e;let f:=tU (s:=61) h;rw[g] at f;let h1:=Cu (f a o7) j;let h2:=Cu (f b o7) i;unfold chg;rw[ZU,Ef o6 h,g];show(if okW (dn a)=Z1/\okW (dn b)=Z1 then some (intOf<|dn a,intOf<|dn b) else Z0)=_;rw[ama ⟨h1.1,h2.1⟩,h1.2,h2.2]
  .cases e
 .cases e
inductive Told where
 |chs (l:mu (Z4×Z4))
 |wrd (w:Z6)
 |nums (l:mu Z4)
def Cv:mu Z6:=["whole","since","last"]
def jL:mu (Z6×Z5×o9 Z5):=[("seal",1,some 1),("tidy",0,some 0),("carry",2,some 2),("harm",4,some 4),("heal",2,some 2),("marks",0,some 0),("lies",1,some 1),("line",2,some 2),("reach",1,some 1),("fetch",1,Z0),("price",1,Z0),("way",1,Z0),("plan",6,Z0)]
def iW(n:Z5)(f:Z5×o9 Z5):Bool:=decide (f.1≤n) &&(match f.2 with|some m=>decide (n≤m)|none=>Z1)
def within(hd:Z6)(ns:mu Z4):Z3:=(hd = "harm"->∀b,ns[3]?=some b->b≤18446744073709551615)/\(hd = "plan"->∀ x∈ns.tail,x≤1000000000000)
def A6(hd:Z6)(ns:mu Z4):Bool:=(if hd = "harm" then(match ns[3]? with|some b=>decide (b≤18446744073709551615)|none=>Z1) else Z1) &&(if hd = "plan" then ns.tail.all λx=>decide (x≤1000000000000) else Z1)
def JO{hd:Z6}{ns:mu Z4}(h:A6 hd ns=Z1):within hd ns:=by
 unfold A6 at h;rw[aoF] at h;refine{λe b a=>?_,λe x c=>?_}
 .let h1:=h.1;rw[ama e,a] at h1;exact ani h1
 .let h2:=h.2;rw[ama e] at h2;exact ani<|amZ.mp h2 x c
structure Ro(hd:Z6)(ws:mu Z6)(ns:mu Z4):Z3 where
 fm:∃f,(hd,f)∈jL/\iW ws.length f=Z1
 ok:∀ w∈ws,okW w=Z1
 en:ns=ws.map intOf
 wi:within hd ns
def RowW(hd:Z6)(ws:mu Z6):Told->Z3
 |.chs l=>hd = "day"/\ws.map chg=l.map some
 |.wrd w=>hd = "keep"/\ws=[w]/\w∈Cv
 |.nums ns=>hd≠"day"/\hd≠"keep"/\Ro hd ws ns
def Cr(z hd:Z6)(td:Told):Z3:=∃ws,Txt.split z (Str.ofString " ")=hd::ws/\RowW hd ws td
def DM{α c:Type}(f:α->o9 c):mu α->o9 (mu c)
 |[]=>some []
 |a::as=>match f a,DM f as with
  |some b,some bs=>some (b::bs)
  |_,_=>Z0
def Ax{α c:Type}{f:α->o9 c}:∀{as:mu α}{bs:mu c},DM f as=some bs->as.map f=bs.map some
 |[],bs,h=>by cases h;rfl
 |a::as,bs,h=>by
  unfold DM at h;split at h
  .rename_i b g h1 h2;cases h;rw[amR,amR,h1,Ax h2]
  .cases h
def rd(as:mu At):o9 (Z6×Told):=match cut 32 as with
 |[.c hd]::ws=>if hd = "day" then(match DM cv ws with|some l=>some (hd,.chs l)|none=>Z0)
  else if hd = "keep" then(match ws with|[[.c w]]=>if w∈Cv then some (hd,.wrd w) else none|_=>Z0)
  else match DM wv ws,jL.find? (λp=>p.1=hd) with
   |some ns,some f=>if (iW ws.length f.2&&A6 hd ns)=Z1 then some (hd,.nums ns) else Z0
   |_,_=>Z0
 |_=>Z0
def Cw{as:mu At}{hd:Z6}{td:Told}(h:fz as)(e:rd as=some (hd,td)):Cr (dn as) hd td:=by
 let hs:=Ef (s:=32) o6 h;let z:=tU (s:=32) h;unfold rd at e;split at e
 .rename_i C ws p;rw[p] at hs z;let i:∀ w∈ws,fz w:=λw g=>z w (amj _ g)
  split at e
  .rename_i o;split at e
   .rename_i l B;cases e;exists ws.map dn,by rw[spS,hs];rfl,o;let:=Ax B;rw[aoq];refine Eq.trans (ao2 λw g=>?_) this;obtain⟨c,p⟩:∃c,cv w=some c:=by let n:cv w∈ws.map cv:=anz g;rw[this] at n;let⟨c,_,e⟩:=amS.mp n;exact⟨c,e.symm⟩
    rw[p];exact aht (i w g) p
   .cases e
  .rename_i u;split at e
   .rename_i j;split at e
    .rename_i w;split at e
     .rename_i g;cases e;exact{[w],by rw[spS,hs];rfl,j,J,g}
     .cases e
    .cases e
   .rename_i r;split at e
    .rename_i ns f t y;split at e
     .rename_i q;cases e;rw[aoF] at q;let A:=Ax t;let m:∀ w∈ws,∃k,wv w=some k:=λw g=>by let n:wv w∈ws.map wv:=anz g;rw[A] at n;let⟨c,_,e⟩:=amS.mp n;exact⟨c,e.symm⟩
      refine{ws.map dn,by rw[spS,hs];rfl,u,r,{f.2,?_,by rw[ame];exact q.1},λw g=>?_,?_,JO q.2}
      .let h1:=List.mem_of_find?_eq_some y;let h2:=List.find?_some y;rwa[←ani h2]
      .let⟨x,v,rfl⟩:=amS.mp g;let⟨k,j⟩:=m x v;exact(Cu (i x v) j).1
      .rw[aoq];let:(ws.map (intOf ∘ dn)).map some=ns.map some:=by
        rw[←A,aoq];refine ao2 λw g=>?_
        let⟨k,j⟩:=m w g;rw[j];exact congrArg some (Cu (i w g) j).2
       exact((aqz λa b h=>amw h).mp this).symm
     .cases e
    .cases e
 .cases e
def IL{ws:mu Z6}{a:mu (Z4×Z4)}{i:Z5}{w:Z6}{c:Z4×Z4}(h:(ws.take i).map chg=a.map some)(hi:ws[i]?=some w)(b:chg w=some c):(ws.take (i+1)).map chg =(a++[c]).map some:=by rw[amJ,hi];simp[h,b]
section
variable{X:Cx}
def JC(F:X.calm=Z1):jw X (.builtin "max") (λxs H Q=>∃(a:nt)(ns:mu Z4),xs=[.ref a]/\X0 X.K H a (ns.map Z8)/\ns≠[]/\∀ m∈ns,(∀ x∈ns,x≤m)->Q (.int m) H):=by
 rintro X4 s σ H xs us Q I r ⟨a,ns,rfl,Y,p,q⟩;let⟨u,rfl,U⟩:=vals1 r;cases (show u=Value.ref a from U);let⟨c,rv,pt,_⟩:=I.list Y;let C:=aoN rv;let n:s.heap.IsList a c.toArray:=pt.isList;let l:a<(~~~s):=by let⟨o,e,_⟩:=n;exact amb e
 let y:=ua C;let z:0<ns.length:=aqj.mpr p;let g:∀i v,c.toArray[i]?=some v->∃t,v=Value.int (ns.getD i 0) t:=λi v e=>C.int_at i v (⇑e)
 refine call_max_walk<|an2 n {(~~~s),_,_,_,_,_,1,ap7 (A:=X.A.in1) (I.ok.hd F) _ a (DB l<|amd _) c.toArray,{{_,amh _ J,J,J},let ⟨o,e,r⟩:=n;{o,al7 _ e,r}},λb h=>?_,by simp;omega,CmpOf.ints_gt (λi=>ns.getD i 0) g,λv h' tk L hk=>?_}
 .show b <(s.heap.push _).objs.size;rw[am4];simp only[List.mem_cons,List.not_mem_nil,or_false] at h;rcases h with rfl|rfl
  .exact anL _
  .exact an3 l
 .let⟨t,rfl⟩:=g _ _ L;let b1:=yS (bt:=λi j=>decide (ns.getD i 0>ns.getD j 0)) (c.toArray.size-1);let hsz:c.toArray.size=ns.length:=by simp[y]
  let h:argBest (λi j=>decide (ns.getD i 0>ns.getD j 0)) (c.toArray.size-1)<ns.length:=by omega
  refine{.int _,H,I.kept λb o e=>hk b o (λhm=>?_)<|al7 _ e,⟨t,J⟩,q _ ?_ λx S=>?_}
  .let:b=( ~~~s):=⇑hm
   exact absurd (amb e) (by rw[this];exact anf _)
  .rw[ank,amg h,Option.getD_some];exact anN h
  .let⟨j,B⟩:=amQ.mp S;let O:j<ns.length:=(amc.mp B).1;let:=qZ (f:=λi=>ns.getD i 0) (c.toArray.size-1) j o5;rw[show ns.getD j 0=x by rw[ank,B];rfl] at this;exact this
end
def DQ{n:Z5}:∀{ws:mu Z6},(∀ w∈ws,w.length≤n)->(ws.map (·.length)).sum≤n*ws.length
 |[],_=>by simp
 |w::r,h=>by
  let h1:=h w o7;let h2:=DQ (n:=n) (ws:=r) λc a=>h c<|amj _ a
  simp only[List.map_cons,List.sum_cons,List.length_cons];rw[Nat.mul_add];omega
end L2
namespace Mine
open PySem L2
theorem E5{p:Z3}(h:p:=by show 3≤Z7;decide):p:=h
theorem E4{p:Z3}(h:p:=by show 2≤Z7;decide):p:=h
theorem E3{N ps sc}(h:aG N ps sc:=by exact{rfl,rfl,rfl,by decide +kernel,rfl,by decide +kernel,by decide +kernel}):aG N ps sc:=h
abbrev E1(a:Addr):Option V:=some<|.ref a
abbrev E2(a:Z4):Option V:=some<|.int a
seal PE PA PS PSs PT PTs PG PGs PI
def top(i:Z5):Stmt:=PySem.Challenge.pw_keepsakes_k87_what_the_desk_refuses.main.body.getD i<|.Pass {(0),(0),(0),(0)}
abbrev iT:Stmt:=inClass (top 9) 0
abbrev jf:Stmt:=inClass (top 10) 0
abbrev iY:Stmt:=inClass (top 11) 0
abbrev j7:Stmt:=inClass (top 12) 0
abbrev jB:Stmt:=inClass (top 13) 0
abbrev iS:Stmt:=inClass (top 14) 0
abbrev jD:Stmt:=inClass (top 18) 0
abbrev jF:Stmt:=inClass (top 21) 0
abbrev i8:Stmt:=inClass (top 22) 0
abbrev lE:Stmt:=inClass (top 25) 0
abbrev nW:Stmt:=inClass (top 25) 1
abbrev pR:Stmt:=inClass (top 25) 2
abbrev mH:Stmt:=inClass (top 25) 3
abbrev jH:Stmt:=inClass (top 25) 4
abbrev mO:Stmt:=inClass (top 25) 5
abbrev tH:Stmt:=top 26
abbrev BC:Stmt:=top 31
abbrev Dm:Stmt:=top 32
abbrev DW:Stmt:=top 34
abbrev yl:Stmt:=top 39
abbrev sM:Stmt:=top 40
abbrev j8:Stmt:=inClass (top 42) 0
abbrev lP:Stmt:=inClass (top 42) 2
abbrev mT:Stmt:=inClass (top 42) 3
abbrev eV:Stmt:=inClass (top 43) 0
abbrev nX:Stmt:=inClass (top 43) 1
abbrev pM:Stmt:=inClass (top 43) 2
abbrev jG:Stmt:=inClass (top 43) 4
abbrev fB:Stmt:=inClass (top 44) 0
abbrev pq:Stmt:=inClass (top 44) 1
abbrev qG:Stmt:=inClass (top 44) 2
abbrev ki:Stmt:=inClass (top 44) 4
abbrev tY:Stmt:=top 45
abbrev uN:Stmt:=top 46
abbrev kZ:Stmt:=top 49
abbrev qP:Stmt:=top 50
abbrev qE:Stmt:=top 51
abbrev Bt:Stmt:=top 55
abbrev kr:Stmt:=inClass (top 57) 0
abbrev rm:Stmt:=inClass (top 57) 1
abbrev qO:Stmt:=inClass (top 57) 2
abbrev nR:Stmt:=inClass (top 57) 3
abbrev lu:Stmt:=inClass (top 57) 5
abbrev jI:Stmt:=inClass (top 57) 6
abbrev iZ:Stmt:=inClass (top 57) 8
abbrev kN:Stmt:=top 60
abbrev om:Stmt:=top 61
abbrev je:Stmt:=top 62
abbrev CY:Stmt:=top 66
abbrev tW:Stmt:=top 73
abbrev wB:Stmt:=top 84
abbrev tG:Stmt:=top 89
abbrev oh:Stmt:=top 90
abbrev tE:Stmt:=top 91
abbrev oX:Stmt:=top 92
abbrev qK:Stmt:=top 93
abbrev c6:Stmt:=inClass (top 97) 0
abbrev j9:Stmt:=inClass (top 98) 0
abbrev kj:Stmt:=inClass (top 100) 0
abbrev wH:Stmt:=top 103
abbrev mX:Stmt:=top 104
abbrev kD:Stmt:=inClass (top 115) 0
abbrev mS:Stmt:=inClass (top 115) 1
abbrev oB:Stmt:=inClass (top 115) 2
abbrev pV:Stmt:=inClass (top 115) 3
abbrev pA:Stmt:=inClass (top 115) 4
abbrev nQ:Stmt:=inClass (top 115) 6
abbrev oj:Stmt:=inClass (top 115) 8
abbrev mw:Stmt:=inClass (top 115) 9
abbrev n9:Stmt:=inClass (top 115) 10
abbrev pK:Stmt:=inClass (top 115) 11
abbrev pQ:Stmt:=inClass (top 115) 12
abbrev oA:Stmt:=inClass (top 115) 13
abbrev gP:Stmt:=inClass (top 115) 14
abbrev jz:Stmt:=inClass (top 115) 16
abbrev jE:Stmt:=inClass (top 115) 18
abbrev kB:Stmt:=inClass (top 115) 19
abbrev qc:Stmt:=inClass (top 115) 20
abbrev ku:Stmt:=inClass (top 115) 22
abbrev wc:Stmt:=top 116
abbrev xW:Stmt:=top 118
abbrev vE:Stmt:=top 119
abbrev yL:Stmt:=top 120
abbrev wI:Stmt:=top 121
abbrev vv:Stmt:=top 122
abbrev sI:Stmt:=top 124
abbrev uR:Stmt:=top 125
abbrev vF:Stmt:=top 126
abbrev ue:Stmt:=top 127
abbrev vj:Stmt:=top 128
abbrev uL:Stmt:=top 129
abbrev sN:Stmt:=top 130
abbrev tu:Stmt:=top 131
abbrev uf:Stmt:=top 132
abbrev yt:Stmt:=top 133
abbrev vp:Stmt:=top 134
abbrev kX:Stmt:=inClass (top 136) 0
abbrev sL:Stmt:=inClass (top 136) 1
abbrev qX:Stmt:=top 138
abbrev qS:Stmt:=top 139
abbrev qY:Stmt:=top 140
abbrev mL:Stmt:=top 141
abbrev jJ:Stmt:=top 142
abbrev nY:Stmt:=top 143
abbrev nh:Stmt:=top 144
def uz:aG ["self","wide"] ["self","wide"] (az iT):=E3
def uD:aG ["self","place"] ["self","place"] (az jf):=E3
def uA:aG ["self","block"] ["self","block"] (az iY):=E3
def w6:aG ["self","day"] ["self","day"] (az j7):=E3
def v9:aG ["self","base","day"] ["self","base","day"] (az jB):=E3
def uB:aG ["self","number"] ["self","number"] (az iS):=E3
def vC:aG ["self","found"] ["self","found"] (az jD):=E3
def uY:aG ["self","many"] ["self","many"] (az jF):=E3
def ux:aG ["self","shelf"] ["self","shelf"] (az i8):=E3
def yI:aG ["self","wide"] ["self","wide"] (az lE):=E3
def fQ:aG ["self","changes","place","block","table"] ["self","changes"] (az nW):=E3
def B6:aG ["self","day"] ["self","day"] (az pR):=E3
def kY:aG ["self","one","other","places","day"] ["self","one","other"] (az mH):=E3
def uQ:aG ["self","place","block"] ["self","place","block"] (az jH):=E3
def yX:aG ["self","day"] ["self","day"] (az mO):=E3
def Fx:aG ["wide"] ["wide"] (az tH):=E3
def Ku:aG ["number"] ["number"] (az yl):=E3
def gD:aG ["start","day","rows","numbers","place","block","check","number"] ["start","day","rows"] (az sM):=E3
def oF:aG ["self","start","day","rows","check","fitting"] ["self","start","day","rows","check"] (az j8):=E3
def yf:aG ["self"] ["self"] (az lP):=E3
def mE:aG ["self","at","bits","rows","row"] ["self","at","bits"] (az mT):=E3
def xC:aG ["self","day","rows","check"] ["self","day","rows","check"] (az eV):=E3
def Ab:aG ["self"] ["self"] (az nX):=E3
def Cb:aG ["self"] ["self"] (az pM):=E3
def vQ:aG ["self","rows"] ["self","rows"] (az jG):=E3
def yu:aG ["self","base","day","rows","check"] ["self","base","day","rows","check"] (az fB):=E3
def BX:aG ["self"] ["self"] (az pq):=E3
def ED:aG ["self"] ["self"] (az qG):=E3
def xr:aG ["self","rows"] ["self","rows"] (az ki):=E3
def Fc:aG ["days","day"] ["days","day"] (az tY):=E3
def zm:aG ["days","base","day","places","table"] ["days","base","day"] (az uN):=E3
def yo:aG ["word"] ["word"] (az kZ):=E3
def CC:aG ["word"] ["word"] (az qP):=E3
def vm:aG ["word","parts"] ["word"] (az qE):=E3
def xy:aG ["self"] ["self"] (az kr):=E3
def uZ:aG ["self","piece","number"] ["self","piece"] (az rm):=E3
def Dr:aG ["self","number","piece"] ["self","number","piece"] (az qO):=E3
def An:aG ["self","number"] ["self","number"] (az nR):=E3
def xY:aG ["self"] ["self"] (az lu):=E3
def vI:aG ["self"] ["self"] (az jI):=E3
def mF:aG ["self","days"] ["self"] (az iZ):=E3
def Jb:aG ["shelf","good"] ["shelf","good"] (az kN):=E3
def c5:aG ["shelf","good","starting","last","met","further","start","number","day"] ["shelf","good"] (az om):=E3
def fZ:aG ["shelf","good","starting","number","piece"] ["shelf","good"] (az je):=E3
def ES:aG ["many"] ["many"] (az tW):=E3
def zH:aG ["days","begin","weights","rates","day"] ["days","begin","weights","rates"] (az wB):=E3
def rq:aG ["row","words","told"] ["row"] (az tG):=E3
def rW:aG ["word","rest","numbers"] ["word","rest"] (az oh):=E3
def FW:aG ["word","fits"] ["word","fits"] (az tE):=E3
def Cd:aG ["many","form"] ["many","form"] (az oX):=E3
def Ex:aG ["word","numbers"] ["word","numbers"] (az qK):=E3
def rD:aG ["self","step","many"] ["self","step","many"] (az c6):=E3
def xu:aG ["self","gap"] ["self","gap"] (az j9):=E3
def xm:aG ["self","rules"] ["self","rules"] (az kj):=E3
def Jr:aG ["text"] ["text"] (az wH):=E3
def lT:aG ["part","words","numbers"] ["part"] (az mX):=E3
def w9:aG ["self","wide","rule","seek","each"] ["self","wide","rule","seek","each"] (az kD):=E3
def y9:aG ["self","changes"] ["self","changes"] (az mS):=E3
def A7:aG ["self"] ["self"] (az oB):=E3
def nU:aG ["self","word","piece","number"] ["self","word"] (az pV):=E3
def B7:aG ["self","day"] ["self","day"] (az pA):=E3
def jo:aG ["self","shelf","many","mark","next_ones","deed"] ["self","shelf","many"] (az nQ):=E3
def zZ:aG ["self"] ["self"] (az oj):=E3
def ye:aG ["self","shelf"] ["self","shelf"] (az mw):=E3
def Ag:aG ["self","shelf","number"] ["self","shelf","number"] (az n9):=E3
def uh:aG ["self","shelf","number","at","bits","harmed_piece"] ["self","shelf","number","at","bits"] (az pK):=E3
def Ci:aG ["self","shelf","other","told"] ["self","shelf","other"] (az pQ):=E3
def AJ:aG ["self","shelf"] ["self","shelf"] (az oA):=E3
def BV:aG ["self","some"] ["self","some"] (az gP):=E3
def wC:aG ["self","shelf"] ["self","shelf"] (az jz):=E3
def uF:aG ["self","word"] ["self","word"] (az jE):=E3
def jA:aG ["self","word","base"] ["self","word"] (az kB):=E3
def Co:aG ["self","deed"] ["self","deed"] (az qc):=E3
def jC:aG ["self","some","numbers","number"] ["self","some"] (az ku):=E3
def HG:aG ["shelf","deed"] ["shelf","deed"] (az wc):=E3
def Kf:aG ["things"] ["things"] (az xW):=E3
def HU:aG ["numbers"] ["numbers"] (az vE):=E3
def KS:aG ["store","changes"] ["store","changes"] (az yL):=E3
def IY:aG ["store","words"] ["store","words"] (az wI):=E3
def Ij:aG ["store","numbers"] ["store","numbers"] (az vv):=E3
def FD:aG ["store","numbers"] ["store","numbers"] (az sI):=E3
def Je:aG ["store","numbers"] ["store","numbers"] (az uR):=E3
def HJ:aG ["store","numbers"] ["store","numbers"] (az vF):=E3
def EZ:aG ["store","numbers"] ["store","numbers"] (az ue):=E3
def IA:aG ["store","numbers"] ["store","numbers"] (az vj):=E3
def Jh:aG ["store","numbers"] ["store","numbers"] (az uL):=E3
def xM:aG ["store","numbers","day"] ["store","numbers"] (az sN):=E3
def qT:aG ["store","numbers","some","told"] ["store","numbers"] (az tu):=E3
def xH:aG ["store","numbers","price"] ["store","numbers"] (az uf):=E3
def By:aG ["store","numbers","way"] ["store","numbers"] (az yt):=E3
def zv:aG ["store","numbers","task","told"] ["store","numbers"] (az vp):=E3
def yP:aG ["self","wide","seek","each","rules"] ["self","wide","seek","each","rules"] (az kX):=E3
def xR:aG ["self","row","told"] ["self","row"] (az sL):=E3
def DE:aG ["_law_script","_law_k"] ["_law_script","_law_k"] (az qX):=E3
def bS:aG ["_law_desk","_law_row","_law_found","e"] ["_law_desk","_law_row"] (az qS):=E3
def fW:aG ["_law_wide","_law_rules","_law_found","e"] ["_law_wide","_law_rules"] (az qY):=E3
def gr:aG ["_law_wide","_law_many","_law_cell_here","_law_far","_law_great","_law_lone","_law_eight"] ["_law_wide","_law_many","_law_cell_here"] (az mL):=E3
def fq:aG ["_law_cell_here","_law_other","_law_none","_law_far","_law_lone","_law_piece"] ["_law_cell_here","_law_other"] (az jJ):=E3
def fP:aG ["_law_desk","_law_wide","_law_many","_law_cell_here","_law_lone","_law_far","_law_rows","_law_row","_law_due"] ["_law_desk","_law_wide","_law_many","_law_cell_here"] (az nY):=E3
def jN:aG ["_law_script","_law_first","_law_wide","_law_many","_law_desk","_law_k","_law_rows","_law_row","_law_due","_law_none"] ["_law_script"] (az nh):=E3
def bf{k:Z5}{x:V}{σ:St}(σ':St){H:Hp}{N:St->Hp->Z3}(h:N σ' H)(e:σ.set k (some x)=σ':=by rfl):tN k x σ H N:=by subst e;exact h
def oq{c R:TS}{D:Ends}{σ:St}{H:Hp}(b:St->Hp->Z3)(h:∀N:St->Hp->Z3,(∀a H',b a H'->N a H')->c {D with nx:=N} σ H)(f:∀a H',b a H'->R D a H'):Jq c R D σ H:=h (R D) f
def gz{c:TT}{t u:TS}{D:Ends}{σ:St}{H:Hp}(a:∀Q:Bool->Hp->Z3,Q Z1 H->c σ H Q)(h:t D σ H):Iw c t u D σ H:=a _<|iz h
def fX{c:TT}{t u:TS}{D:Ends}{σ:St}{H:Hp}(a:∀Q:Bool->Hp->Z3,Q Z2 H->c σ H Q)(h:u D σ H):Iw c t u D σ H:=a _<|iK h
def AW{c:TT}{t u:TS}{D:Ends}{σ:St}{H:Hp}(b:Bool)(P:Hp->Z3)(g:∀Q:Bool->Hp->Z3,(∀H',P H'->Q b H')->c σ H Q)(f:b=Z1->∀H',P H'->t D σ H')(a:b=Z2->∀H',P H'->u D σ H'):Iw c t u D σ H:=g _ λH' p=>by
 cases b with
 |true=>exact iz<|f J H' p
 |false=>exact iK<|a J H' p
def KJ{H f:Hp}{a:nt}{u w:HO}(h:H a=some w)(s:ao (Z9 H a u) f):ao H (Z9 f a w):=λb o e=>by
 by_cases c:b=a
 .subst c;rw[aj,←h];exact e
 .rw[au c];exact s b o (by rw[au c];exact e)
def wX:∀{fk:mu (Key×V)},lY fk->∃ns:mu Z4,fk.map (·.1)=ns.map Sum.inl
 |[],_=>{[],J}
 |kv::r,h=>by
  let⟨n,b⟩:=h kv o7;let⟨ns,e⟩:=wX (fk:=r) λx a=>h x (by simp[a])
  exact{n::ns,by rw[amR,amR,e,b]}
inductive sO(C:nt)(vs:mu V)(H:Hp)(Q:VK)(E:XK):Z3
 |m (p d:nt) (fl:Z4) (X5:mu (Key×V)) (ns:mu Z4)(_:vs=[.ref p])(_:fS C H p d fl X5)(_:X5.map (·.1)=ns.map Sum.inl)(_:ns.length<64)(_:∀(l:nt)(ns':mu Z4),H l=Z0->ns'.Perm ns->ns'.Pairwise (·≤·)->Q (.ref l) (Z9 H l (.lst (ns'.map Z8))))
inductive pW(C:nt)(vs:mu V)(H:Hp)(Q:VK)(E:XK):Z3
 |m (p d:nt) (fl:Z4) (X5:mu (Key×V))(_:vs=[.ref p])(_:fS C H p d fl X5)(_:Q (.int fl) H)
def aif{H H':Hp}{d:nt}{u:HO}(s:ao (Z9 H d u) H'):bg [d] H H':=λb o e a=>s b o (by rw[au (⇑a)];exact e)
def ir(rows:mu (Z5×Z5))(i bt:Z5):mu (Z5×Z5):=rows.modify i λr=>(r.1,r.2 ^^^ bt)
def vO(rows:mu (Z5×Z5))(i bt:Z5):(ir rows i bt).length=rows.length:=by simp[ir]
def Bg{rows:mu (Z5×Z5)}{i bt:Z5}{r:Z5×Z5}(h:rows[i]?=some r):ir rows i bt=rows.set i (r.1,r.2 ^^^ bt):=by
 unfold ir;apply api;intro j;rw[List.getElem?_modify,aoy];by_cases e:i=j
 .grind
 .simp[e]
def CF{H:Hp}{L:mu V}{rows:mu (Z5×Z5)}(R:cU H L rows){t:nt}{r:Z5×Z5}{i:Z5}(h:H t=some (.tup [.int ↥r.1,.int ↥r.2])):cU H (L.set i (.ref t)) (rows.set i r):=
 ⟨by simp[R.len],λj v e=>by
  rw[aoy] at e;by_cases f:i=j
  .subst f;rw[ama rfl] at e;split at e
   .rename_i g;let e:V.ref t=v:=⇑e
    exact{t,r,e.symm,by rw[aoy,ama J,ama (by rwa[←R.len])],h}
   .cases e
  .rw[al8 f] at e;let⟨u,l,a,b,c⟩:=R.get j v e;exact{u,l,a,by rwa[aoy,al8 f],c}⟩
inductive zC(CW CG:nt)(wh:Bool)(vs:mu V)(H:Hp)(Q:VK)(E:XK):Z3
 |m (p:nt) (b d:Z5) (rows:mu (Z5×Z5)) (c:Z4) (l:nt) (L:mu V) (rows2:mu (Z5×Z5))(_:vs=[.ref p,.ref l])(_:PAt CW CG H p wh b d rows c)(_:H l=some (.lst L))(_:cU H L rows2)(_:rows2.length≤100)(_:∀p2 H',PAt CW CG H' p2 wh b d rows2 c->H p2=Z0->ao H H'->Q (.ref p2) H')
inductive wQ(CW CG CN:nt)(vs:mu V)(H:Hp)(Q:VK)(E:XK):Z3
 |m (p:nt) (wh:Bool) (b d:Z5) (rows:mu (Z5×Z5)) (c ai:Z4) (bt:Z5)(_:vs=[.ref p,.int ai,.int (bt:Z4)])(_:PAt CW CG H p wh b d rows c)(_:rows.length≤100)(_:∀i:Z5,ai =(i:Z4)->i<rows.length->∀p2 H',PAt CW CG H' p2 wh b d (ir rows i bt) c->H p2=Z0->ao H H'->Q (.ref p2) H')(_:¬(0≤ai/\ai <(rows.length:Z4))->∀e H',ExcAt H' e CN [("place",.int ai)]->ao H H'->E (.ref CN) (some e) H')
def PAt.of0{CW CG:nt}{H:Hp}{p:nt}{b d:Z5}{rows:mu (Z5×Z5)}{c:Z4}(h:PAt CW CG H p Z1 0 d rows c):PAt CW CG H p Z1 b d rows c:=h
inductive zX(C CN:nt)(vs:mu V)(H:Hp)(Q:VK)(E:XK):Z3
 |m (p dx:nt) (wd:Z4)(_:vs=[.ref p,.int wd])(_:H p=some (.ins C dx []))(_:(1≤wd/\wd≤40)->∀(ta sa tz se:nt)(H':Hp),bX C H' p ta sa [tz] [se] wd.toNat [List.replicate wd.toNat 0] [[]]->(∀ b∈[ta,sa,tz,se],H b=Z0)->bg [p] H H'->Q .non H')(_:¬(1≤wd/\wd≤40)->∀e H',ExcAt H' e CN [("wide",.int wd)]->ao H H'->E (.ref CN) (some e) H')
inductive A1(CN:nt)(vs:mu V)(H:Hp)(Q:VK)(E:XK):Z3
 |m (wd:Z4)(_:vs=[.int wd])(_:(1≤wd/\wd≤40)->Q .non H)(_:¬(1≤wd/\wd≤40)->∀e H',ExcAt H' e CN [("wide",.int wd)]->ao H H'->E (.ref CN) (some e) H')
inductive AN(C CP CB:nt)(vs:mu V)(H:Hp)(Q:VK)(E:XK):Z3
 |m (p ta sa:nt) (TL SL:mu nt) (wd:Z5) (C0 C1:mu (mu Z4)) (c:Z4×Z4)(_:vs=[.ref p,.int c.1,.int c.2])(_:bX C H p ta sa TL SL wd C0 C1)(_:dj wd c=Z0->Q .non H)(_:∀x,dj wd c=some (Z1,x)->∀e H',ExcAt H' e CP [("place",.int x)]->ao H H'->E (.ref CP) (some e) H')(_:∀x,dj wd c=some (Z2,x)->∀e H',ExcAt H' e CB [("block",.int x)]->ao H H'->E (.ref CB) (some e) H')
inductive AK(C CD:nt)(vs:mu V)(H:Hp)(Q:VK)(E:XK):Z3
 |m (p ta sa:nt) (TL SL:mu nt) (wd:Z5) (C0 C1:mu (mu Z4)) (d:Z4)(_:vs=[.ref p,.int d])(_:bX C H p ta sa TL SL wd C0 C1)(_:(0≤d/\d<C0.length)->Q .non H)(_:¬(0≤d/\d<C0.length)->∀e H',ExcAt H' e CD [("day",.int d)]->ao H H'->E (.ref CD) (some e) H')
inductive yH(C CD:nt)(vs:mu V)(H:Hp)(Q:VK)(E:XK):Z3
 |m (p ta sa:nt) (TL SL:mu nt) (wd:Z5) (C0 C1:mu (mu Z4)) (d:Z4)(_:vs=[.ref p,.int d])(_:bX C H p ta sa TL SL wd C0 C1)(_:(0≤d/\d<C0.length)->∀t tab,C0[d.toNat]?=some tab->H t=Z0->Q (.ref t) (Z9 H t (.lst (tab.map Z8))))(_:¬(0≤d/\d<C0.length)->∀e H',ExcAt H' e CD [("day",.int d)]->ao H H'->E (.ref CD) (some e) H')
inductive vL(C CP CB:nt)(vs:mu V)(H:Hp)(Q:VK)(E:XK):Z3
 |m (p ta sa a:nt) (TL SL:mu nt) (wd:Z5) (C0 C1:mu (mu Z4)) (L:mu V) (chs:mu (Z4×Z4))(_:vs=[.ref p,.ref a])(_:bX C H p ta sa TL SL wd C0 C1)(_:H a=some (.lst L))(_:mU H L chs)(_:chs.length≤300)(_:C0.length≤500)(_:a∉foot p ta sa TL SL)(_:cy wd chs=Z0->∀(m d:nt)(H':Hp)(tab:mu Z4),C0[C0.length-1]?=some tab->bX C H' p ta sa (TL++[m]) (SL++[d]) wd (C0++[nextT tab chs]) (C1++[chs.map Prod.fst])->H m=Z0->H d=Z0->bg (foot p ta sa TL SL) H H'->Q (.int (C0.length:Z4)) H')(_:∀x,cy wd chs=some (Z1,x)->∀e H',ExcAt H' e CP [("place",.int x)]->ao H H'->E (.ref CP) (some e) H')(_:∀x,cy wd chs=some (Z2,x)->∀e H',ExcAt H' e CB [("block",.int x)]->ao H H'->E (.ref CB) (some e) H')
def Ky(C1:mu (mu Z4))(lo hi:Z4)(k:Z4):Z3:=∃(d:Z5)(xs:mu Z4),lo <↥d/\↥d≤hi/\C1[d]?=some xs/\k∈xs
structure vP(wd:Z5)(C1:mu (mu Z4)):Z3 where
 most:wd≤40
 day:∀ xs∈C1,xs.length≤300/\∀ x∈xs,0≤x/\x <(wd:Z4)
inductive tT(C CD:nt)(vs:mu V)(H:Hp)(Q:VK)(E:XK):Z3
 |m (p ta sa:nt) (TL SL:mu nt) (wd:Z5) (C0 C1:mu (mu Z4)) (one other:Z4)(_:vs=[.ref p,.int one,.int other])(_:bX C H p ta sa TL SL wd C0 C1)(_:vP wd C1)(_:C0.length≤500)(_:(0≤one/\one<C0.length)->(0≤other/\other<C0.length)->∀(r:nt)(ns:mu Z4)H',H' r=some (.lst (ns.map Z8))->H r=Z0->ns.Pairwise (· < ·)->(∀k,k∈ns↔Ky C1 (min one other) (max one other) k)->ao H H'->Q (.ref r) H')(_:∀d,(¬(0≤one/\one<C0.length)/\d=one)∨((0≤one/\one<C0.length)/\¬(0≤other/\other<C0.length)/\d=other)->∀e H',ExcAt H' e CD [("day",.int d)]->ao H H'->E (.ref CD) (some e) H')
def wk:∀(m:Z5)(l:mu Z4),l.Nodup->(∀ x∈l,0≤x/\x <↥m)->l.length≤m
 |0,l,_,h=>by
  cases l with
  |nil=>exact amd _
  |cons x r=>have:=h x o7;omega
 |m+1,l,hn,h=>by
  let c:=wk m (l.erase ↥m) (hn.erase _) λx a=>by
   let h1:=h x<|List.mem_of_mem_erase a;let h2:x≠↥m:=λz=>by rw[z] at a;exact(List.Nodup.not_mem_erase hn) a
   omega
  by_cases b:↥m∈l
  .grind
  .grind
def ahC{wd:Z5}(h:wd≤40){ns:mu Z4}(a:∀ x∈ns,0≤x/\x <↥wd):(dd ns).length≤63:=by
 let:=wk wd (dd ns) (qF _ _) λx h=>a x<|LU.mp h
 omega
def UR{n:Z5}(h:n≤200000):n≤Z7:=amo h o6
def QC(ts:mu (mu Z4)):mu Z4:=(ts[ts.length-1]?).getD []
def last_of{ts:mu (mu Z4)}{t:mu Z4}(h:ts[ts.length-1]?=some t):QC ts=t:=by unfold QC;rw[h];rfl
def TabOk(wd:Z5)(t:mu Z4):Z3:=t.length=wd/\∀ v∈t,0≤v
def Gj{wd:Z5}:∀{a:mu (Z4×Z4)}{t:mu Z4},TabOk wd t->(∀ c∈a,0≤c.2)->TabOk wd (nextT t a)
 |[],t,h,_=>h
 |c::r,t,h,hc=>by
  show TabOk wd (nextT (t.set c.1.toNat c.2) r);refine Gj {by rw[List.length_set];exact h.1,λv f=>?_} λx b=>hc x (by simp[b])
  rcases List.mem_or_eq_of_mem_set f with z|z
  .exact h.2 v z
  .grind
def jX(a:mu Z4):mu (Z5×Z5):=a.zipIdx.map λq=>(q.2,q.1.toNat)
def qi(a:mu Z4):(jX a).length=a.length:=by unfold jX;simp
def Ma{a:mu Z4}{i:Z5}{v:Z4}(h:a[i]?=some v):(jX a)[i]?=some (i,v.toNat):=by grind [jX]
def enum_rows{H0 H:Hp}{a:mu Z4}{ts:mu nt}(h:EnL H0 H (a.map Z8) ts)(f:ts.length =(a.map Z8).length)(h0:∀ v∈a,0≤v):cU H (ts.map V.ref) (jX a):=
 ⟨by rw[ame,f,ame,qi],λi v e=>by rw[amx] at e;let⟨t,j,rfl⟩:=ami.mp e;let⟨_,x,b,g⟩:=h i t j;rw[amx] at b;let⟨z,c,rfl⟩:=ami.mp b;let:=h0 z<|aml c;exists t,1,Ma c;rw[g];show some (HO.tup [V.int ↥i,V.int z])=some (HO.tup [V.int ↥i,V.int ↥z.toNat]);rw[Int.toNat_of_nonneg this]⟩
def okD(n:Z5)(d:Z4):Z3:=0≤d/\d <↥n
structure VI(C:nt)(H:Hp)(p:nt)(wd:Z5)(C0 C1:mu (mu Z4)):Z3 where
 D:∃ta sa TL SL,bX C H p ta sa TL SL wd C0 C1
 S:vP wd C1
 T:∀ t∈C0,TabOk wd t
 n:C0.length≤500
inductive tX(C CW CG CD:nt)(vs:mu V)(H:Hp)(Q:VK)(E:XK):Z3
 |m (p:nt) (wd:Z5) (C0 C1:mu (mu Z4)) (day:Z4)(_:vs=[.ref p,.int day])(_:VI C H p wd C0 C1)(_:okD C0.length day->∀(q:nt)(tab:mu Z4)H',C0[day.toNat]?=some tab->PAt CW CG H' q Z1 0 day.toNat (jX tab) (sY Z1 0 day.toNat (jX tab):Z5)->ao H H'->Q (.ref q) H')(_:¬okD C0.length day->∀e H',ExcAt H' e CD [("day",.int day)]->ao H H'->E (.ref CD) (some e) H')
structure ShG(C CW CG:nt)(H:Hp)(p d:nt)(fl:Z4)(X5:mu (Key×V))(M:dM):Z3 where
 sh:fS C H p d fl X5
 sr:nq CW CG H X5 M
 nd:(X5.map (·.1)).Nodup
 gc:lY X5
 pos:D6 M
def ShG.keep{C CW CG:nt}{H H':Hp}{p d:nt}{fl:Z4}{X5:mu (Key×V)}{M:dM}(h:ShG C CW CG H p d fl X5 M)(s:ao H H'):ShG C CW CG H' p d fl X5 M:={h.sh.keep s,h.sr.keep s,h.nd,h.gc,h.pos}
def ShG.has{C CW CG:nt}{H:Hp}{p d:nt}{fl:Z4}{X5:mu (Key×V)}{M:dM}(h:ShG C CW CG H p d fl X5 M){ns:mu Z4}(e:X5.map (·.1)=ns.map Sum.inl)(n:Z4):n∈ns↔(M n).isSome=Z1:=by
 let:n∈ns↔(bu X5 (Sum.inl n)).isSome=Z1:=by rw[mq,e,amS];exact{λh=>⟨n,h,J⟩,λ⟨y,h,z⟩=>by cases z;exact h}
 rw[this];cases a:M n with
 |none=>rw[h.sr.gone a];simp
 |some x=>let⟨s,d,g⟩:=x;let⟨v,h1,_⟩:=h.sr.got a;rw[h1];rfl
def fM(M:dM)(gd:Bool)(s n:Z4):Bool:=match M n with
 |some (s',_,g)=>decide (s'=s) &&(g||!gd)
 |none=>Z2
def pe{M:dM}{gd:Bool}{s n:Z4}:fM M gd s n=Z1↔∃d g,M n=some (s,d,g)/\okG gd g:=by
 unfold fM okG;cases e:M n with
 |none=>simp
 |some x=>
  let⟨s',d,g⟩:=x;simp only[Bool.and_eq_true,decide_eq_true_eq,Bool.or_eq_true,Bool.not_eq_true'];constructor
  .rintro⟨rfl,h⟩;exact⟨d,g,J,h⟩
  .rintro⟨d',g',h,a⟩;cases h;exact⟨J,a⟩
structure StG(H:Hp)(sk:mu (Key×V))(sel:Z4->mu Z4):Z3 where
 val:∀d,(∃l,bu sk (Sum.inl d)=some (.ref l)/\H l=some (.lst ((sel d).map Z8)))∨(bu sk (Sum.inl d)=Z0/\sel d=[])
def StG.same{H H':Hp}{sk:mu (Key×V)}{sel:Z4->mu Z4}(S:StG H sk sel)(s:ao H H'):StG H' sk sel:=⟨λd=>(S.val d).imp (λ⟨l,a,b⟩=>{l,a,s _ _ b}) id⟩
inductive Ds(C CW CG:nt)(vs:mu V)(H:Hp)(Q:VK)(E:XK):Z3
 |m (p d:nt) (fl:Z4) (X5:mu (Key×V)) (M:dM) (gd:Bool)(_:vs=[.ref p,.bl gd])(_:ShG C CW CG H p d fl X5 M)(_:X5.length≤62)(_:∀(st:nt)(sk:mu (Key×V))(ns:mu Z4)H',H' st=some (.dK sk)->StG H' sk (λs=>ns.filter (fM M gd s))->(∀n,n∈ns↔(M n).isSome=Z1)->ns.length≤62->H st=Z0->ao H H'->Q (.ref st) H')
inductive yD(C CW CG:nt)(vs:mu V)(H:Hp)(Q:VK)(E:XK):Z3
 |m (p d:nt) (fl:Z4) (X5:mu (Key×V)) (M:dM) (gd:Bool)(_:vs=[.ref p,.bl gd])(_:ShG C CW CG H p d fl X5 M)(_:X5.length≤62)(_:∀(ld:nt)(lk:mu (Key×V))H',H' ld=some (.dK lk)->pF lk M gd->lk.length≤X5.length->H ld=Z0->ao H H'->Q (.ref ld) H')
inductive jy(C CW CG:nt)(vs:mu V)(H:Hp)(Q:VK)(E:XK):Z3
 |m (p d:nt) (fl:Z4) (X5:mu (Key×V)) (M:dM) (gd:Bool)(_:vs=[.ref p,.bl gd])(_:ShG C CW CG H p d fl X5 M)(_:X5.length≤62)(_:∀(l:nt)(ns:mu Z4)H',H' l=some (.lst (ns.map Z8))->RdL M gd ns->ns.length≤62->H l=Z0->ao H H'->Q (.ref l) H')
def jm.len{C CW CG:nt}{H:Hp}{p d:nt}{fl:Z4}{X5 lk:mu (Key×V)}{M:dM}{gd:Bool}{Z:Z4->Z3}(h:ShG C CW CG H p d fl X5 M)(j:(lk.map (·.1)).Nodup)(r:lY lk)(hs:∀d v,bu lk (Sum.inl d)=some v->∃n s g,M n=some (s,d,g)):lk.length≤X5.length:=by
 let i:∀ x∈lk.map (·.1),x∈X5.map λb=>(match b.1 with|Sum.inl n=>(match M n with|some (_,d,_)=>Sum.inl d|none=>Sum.inl 0)|Sum.inr z=>Sum.inr z:Key):=λx o=>by let⟨b,a,rfl⟩:=amS.mp o;let⟨d',hd⟩:=r _ a;let m:=Al j (k:=b.1) (v:=b.2) a;rw[show b.1=Sum.inl d' from hd] at m ⊢;let⟨n,s,g,l⟩:=hs d' _ m;let⟨v,h1,_⟩:=h.sr.got l;let⟨c,f,q⟩:=amS.mp<|mq.mp (show(bu X5<|Sum.inl n).isSome=Z1 by rw[h1];rfl);refine amS.mpr {c,f,?_};rw[q];simp only[l]
 let:=JE j i;simpa using this
structure NbI(H H':Hp)(nl st:nt)(sk:mu (Key×V))(M:dM)(gd:Bool)(ns:mu Z4)(i:Z5):Z3 where
 same:ao H H'
 lst:H' nl=some (.lst (ns.map Z8))
 dct:H' st=some (.dK sk)
 stn:H st=Z0
 len:sk.length≤i
 val:StG H' sk (λs=>(ns.take i).filter (fM M gd s))
 fresh:∀s l,bu sk (Sum.inl s)=some (.ref l)->H l=Z0/\l≠nl
 inj:∀s s' l,bu sk (Sum.inl s)=some (.ref l)->bu sk (Sum.inl s')=some (.ref l)->s=s'
section
variable{H H' H'':Hp}{nl st:nt}{sk:mu (Key×V)}{M:dM}{gd:Bool}{ns:mu Z4}{i:Z5}{n s d:Z4}{g:Bool}
def NbI.keep(h:NbI H H' nl st sk M gd ns i)(k:ao H' H''):NbI H H'' nl st sk M gd ns i:={h.same.trans k,k _ _ h.lst,k _ _ h.dct,h.stn,h.len,h.val.same k,h.fresh,h.inj}
def yk(e:ns[i]?=some n)(x:Z4):(ns.take (i+1)).filter (fM M gd x) =(ns.take i).filter (fM M gd x) ++(if fM M gd x n=Z1 then [n] else []):=by
 rw[amJ,e,List.filter_append];by_cases h:fM M gd x n=Z1
 .rw[ama h];simp[h]
 .rw[al8 h];simp[h]
def NbI.skip(h:NbI H H' nl st sk M gd ns i)(e:ns[i]?=some n)(a:M n=some (s,d,g))(b:¬okG gd g):NbI H H' nl st sk M gd ns (i+1):=by refine{h.same,h.lst,h.dct,h.stn,Nat.le_succ_of_le h.len,⟨λx=>?_⟩,h.fresh,h.inj};rw[yk e x,al8 λz=>b (by let⟨d',g',h1,h2⟩:=pe.mp z;rw[a] at h1;cases h1;exact h2),anq];exact h.val.val x
def w4(a:M n=some (s,d,g))(b:okG gd g)(x:Z4):fM M gd x n=Z1↔s=x:=by
 rw[pe];constructor
 .rintro⟨d',g',h1,_⟩;rw[a] at h1;cases h1;rfl
 .rintro rfl;exact⟨d,g,a,b⟩
def NbI.old(h:NbI H H' nl st sk M gd ns i)(e:ns[i]?=some n)(q:M n=some (s,d,g))(t:okG gd g){w:V}(f:bu sk (Sum.inl s)=some w)(v:ns.length≤62) :
  ∃(l:nt)(xs:mu V),w=.ref l/\H' l=some (.lst xs)/\xs.length<1000/\NbI H (Z9 H' l (.lst (xs++[.int n]))) nl st sk M gd ns (i+1):=by
 rcases h.val.val s with⟨l,h1,h2⟩|⟨h1,_⟩
 case inr=>rw[h1] at f;cases f
 rw[h1] at f;cases f;let j:l≠st:=c9 h2 h.dct nofun;let r:=h.fresh _ _ h1;refine{l,1,h2,?_,{λb o p=>?_,by rw[au r.2.symm];exact h.lst,by rw[au j.symm];exact h.dct,h.stn,Nat.le_succ_of_le h.len,⟨λx=>?_⟩,h.fresh,h.inj}}
 .rw[ame];refine anW (List.length_filter_le _ _) ?_;rw[amX];omega
 .rw[au<|aA p r.1];exact h.same b o p
 .rw[yk e x];by_cases m:s=x
  .subst m;rw[ama<|(w4 q t s).mpr J];exact .inl {l,h1,by rw[aj];simp}
  .rw[al8 λz=>m<|(w4 q t x).mp z,anq];rcases h.val.val x with⟨u,c,a⟩|z
   .refine .inl {u,c,?_};rw[au (show u≠l from λz=>m<|h.inj _ _ _ h1 (by rwa[←z]))];exact a
   .exact .inr z
def NbI.new(h:NbI H H' nl st sk M gd ns i)(e:ns[i]?=some n)(O:M n=some (s,d,g))(S:okG gd g)(Y:bu sk (Sum.inl s)=Z0){x:nt}(u:H' x=Z0) :
  NbI H (Z9 (Z9 (Z9 H' x (.lst [])) st (.dK (putK sk (Sum.inl s) (.ref x)))) x (.lst ([]++[.int n]))) nl st (putK sk (Sum.inl s) (.ref x)) M gd ns (i+1):=by
 let C:st≠x:=aA h.dct u;let m:nl≠x:=aA h.lst u;let L:nl≠st:=c9 h.lst h.dct nofun;let q:H x=Z0:=h.same.free u;let f:∀y l,bu (putK sk (Sum.inl s) (.ref x)) (Sum.inl y)=some (.ref l)->(y=s/\l=x)∨(y≠s/\bu sk (Sum.inl y)=some (.ref l)):=λy l a=>by
  rw[kC] at a;by_cases v:(Sum.inl y:Key)=Sum.inl s
  .rw[ama v] at a;cases a;exact .inl {ao6 v,J}
  .rw[al8 v] at a;exact .inr {λz=>v<|congrArg Sum.inl z,a}
 let c:∀y l,bu sk (Sum.inl y)=some (.ref l)->l≠x:=λy l a=>by
  rcases h.val.val y with⟨U,h1,h2⟩|⟨h1,_⟩
  .rw[h1] at a;cases a;exact aA h2 u
  .rw[h1] at a;cases a
 refine{λb o A=>?_,?_,?_,h.stn,?_,⟨λy=>?_⟩,λy l a=>?_,λy F l a r=>?_}
 .rw[au<|aA A q,au<|aA A h.stn,au<|aA A q];exact h.same b o A
 .rw[au m,au L,au m];exact h.lst
 .rw[au C,aj]
 .let:=ng sk (Sum.inl s)<|V.ref x;let:=h.len;omega
 .rw[yk e y];by_cases B:s=y
  .subst B;rw[ama<|(w4 O S s).mpr J];let t:(ns.take i).filter (fM M gd s)=[]:=by
    rcases h.val.val s with⟨l,h1,_⟩|⟨_,h2⟩
    .rw[h1] at Y;cases Y
    .exact h2
   exact .inl {x,by rw[kC,ama rfl],by rw[aj,t];rfl}
  .rw[al8 λz=>B<|(w4 O S y).mp z,anq,kC,al8 λz=>B (ao6 z).symm];rcases h.val.val y with⟨U,p,j⟩|z
   .refine .inl {U,p,?_};rwa[au<|c _ _ p,au<|c9 j h.dct nofun,au<|c _ _ p]
   .exact .inr z
 .rcases f y l a with⟨_,rfl⟩|⟨_,h1⟩
  .exact⟨q,m.symm⟩
  .exact h.fresh y l h1
 .rcases f y l a with⟨rfl,rfl⟩|⟨h0,h1⟩
  .rcases f F _ r with⟨rfl,_⟩|⟨_,h2⟩
   .rfl
   .exact absurd J (c _ _ h2)
  .rcases f F _ r with⟨rfl,rfl⟩|⟨_,h2⟩
   .exact absurd J (c _ _ h1)
   .exact h.inj y F l h1 h2
end
def Ah(X5:mu (Key×V))(k:Key)(v:V):(putK X5 k v).length=if (bu X5 k).isSome=Z1 then X5.length else X5.length+1:=by
 unfold putK;rw[iX];split
 .simp
 .simp
structure Mid(lk:mu (Key×V))(M:dM)(gd:Bool)(t:Z5)(fs:mu Z4)(Dn:Z4->Z3):Z3 where
 nd:(lk.map (·.1)).Nodup
 gc:lY lk
 eK:∀d v,bu lk (Sum.inl d)=some v->∃n s g k,v=V.int n/\M n=some (s,d,g)/\okG gd g/\Lev M gd s k/\Lev M gd d (k+1)/\k+1≤t+1
 old:∀d k,Lev M gd d (k+1)->k+1≤t->(bu lk (Sum.inl d)).isSome=Z1
 fs_:∀d,d∈fs↔(bu lk (Sum.inl d)).isSome=Z1/\Lev M gd d (t+1)
 done:∀n s d g,Dn n->M n=some (s,d,g)->okG gd g->Lev M gd s t->(bu lk (Sum.inl d)).isSome=Z1
section
variable{lk:mu (Key×V)}{M:dM}{gd:Bool}{t:Z5}{fs:mu Z4}{Dn Dn':Z4->Z3}{n s d:Z4}{g:Bool}
def Mid.start(h:jm lk M gd t):Mid lk M gd t [] (λ_=>False):=by
 refine{h.nd,h.gc,λd v e=>?_,h.Ia,λd=>{nofun,λ⟨l,z2⟩=>?_},λn s d g z=>z.elim}
 .let⟨n,s,g,k,a,b,c,i,f,m⟩:=h.eK d v e;exact⟨n,s,g,k,a,b,c,i,f,o5⟩
 .cases j:bu lk (Sum.inl d) with
  |none=>rw[j] at l;cases l
  |some v=>let⟨n,s,g,k,a,b,c,i,f,m⟩:=h.eK d v j;let:=f.one z2;omega
def Mid.mono(h:Mid lk M gd t fs Dn)(hd:∀n,Dn' n->Dn n):Mid lk M gd t fs Dn':={h.nd,h.gc,h.eK,h.old,h.fs_,λn s d g z=>h.done n s d g<|hd n z}
def Mid.skip(h:Mid lk M gd t fs Dn)(f:M n=some (s,d,g))(i:(bu lk (Sum.inl d)).isSome=Z1):Mid lk M gd t fs (λm=>Dn m∨m=n):=
 {h.nd,h.gc,h.eK,h.old,h.fs_,λm s' d' g' z a c b=>z.elim (λz=>h.done m s' d' g' z a c b) λz=>by rw[z,f] at a;cases a;exact i}
def Mid.put(h:Mid lk M gd t fs Dn)(A:D6 M)(f:M n=some (s,d,g))(p:okG gd g)(hs:Lev M gd s t)(B:bu lk (Sum.inl d)=Z0):Mid (putK lk (Sum.inl d) (.int n)) M gd t (fs++[d]) (λm=>Dn m∨m=n):=by
 let c:Lev M gd d (t+1):=by
  refine{.step f p hs.1,λj C r=>?_};let⟨i,hi,o⟩:=LD j r;cases i with
  |zero=>have:=Rk.Jd o.1;let:=A _ _ _ _ f;omega
  |succ k=>have:=h.old d k o o5;rw[B] at this;cases this
 let a:∀x,bu (putK lk (Sum.inl d) (.int n)) (Sum.inl x)=if x=d then some (.int n) else bu lk (Sum.inl x):=λx=>by
  rw[kC];by_cases e:x=d
  .subst e;rw[ama J,ama rfl]
  .rw[al8 λz=>e<|ao6 z,al8 e]
 let b:∀x,(bu lk (Sum.inl x)).isSome=Z1->(bu (putK lk (Sum.inl d) (.int n)) (Sum.inl x)).isSome=Z1:=λx q=>by
  rw[a x];split
  .rfl
  .exact q
 refine{LK _ h.nd,h.gc.put d _,λx v e=>?_,λx k h1 h2=>b x<|h.old x k h1 h2,λx=>?_,λm s' d' g' z l y u=>?_}
 .rw[a x] at e;by_cases ex:x=d
  .subst ex;rw[ama rfl] at e;cases e;exact{n,s,g,t,J,f,p,hs,c,amd _}
  .rw[al8 ex] at e;exact h.eK x v e
 .rw[amy,amr,h.fs_ x,a x];by_cases ex:x=d
  .subst ex;rw[ama rfl];exact{λ_=>⟨J,c⟩,λ_=>.inr J}
  .rw[al8 ex];exact{λz=>z.elim id λz=>absurd z ex,.inl}
 .rcases z with z|z
  .exact b _ (h.done m s' d' g' z l y u)
  .rw[z,f] at l;cases l;rw[a,ama rfl];rfl
def Mid.end_(h:Mid lk M gd t fs Dn)(hd:∀n s d g,M n=some (s,d,g)->okG gd g->Lev M gd s t->Dn n):jm lk M gd (t+1)/\∀d,d∈fs↔Lev M gd d (t+1):=by
 let f:∀d k,Lev M gd d (k+1)->k+1≤t+1->(bu lk (Sum.inl d)).isSome=Z1:=λd k h1 h2=>by
  by_cases i:k+1≤t
  .exact h.old d k h1 i
  .let:k=t:=by omega
   subst this;let⟨n,s,g,a,b,c⟩:=h1.pred;exact h.done n s d g (hd n s d g a b c) a b c
 exact{⟨h.nd,h.gc,h.eK,f⟩,λd=>(h.fs_ d).trans {λz=>z.2,λz=>{f d t z<|amd _,z}}}
end
def qg(ns:mu Z4)(k:Z4):Z4:=if k <↥ns.length then ns.getD k.toNat 0 else 37*k+11
inductive AZ(K:Frag)(vs:mu V)(H:Hp)(Q:VK)(E:XK):Z3
 |m (a:nt) (ns:mu Z4) (k:Z5)(_:vs=[.ref a,.int (k:Z4)])(_:X0 K H a (ns.map Z8))(_:Q (.int (qg ns k)) H)
def stF(q b nl dl f:nt)(a sk c:V):mu (Z6×V):=[("days",.ref q),("rule",a),("seek",sk),("each",c),("shelves",.ref b),("noted",.ref nl),("done",.ref dl),("seals",.ref f)]
structure StA(CS:nt)(H:Hp)(p q sl nl dl se:nt)(rl sk ea:V):Z3 where
 ex:∃dx,H p=some (.ins CS dx (stF q sl nl dl se rl sk ea))
def sj{q b nl dl f:nt}{a sk c:V}:(stF q b nl dl f a sk c).lookup (Str.ofString "days")=some (V.ref q):=rfl
def gv{q a nl dl f:nt}{b sk c:V}:(stF q a nl dl f b sk c).lookup (Str.ofString "shelves")=some (V.ref a):=rfl
def D9{q b nl dl f:nt}{a sk c:V}:(stF q b nl dl f a sk c).lookup (Str.ofString "noted")=some (V.ref nl):=rfl
def A5{q b nl dl f:nt}{a sk c:V}:(stF q b nl dl f a sk c).lookup (Str.ofString "done")=some (V.ref dl):=rfl
def bN{q b nl dl f:nt}{a sk c:V}{m:Z6}(h:((["days","rule","seek","each","shelves","noted","done","seals"]:mu Z6).all (λk=>!(m==k)))=Z1):List.lookup m (stF q b nl dl f a sk c)=Z0:=by simp only[List.all_cons,List.all_nil,Bool.and_true,Bool.and_eq_true,Bool.not_eq_true'] at h;let⟨h1,h2,h3,h4,h5,h6,h7,h8⟩:=h;unfold stF;simp only[List.lookup,h1,h2,h3,h4,h5,h6,h7,h8]
def vZ{xs:mu V}{i:Z5}{v:V}(h:xs[i]?=some v):atI xs ↥i=some v:=br h
inductive yg(CS:nt)(vs:mu V)(H:Hp)(Q:VK)(E:XK):Z3
 |m (p q sl nl dl se:nt) (rl sk ea:V) (DL:mu V)(_:vs=[.ref p])(_:StA CS H p q sl nl dl se rl sk ea)(_:H dl=some (.lst DL))(_:DL.length≤1000)(_:∀t,H t=Z0->Q (.ref t) (Z9 H t (.tup DL)))
def nA:Sp:=λ_ _ _ _=>False
def fset{α:Type}(f:Z5->α)(i:Z5)(x:α):Z5->α:=λj=>if j=i then x else f j
def dF{α:Type}{f:Z5->α}{i:Z5}{x:α}:fset f i x i=x:=ama J
def cN{α:Type}{f:Z5->α}{i j:Z5}{x:α}(h:j≠i):fset f i x j=f j:=al8 h
def gZ{α:Type}{f:Z5->α}{i:Z5}:fset f i (f i)=f:=funext λj=>by unfold fset;split <;> simp_all
def l3{α:Type}(f:Z5->α):mu α:=[f 0,f 1,f 2]
def zQ{α:Type}{f:Z5->α}{i:Z5}(h:i<3):(l3 f)[i]?=some (f i):=by
 match i,h with
 |0,_=>rfl
 |1,_=>rfl
 |2,_=>rfl
def YT{α:Type}{f:Z5->α}{i:Z5}{x:α}(h:i<3):(l3 f).set i x=l3 (fset f i x):=by
 match i,h with
 |0,_=>rfl
 |1,_=>rfl
 |2,_=>rfl
def af2{α a:Type}{f:Z5->α}{g:α->a}{i:Z5}{x:α}:l3 (fset (λj=>g (f j)) i (g x))=l3 (λj=>g (fset f i x j)):=by unfold l3 fset;simp only[apply_ite g]
def aij{α:Type}{f:Z5->α}{i:Z5}(h:i<3):ixN (l3 f).length ↥i=some i:=by
 match i,h with
 |0,_=>rfl
 |1,_=>rfl
 |2,_=>rfl
def CM{P:Z5->Z3}(h0:P 0)(h1:P 1)(h2:P 2){i:Z5}(h:i<3):P i:=by
 match i,h with
 |0,_=>exact h0
 |1,_=>exact h1
 |2,_=>exact h2
inductive x9(CS CD:nt)(vs:mu V)(H:Hp)(Q:VK)(E:XK):Z3
 |m (p q sl nl dl se ta sa:nt) (TL SL:mu nt) (wd:Z5) (C0 C1:mu (mu Z4)) (rl sk ea:V)(_:vs=[.ref p])(_:StA CS H p q sl nl dl se rl sk ea)(_:bX CD H q ta sa TL SL wd C0 C1)(_:Q (.int ((C0.length:Z4)-1)) H)
inductive vc(C:nt)(vs:mu V)(H:Hp)(Q:VK)(E:XK):Z3
 |m (x d t a:nt) (fl:Z4) (X5:mu (Key×V))(_:vs=[.ref x,.ref t])(_:H t=some (.tup [.str "put",.ref a]))(_:fS C H x d fl X5)(_:X5.length<1000)(_:∀H',fS C H' x d (fl+1) (putK X5 (.inl fl) (.ref a))->bg [x,d] H H'->Q .non H')
def cH(H:Hp)(F:mu nt):Z3:=∀ x∈F,(∃a,H x=some (.dK a))∨(∃xs,H x=some (.lst xs))∨∃C dx fs,H x=some (.ins C dx fs)/\List.lookup ("day":Str) fs=Z0
section
variable{H H':Hp}{F G:mu nt}{CW CG:nt}
def cH.tup(h:cH H F){t:nt}{xs:mu V}(e:H t=some (.tup xs)):t∉F:=λa=>by rcases h t a with⟨_,z⟩|⟨_,z⟩|⟨_,_,_,z,_⟩ <;>(rw[e] at z;cases z)
def PAt.dQ{a:nt}{wh:Bool}{b d:Z5}{rows:mu (Z5×Z5)}{c:Z4}(h:PAt CW CG H a wh b d rows c)(k:bg F H H')(f:cH H F):PAt CW CG H' a wh b d rows c:=by
 let⟨dx,r,R,h1,h2,h3⟩:=h;refine{dx,r,R,k _ _ h1 λi=>?_,k _ _ h2<|f.tup h2,h3.mono λt xs e=>k _ _ e<|f.tup e};rcases f _ i with⟨_,z⟩|⟨_,z⟩|⟨_,_,_,z,g⟩
 .rw[h1] at z;cases z
 .rw[h1] at z;cases z
 .rw[h1] at z;rw[←(HO.ins.inj<|amw z).2.2,show List.lookup ("day":Str) (pfs wh b d r c _)=some (V.int ↥d) by cases wh <;> exact rR] at g;cases g
def cE.dQ{v:V}{u:PcU}(h:cE CW CG H v u)(k:bg F H H')(b:cH H F):cE CW CG H' v u:=let ⟨a,h1,h2,h3⟩:=h;{a,h1,PAt.dQ h2 k b,h3}
def cH.dk{a:nt}{c:mu (Key×V)}(h:H a=some (.dK c))(r:cH H F):cH H (a::F):=λx b=>(amq.mp b).elim (λz=>by rw[z];exact .inl {_,h})<|r x
def cH.ls{a:nt}{xs:mu V}(h:H a=some (.lst xs))(r:cH H F):cH H (a::F):=λx b=>(amq.mp b).elim (λz=>by rw[z];exact .inr<|.inl {_,h})<|r x
def cH.nil:cH H []:=λ_ h=>by cases h
def cH.sh{C p d:nt}{fl:Z4}{X5:mu (Key×V)}(h:fS C H p d fl X5):cH H [p,d]:=λx a=>by
 let⟨dx,h1,h2⟩:=h;simp only[List.mem_cons,List.not_mem_nil,or_false] at a;rcases a with rfl|rfl
 .exact .inr (.inr {_,_,_,h1,jb d7 d7})
 .exact .inl {_,h2}
def cH.days{C p ta sa:nt}{TL SL:mu nt}{wd:Z5}{C0 C1:mu (mu Z4)}(D:bX C H p ta sa TL SL wd C0 C1):cH H (foot p ta sa TL SL):=λx b=>by
 rcases D.lists b with⟨dx,fs,e⟩|⟨xs,e⟩
 .let⟨g,f⟩:=D.ob;by_cases c:x=p
  .subst c;exact .inr<|.inr {_,_,_,f,oR d7 d7 d7 d7}
  .simp only[foot,List.mem_cons,List.mem_append] at b;rcases b with z|z|z|z|z
   .exact absurd z c
   .rw[z,D.tl] at e;cases e
   .rw[z,D.sl] at e;cases e
   .let⟨i,hi⟩:=amQ.mp z;let a:=(amc.mp hi).1;rw[D.tls.len] at a;rw[D.tls.get i x _ hi<|amg a] at e;cases e
   .let⟨i,hi⟩:=amQ.mp z;let a:=(amc.mp hi).1;rw[D.sls.len] at a;rw[D.sls.get i x _ hi<|amg a] at e;cases e
 .exact .inr (.inl ⟨xs,e⟩)
end
abbrev bT:=Z4->o9 PcU
def lG(M:bT):dM:=λn=>(M n).map λu=>(u.st,↥u.d,u.good)
def Gq{M:bT}{n:Z4}{u:PcU}(e:M n=some u):lG M n=some (u.st,↥u.d,u.good):=by unfold lG;rw[e];rfl
def HH{M:bT}{n s d:Z4}{g:Bool}(e:lG M n=some (s,d,g)):∃u,M n=some u/\s=u.st/\d =↥u.d/\g=u.good:=by unfold lG at e;let⟨u,h1,h2⟩:=ami.mp e;cases h2;exact⟨u,h1,J,J,J⟩
def Lk{C CW CG:nt}{H:Hp}{x d:nt}{fl:Z4}{X5:mu (Key×V)}{M:bT}(h:fS C H x d fl X5)(f:gf (cE CW CG H) X5 M):ShG C CW CG H x d fl X5 (lG M):=by
 refine{h,λn=>?_,f.nd,f.gc,λn s d g e=>?_}
 .cases e:M n with
  |none=>unfold lG;rw[e];exact f.none_ n e
  |some u=>rw[Gq e];let⟨v,h1,a,h2,h3,h4⟩:=f.eK n u e;exact⟨v,h1,a,u.wh,u.b,u.d,u.rows,u.c,h2,h3,h4,J,J,J⟩
 .let⟨u,_,_,rfl,_⟩:=HH e;omega
structure ShC(C CW CG:nt)(H:Hp)(p d:nt)(fl:Z4)(M:bT)(n:Z5):Z3 where
 ex:∃X5,fS C H p d fl X5/\gf (cE CW CG H) X5 M/\X5.length≤n
 fol:∀j u,M j=some u->j<fl
def ShC.dQ{C CW CG:nt}{H H':Hp}{F:mu nt}{p d:nt}{fl:Z4}{M:bT}{n:Z5}(h:ShC C CW CG H p d fl M n)(k:bg F H H')(a:cH H F)(b:p∉F)(hd:d∉F):ShC C CW CG H' p d fl M n:=by let⟨X5,h1,h2,h3⟩:=h.ex;exact{{X5,h1.HV k b hd,h2.mono λv u z=>cE.dQ z k a,h3},h.fol}
def ShC.at_{C CW CG:nt}{H:Hp}{p d:nt}{fl:Z4}{M:bT}{n:Z5}(h:ShC C CW CG H p d fl M n):∃dx X5,H p=some (.ins C dx (sfs d fl))/\H d=some (.dK X5):=by let⟨X5,⟨dx,h1,h2⟩,_⟩:=h.ex;exact⟨dx,X5,h1,h2⟩
structure SAd where
 p:nt
 q:nt
 sl:nt
 nl:nt
 dl:nt
 se:nt
 x:Z5->nt
 d:Z5->nt
 ta:nt
 sa:nt
 TL:mu nt
 SL:mu nt
 rl:V
 sk:V
 ea:V
 NL:mu V
 n:Z5->Z5
def SAd.ft(A:SAd):mu nt:=foot A.q A.ta A.sa A.TL A.SL
def SAd.sm(A:SAd):mu nt:=[A.p,A.sl,A.nl,A.dl,A.x 0,A.x 1,A.x 2,A.d 0,A.d 1,A.d 2]
def SAd.mx(A:SAd){i:Z5}(h:i<3):A.x i∈A.sm:=CM (P:=λi=>A.x i∈A.sm) (by simp[SAd.sm]) (by simp[SAd.sm]) (by simp[SAd.sm]) h
def SAd.md(A:SAd){i:Z5}(h:i<3):A.d i∈A.sm:=CM (P:=λi=>A.d i∈A.sm) (by simp[SAd.sm]) (by simp[SAd.sm]) (by simp[SAd.sm]) h
def SAd.II{A:SAd}{b:nt}(h:b∈A.sm):b∈[A.p,A.sl,A.nl,A.dl]∨∃i,i<3/\(b=A.x i∨b=A.d i):=by
 simp only[SAd.sm,List.mem_cons,List.not_mem_nil,or_false] at h ⊢;rcases h with h|h|h|h|h|h|h|h|h|h
 .exact .inl (.inl h)
 .exact .inl (.inr<|.inl h)
 .exact .inl (.inr<|.inr<|.inl h)
 .exact .inl (.inr<|.inr<|.inr h)
 .exact .inr {(0),o6,.inl h}
 .exact .inr {(1),o6,.inl h}
 .exact .inr {(2),o6,.inl h}
 .exact .inr {(0),o6,.inr h}
 .exact .inr {(1),o6,.inr h}
 .exact .inr {(2),o6,.inr h}
structure StC(CS CD C CW CG:nt)(H:Hp)(A:SAd)(wd:Z5)(C0 C1:mu (mu Z4))(us:mu PcU)(M:Z5->bT):Z3 where
 st:StA CS H A.p A.q A.sl A.nl A.dl A.se A.rl A.sk A.ea
 sl:H A.sl=some (.lst (l3 λi=>.ref (A.x i)))
 D:bX CD H A.q A.ta A.sa A.TL A.SL wd C0 C1
 nl:H A.nl=some (.lst A.NL)
 nn:A.NL.length=us.length
 no:∀(k:Z5)u,us[k]?=some u->∃t a,A.NL[k]?=some (.ref t)/\H t=some (.tup [.str "put",.ref a])/\cE CW CG H (.ref a) u
 dl:H A.dl=some (.lst (l3 λi=>.int (A.n i:Z4)))
 sh:∀i,i<3->ShC C CW CG H (A.x i) (A.d i) (A.n i:Z4) (M i) 61
 dom:∀i,i<3->∀m,(M i m).isSome=Z1↔0≤m/\m <(A.n i:Z4)
 nle:∀i,i<3->A.n i≤us.length
 n61:us.length≤61
 tn:C0.length≤100
 S:vP wd C1
 T:∀ t∈C0,TabOk wd t
 nd:A.sl≠A.nl/\A.sl≠A.dl/\A.nl≠A.dl
 nx:∀i j,i<3->j<3->i≠j->A.x i≠A.x j/\A.d i≠A.d j
 ap:∀ b∈A.sm,b∉A.ft
section
variable{CS CD C CW CG:nt}{H H':Hp}{A:SAd}{wd:Z5}{C0 C1:mu (mu Z4)}{us:mu PcU}{M:Z5->bT}{F:mu nt}
def StC.here(h:StC CS CD C CW CG H A wd C0 C1 us M):∀ b∈A.sm++A.ft,∃o,H b=some o:=λb a=>by
 rcases amy.mp a with a|a
 .rcases SAd.II a with a|⟨i,hi,a⟩
  .let⟨_,h1⟩:=h.st;let h8:=h.sl;let h9:=h.nl;let h10:=h.dl;simp only[List.mem_cons,List.not_mem_nil,or_false] at a;rcases a with rfl|rfl|rfl|rfl <;> exact{_,by assumption}
  .let⟨dx,X5,h1,h2⟩:=(h.sh i hi).at_;rcases a with rfl|rfl
   .exact{_,h1}
   .exact{_,h2}
 .exact h.D.here b a
def StC.dQ(h:StC CS CD C CW CG H A wd C0 C1 us M)(k:bg F H H')(g:cH H F)(hd:∀ b∈A.sm++A.ft,b∉F):StC CS CD C CW CG H' A wd C0 C1 us M:=by
 let c:∀ b∈A.sm,b∉F:=λb f=>hd b<|amY _ f
 let⟨dx,h1⟩:=h.st;refine{{dx,k _ _ h1<|c _ (by simp[SAd.sm])},k _ _ h.sl<|c _ (by simp[SAd.sm]),h.D.apart k λb f=>hd b<|amm _ f,k _ _ h.nl<|c _ (by simp[SAd.sm]),h.nn,λn u e=>?_,k _ _ h.dl<|c _ (by simp[SAd.sm]),λi hi=>(h.sh i hi).dQ k g (c _<|A.mx hi)<|c _<|A.md hi,h.dom,h.nle,h.n61,h.tn,h.S,h.T,h.nd,h.nx,h.ap};let⟨t,a,m,j,l⟩:=h.no n u e;exact{t,a,m,k _ _ j<|g.tup j,cE.dQ l k g}
def StC.same(h:StC CS CD C CW CG H A wd C0 C1 us M)(s:ao H H'):StC CS CD C CW CG H' A wd C0 C1 us M:=h.dQ (F:=[]) (bg.of_same s) cH.nil λ_ _ h=>by cases h
def StC.alI(h:StC CS CD C CW CG H A wd C0 C1 us M):VI CD H A.q wd C0 C1:={{_,_,_,_,h.D},h.S,h.T,by let:=h.tn;omega}
def StC.pD(h:StC CS CD C CW CG H A wd C0 C1 us M){a:nt}{xs:mu V}(b:H a=some (.lst xs)){i:Z5}(hi:i<3):a≠A.x i/\a≠A.d i/\a≠A.p:=by let⟨dx,X5,h1,h2⟩:=(h.sh i hi).at_;let⟨_,h3⟩:=h.st;exact{c9 b h1 nofun,c9 b h2 nofun,c9 b h3 nofun}
def StC.Wj(h:StC CS CD C CW CG H A wd C0 C1 us M){i:Z5}(hi:i<3):A.p≠A.x i/\A.p≠A.d i:=by let⟨dx,X5,h1,h2⟩:=(h.sh i hi).at_;let⟨_,h3⟩:=h.st;exact{c9 h3 h1 (by intro z;injection z with _ _ z3;cases z3),c9 h3 h2 nofun}
def StC.O0(h:StC CS CD C CW CG H A wd C0 C1 us M){i j:Z5}(hi:i<3)(g:j<3):A.x i≠A.d j:=by let⟨dx,X5,h1,h2⟩:=(h.sh i hi).at_;let⟨f,b,c,a⟩:=(h.sh j g).at_;exact c9 h1 a nofun
def StC.app(h:StC CS CD C CW CG H A wd C0 C1 us M)(z:us.length≤60){t a:nt}{u:PcU}(s:cE CW CG H (.ref a) u)(o:H t=some (.tup [.str "put",.ref a]))(B:H' A.nl=some (.lst (A.NL++[.ref t])))(k:bg [A.nl] H H'):StC CS CD C CW CG H' {A with NL:=A.NL++[.ref t]} wd C0 C1 (us++[u]) M:=by
 let c:cH H [A.nl]:=cH.ls h.nl cH.nil;let⟨dx,h1⟩:=h.st;let j:∀i,i<3->A.x i∉[A.nl]/\A.d i∉[A.nl]:=λi hi=>by let:=h.pD h.nl hi;simp only[List.mem_singleton];exact⟨this.1.symm,this.2.1.symm⟩
 let f:=h.nd;refine{{dx,k _ _ h1<|⇑((h.pD h.nl (i:=0) o6).2.2.symm)},k _ _ h.sl (⇑f.1),h.D.apart k λb p r=>h.ap b (by rw[amr.mp r];simp[SAd.sm]) p,B,by simp[h.nn],λn v e=>?_,k _ _ h.dl (⇑f.2.2.symm),λi hi=>(h.sh i hi).dQ k c (j i hi).1 (j i hi).2,h.dom,λi hi=>by let:=h.nle i hi;simp;omega,by simp;omega,h.tn,h.S,h.T,h.nd,h.nx,h.ap};by_cases m:n<us.length
 .rw[ams m] at e;let⟨t',F,y,l,q⟩:=h.no n v e;exact{t',F,by show(A.NL++[V.ref t])[n]? = _;rw[ams (by rwa[h.nn])];exact y,k _ _ l<|c.tup l,cE.dQ q k c}
 .let g:n=us.length:=by let:=(amc.mp e).1;simp at this;omega
  subst g;rw[amG<|amd _,aqy] at e;cases e;exact{t,a,by show(A.NL++[V.ref t])[us.length]? = _;rw[←h.nn,amG<|amd _,aqy];rfl,k _ _ o<|c.tup o,cE.dQ s k c}
def SAd.re(A:SAd)(i:Z5)(x' d':nt)(n':Z5):SAd:={A with x:=fset A.x i x',d:=fset A.d i d',n:=fset A.n i n'}
def StC.re(h:StC CS CD C CW CG H A wd C0 C1 us M){i:Z5}(hi:i<3){x' d':nt}{n':Z5}{M':bT}(k:bg F H H')(hF:cH H F)(y:∀ b∈F,b=A.sl∨b=A.dl∨b=A.x i∨b=A.d i)(a2:H' A.sl=some (.lst (l3 λj=>.ref (fset A.x i x' j))))(Y:H' A.dl=some (.lst (l3 λj=>.int ((fset A.n i n' j:Z5):Z4))))(hs:ShC C CW CG H' x' d' ↥n' M' 61)(B:∀m,(M' m).isSome=Z1↔0≤m/\m <↥n')(hn:n'≤us.length)(hx:(x'=A.x i/\d'=A.d i)∨(H x'=Z0/\H d'=Z0)):StC CS CD C CW CG H' (A.re i x' d' n') wd C0 C1 us (fset M i M'):=by
 let U:∀b,b≠A.sl->b≠A.dl->b≠A.x i->b≠A.d i->b∉F:=λb h1 h2 h3 h4 c=>by rcases y b c with z|z|z|z <;> contradiction
 let⟨dx,h1⟩:=h.st;let O:=h.nd;let a0:=h.pD h.sl hi;let a1:=h.pD h.dl hi;let L:=h.pD h.nl hi;let a3:∀ b∈F,b∈A.sm:=λb c=>by
  rcases y b c with z|z|z|z <;> rw[z]
  .simp[SAd.sm]
  .simp[SAd.sm]
  .exact A.mx hi
  .exact A.md hi
 let hp:=h.Wj hi;let fr:∀j,j<3->∀b o,H b=some o->b≠x'∨x'=A.x i:=λj f b o e=>by
  rcases hx with⟨z,_⟩|⟨z,_⟩
  .exact .inr z
  .exact .inl (aA e z)
 refine{{dx,k _ _ h1<|U _ a0.2.2.symm a1.2.2.symm hp.1 hp.2},a2,h.D.apart k λb c r=>h.ap b (a3 b r) c,k _ _ h.nl<|U _ O.1.symm O.2.2 L.1 L.2.1,h.nn,λn u e=>?_,Y,λj f=>?_,λj f m=>?_,λj f=>?_,h.n61,h.tn,h.S,h.T,h.nd,λj l f hl p=>?_,λb c=>?_}
 .let⟨t,a,e1,g,e3⟩:=h.no n u e;exact{t,a,e1,k _ _ g<|hF.tup g,cE.dQ e3 k hF}
 .show ShC C CW CG H' (fset A.x i x' j) (fset A.d i d' j) ((fset A.n i n' j:Z5):Z4) (fset M i M' j) 61;by_cases e:j=i
  .subst e;rwa[dF,dF,dF,dF]
  .rw[cN e,cN e,cN e,cN e];let l1:=h.pD h.sl f;let l2:=h.pD h.dl f;let l3:=h.nx j i f hi e;exact(h.sh j f).dQ k hF (U _ l1.1.symm l2.1.symm l3.1<|h.O0 f hi) (U _ l1.2.1.symm l2.2.1.symm (h.O0 hi f).symm l3.2)
 .show(fset M i M' j m).isSome=Z1↔0≤m/\m <((fset A.n i n' j:Z5):Z4);by_cases e:j=i
  .subst e;rw[dF,dF];exact B m
  .rw[cN e,cN e];exact h.dom j f m
 .show fset A.n i n' j≤_;by_cases e:j=i
  .subst e;rwa[dF]
  .rw[cN e];exact h.nle j f
 .show fset A.x i x' j≠fset A.x i x' l/\fset A.d i d' j≠fset A.d i d' l;let s:∀j,j<3->j≠i->A.x j≠x'/\A.d j≠d':=λj f e=>by
   rcases hx with⟨q,v⟩|⟨q,v⟩
   .rw[q,v];exact h.nx j i f hi e
   .let⟨dx,X5,g1,g2⟩:=(h.sh j f).at_;exact{aA g1 q,aA g2 v}
  by_cases e:j=i
  .subst e;rw[dF,dF,cN p.symm,cN p.symm];exact{(s l hl p.symm).1.symm,(s l hl p.symm).2.symm}
  .rw[cN e,cN e];by_cases g:l=i
   .subst g;rw[dF,dF];exact s j f e
   .rw[cN g,cN g];exact h.nx j l f hl p
 .let old:∀b,b=x'∨b=d'->b∉A.ft:=λb c r=>by
   rcases hx with⟨q,v⟩|⟨q,v⟩
   .rcases c with e|e
    .rw[e,q] at r;exact h.ap _ (A.mx hi) r
    .rw[e,v] at r;exact h.ap _ (A.md hi) r
   .let⟨o,g⟩:=h.D.here b r;rcases c with e|e
    .rw[e,q] at g;cases g
    .rw[e,v] at g;cases g
  rcases SAd.II c with c|⟨j,f,c⟩
  .exact h.ap b (by simp only[SAd.sm,SAd.re,List.mem_cons,List.not_mem_nil,or_false] at c ⊢;rcases c with z|z|z|z <;> simp[z])
  .let c:b=fset A.x i x' j∨b=fset A.d i d' j:=c;by_cases e:j=i
   .subst e;rw[dF,dF] at c;exact old b c
   .rw[cN e,cN e] at c;rcases c with z|z <;> rw[z]
    .exact h.ap _ (A.mx f)
    .exact h.ap _ (A.md f)
end
def Y7{l:mu nt}(h:l.Nodup)(k:Z5){b:nt}(a:b∈l.take k):b∉l.drop k:=λhd=>by rw[←aoI k l,apj] at h;exact h.2.2 b a b hd J
def Alv(L:mu nt)(H:Hp):Z3:=∀ a∈L,H a≠Z0
def Alv.new{L:mu nt}{H:Hp}(h:Alv L H){b:nt}(e:H b=Z0):b∉L:=λz=>h b z e
def Alv.cons{L:mu nt}{H:Hp}(h:Alv L H){b:nt}{o:HO}(e:H b=some o):Alv (b::L) H:=λa c=>(amq.mp c).elim (λz=>by rw[z,e];simp)<|h a
def Alv.mv{L:mu nt}{H H':Hp}(h:Alv L H)(k:∀b,H b≠Z0->H' b≠Z0):Alv L H':=λa c=>k a<|h a c
def pO{H H':Hp}(s:ao H H')(b:nt)(h:H b≠Z0):H' b≠Z0:=by
 cases e:H b with
 |none=>exact absurd e h
 |some o=>rw[s b o e];simp
def Az{H:Hp}{p:nt}{o:HO}(b:nt)(h:H b≠Z0):Z9 H p o b≠Z0:=by
 by_cases e:b=p
 .subst e;rw[aj];simp
 .rw[au e];exact h
def iJ(CN:nt)(H:Hp)(E:XK)(i:Z4):Z3:=¬(0≤i/\i<3)->∀e H',ExcAt H' e CN [("shelf",.int i)]->ao H H'->E (.ref CN) (some e) H'
inductive qJ(CS CN:nt)(vs:mu V)(H:Hp)(Q:VK)(E:XK):Z3
 |m (p q sl nl dl se:nt) (rl sk ea:V) (SL:mu V) (i:Z4)(_:vs=[.ref p,.int i])(_:StA CS H p q sl nl dl se rl sk ea)(_:H sl=some (.lst SL))(_:SL.length=3)(_:(0≤i/\i<3)->Q .non H)(_:iJ CN H E i)
def rng(n:Z5):mu Z4:=(List.range n).map λk:Nat=>↥k
def CA(M:bT)(x:Z4):Z3:=Rch (lG M) Z1 x/\x≠-1
inductive qR(CS CN:nt)(vs:mu V)(H:Hp)(x0:VK)(E:XK):Z3
 |m (p q sl nl dl se:nt) (rl sk ea:V) (SL:mu V) (i:Z4)(_:vs=[.ref p,.int i])(_:StA CS H p q sl nl dl se rl sk ea)(_:H sl=some (.lst SL))(_:SL.length=3)(_:¬(0≤i/\i<3))(_:iJ CN H E i)
inductive wA(CS CD C CW CG CN CP:nt)(vs:mu V)(H:Hp)(Q:VK)(E:XK):Z3
 |m (A:SAd) (wd:Z5) (C0 C1:mu (mu Z4)) (us:mu PcU) (M:Z5->bT) (i m:Z4)(_:vs=[.ref A.p,.int i,.int m])(_:StC CS CD C CW CG H A wd C0 C1 us M)(_:∀(j:Z5)u a,i =(j:Z4)->j<3->M j m=some u->cE CW CG H (.ref a) u->Q (.ref a) H)(_:iJ CN H E i)(_:∀j:Z5,i =(j:Z4)->j<3->M j m=Z0->∀e H',ExcAt H' e CP [("number",.int m)]->ao H H'->E (.ref CP) (some e) H')
inductive vA(CS CD C CW CG CN:nt)(vs:mu V)(H:Hp)(Q:VK)(E:XK):Z3
 |m (A:SAd) (wd:Z5) (C0 C1:mu (mu Z4)) (us:mu PcU) (M:Z5->bT) (i:Z4)(_:vs=[.ref A.p,.int i])(_:StC CS CD C CW CG H A wd C0 C1 us M)(_:∀j:Z5,i =(j:Z4)->j<3->∀v H',ig (CA (M j)) v->ao H H'->Q v H')(_:iJ CN H E i)
inductive tP(CS CD CP CB:nt)(vs:mu V)(H:Hp)(Q:VK)(E:XK):Z3
 |m (p q sl nl dl se ta sa a:nt) (TL SL:mu nt) (wd:Z5) (C0 C1:mu (mu Z4)) (rl sk ea:V) (L:mu V) (chs:mu (Z4×Z4))(_:vs=[.ref p,.ref a])(_:StA CS H p q sl nl dl se rl sk ea)(_:bX CD H q ta sa TL SL wd C0 C1)(_:H a=some (.lst L))(_:mU H L chs)(_:chs.length≤300)(_:C0.length≤500)(_:a∉foot q ta sa TL SL)(_:cy wd chs=Z0->∀(m d:nt)(H':Hp)(tab:mu Z4),C0[C0.length-1]?=some tab->bX CD H' q ta sa (TL++[m]) (SL++[d]) wd (C0++[nextT tab chs]) (C1++[chs.map Prod.fst])->H m=Z0->H d=Z0->bg (foot q ta sa TL SL) H H'->Q (.int (C0.length:Z4)) H')(_:∀x,cy wd chs=some (Z1,x)->∀e H',ExcAt H' e CP [("place",.int x)]->ao H H'->E (.ref CP) (some e) H')(_:∀x,cy wd chs=some (Z2,x)->∀e H',ExcAt H' e CB [("block",.int x)]->ao H H'->E (.ref CB) (some e) H')
def WhC(M:bT)(x:Z4):Z3:=∃n u,M n=some u/\u.wh=Z1/\u.good=Z1/\x =↥u.d
def iQ(M:bT)(w:Z6)(x:Z4):Z3:=if w = "since" then WhC M x else CA M x
def wK(w:Z6):Z3:=w = "since"∨w = "last"
inductive yp(C CW CG:nt)(vs:mu V)(H:Hp)(Q:VK)(E:XK):Z3
 |m (p d:nt) (fl:Z4) (X5:mu (Key×V)) (M:bT)(_:vs=[.ref p])(_:fS C H p d fl X5)(_:gf (cE CW CG H) X5 M)(_:X5.length≤62)(_:∀v H',ig (WhC M) v->ao H H'->Q v H')
inductive sJ(CS CD C CW CG CB:nt)(vs:mu V)(H:Hp)(Q:VK)(E:XK):Z3
 |m (A:SAd) (wd:Z5) (C0 C1:mu (mu Z4)) (us:mu PcU) (M:Z5->bT) (w:Z6)(_:vs=[.ref A.p,.str w])(_:wK w)(_:StC CS CD C CW CG H A wd C0 C1 us M)(_:∀b H',ig (iQ (M 0) w) (.int b)->ao H H'->Q (.int b) H')(_:ig (iQ (M 0) w) .non->∀e H',ExcAt H' e CB [("base",.non),("day",.int ((C0.length:Z4)-1))]->ao H H'->E (.ref CB) (some e) H')
inductive rj(CD CB:nt)(vs:mu V)(H:Hp)(x0:VK)(E:XK):Z3
 |m (q ta sa:nt) (TL SL:mu nt) (wd:Z5) (C0 C1:mu (mu Z4)) (d:Z4)(_:vs=[.ref q,.int d,.int d])(_:bX CD H q ta sa TL SL wd C0 C1)(_:vP wd C1)(_:C0.length≤500)(_:0≤d)(_:d<C0.length)(_:∀e H',ExcAt H' e CB [("base",.int d),("day",.int d)]->ao H H'->E (.ref CB) (some e) H')
def WhU(C0:mu (mu Z4))(u:PcU):Z3:=∃a,C0[C0.length-1]?=some a/\u ={Z1,(0),C0.length-1,jX a,(sY Z1 0 (C0.length-1) (jX a):Z5)}
def NoB(C0:mu (mu Z4))(M:bT)(w:Z6):Z3:=w = "whole"∨(wK w/\∀v,ig (iQ M w) v->v=.non∨v=.int (↥C0.length-1))
def Ni(CB:nt)(C0:mu (mu Z4))(M:bT)(w:Z6)(H:Hp)(E:XK):Z3:=∀v e H',wK w->ig (iQ M w) v->ExcAt H' e CB [("base",v),("day",.int<|↥C0.length-1)]->ao H H'->E (.ref CB) (some e) H'
inductive qM(CS CD C CW CG CB:nt)(vs:mu V)(H:Hp)(Q:VK)(E:XK):Z3
 |m (A:SAd) (wd:Z5) (C0 C1:mu (mu Z4)) (us:mu PcU) (M:Z5->bT) (w:Z6)(_:vs=[.ref A.p,.str w])(_:NoB C0 (M 0) w)(_:StC CS CD C CW CG H A wd C0 C1 us M)(_:w = "whole"->∀a u H',WhU C0 u->cE CW CG H' (.ref a) u->ao H H'->Q (.ref a) H')(_:Ni CB C0 (M 0) w H E)
def iV(us:mu PcU)(n k:Z5)(M:bT):bT:=λm=>if ↥n≤m/\m <(n+k:Z5) then us[m.toNat]? else M m
inductive yr(CS CD C CW CG CN:nt)(vs:mu V)(H:Hp)(Q:VK)(E:XK):Z3
 |m (A:SAd) (wd:Z5) (C0 C1:mu (mu Z4)) (us:mu PcU) (M:Z5->bT) (i:Z4) (many:Z5)(_:vs=[.ref A.p,.int i,.int (many:Z4)])(_:StC CS CD C CW CG H A wd C0 C1 us M)(_:0≤many)(_:∀(j k:Z5)H',i =(j:Z4)->j<3->k=min many (us.length-A.n j)->StC CS CD C CW CG H' (A.re j (A.x j) (A.d j) (A.n j+k)) wd C0 C1 us (fset M j (iV us (A.n j) k (M j)))->bg [A.dl,A.x j,A.d j] H H'->Q (.int (k:Z4)) H')(_:iJ CN H E i)
def SAd.add(A:SAd)(t:nt):SAd:={A.re 0 (A.x 0) (A.d 0) (A.n 0+1) with NL:=A.NL++[.ref t]}
inductive AU(CS CD C CW CG:nt)(vs:mu V)(H:Hp)(Q:VK)(E:XK):Z3
 |m (A:SAd) (wd:Z5) (C0 C1:mu (mu Z4)) (us:mu PcU) (M:Z5->bT) (t a:nt) (u:PcU)(_:vs=[.ref A.p,.ref t])(_:StC CS CD C CW CG H A wd C0 C1 us M)(_:A.n 0=us.length)(_:us.length≤60)(_:H t=some (.tup [.str "put",.ref a]))(_:cE CW CG H (.ref a) u)(_:∀H',StC CS CD C CW CG H' (A.add t) wd C0 C1 (us++[u]) (fset M 0 (lD (M 0) (us.length:Z4) (some u)))->bg [A.nl,A.dl,A.x 0,A.d 0] H H'->Q .non H')
inductive A0(CS CD C CW CG CB:nt)(vs:mu V)(H:Hp)(Q:VK)(E:XK):Z3
 |m (A:SAd) (wd:Z5) (C0 C1:mu (mu Z4)) (us:mu PcU) (M:Z5->bT) (w:Z6)(_:vs=[.ref A.p,.str w])(_:NoB C0 (M 0) w)(_:StC CS CD C CW CG H A wd C0 C1 us M)(_:A.n 0=us.length)(_:us.length≤60)(_:w = "whole"->∀t u H',WhU C0 u->StC CS CD C CW CG H' (A.add t) wd C0 C1 (us++[u]) (fset M 0 (lD (M 0) (us.length:Z4) (some u)))->bg [A.nl,A.dl,A.x 0,A.d 0] H H'->Q (.int (us.length:Z4)) H')(_:Ni CB C0 (M 0) w H E)
def zV(u:PcU)(i bt:Z5):PcU:={u with rows:=ir u.rows i bt}
inductive yy(CS CD C CW CG CN CP CL:nt)(vs:mu V)(H:Hp)(Q:VK)(E:XK):Z3
 |m (A:SAd) (wd:Z5) (C0 C1:mu (mu Z4)) (us:mu PcU) (M:Z5->bT) (i m ai:Z4) (bt:Z5)(_:vs=[.ref A.p,.int i,.int m,.int ai,.int (bt:Z4)])(_:StC CS CD C CW CG H A wd C0 C1 us M)(_:∀(j:Z5)u(x:Z5),i =(j:Z4)->j<3->M j m=some u->ai =(x:Z4)->x<u.rows.length->∀H',StC CS CD C CW CG H' A wd C0 C1 us (fset M j (lD (M j) m (some (zV u x bt))))->bg [A.x j,A.d j] H H'->Q .non H')(_:iJ CN H E i)(_:∀j:Z5,i =(j:Z4)->j<3->M j m=Z0->∀e H',ExcAt H' e CP [("number",.int m)]->ao H H'->E (.ref CP) (some e) H')(_:∀(j:Z5)u,i =(j:Z4)->j<3->M j m=some u->¬(0≤ai/\ai <(u.rows.length:Z4))->∀e H',ExcAt H' e CL [("place",.int ai)]->ao H H'->E (.ref CL) (some e) H')
inductive x8(CS CN:nt)(vs:mu V)(H:Hp)(x0:VK)(E:XK):Z3
 |m (p q sl nl dl se:nt) (rl sk ea:V) (SL:mu V) (i j:Z4)(_:vs=[.ref p,.int i,.int j])(_:StA CS H p q sl nl dl se rl sk ea)(_:H sl=some (.lst SL))(_:SL.length=3)(_:¬((0≤i/\i<3)/\(0≤j/\j<3)))(_:iJ CN H E i)(_:0≤i/\i<3->iJ CN H E j)
def Jp(xs:mu Z4)(s:Z4):Z3:=¬(0≤s/\s<3)/\∃k:Z5,xs[k]?=some s/\∀(j:Z5)x,j<k->xs[j]?=some x->0≤x/\x<3
inductive iH(CS CN:nt)(vs:mu V)(H:Hp)(x0:VK)(E:XK):Z3
 |m (p q sl nl dl se a:nt) (rl sk ea:V) (SL:mu V) (xs:mu Z4) (s:Z4)(_:vs=[.ref p,.ref a])(_:StA CS H p q sl nl dl se rl sk ea)(_:H sl=some (.lst SL))(_:SL.length=3)(_:H a=some (.lst (xs.map Z8)))(_:Jp xs s)(_:iJ CN H E s)
inductive yw(C:nt)(vs:mu V)(H:Hp)(Q:VK)(E:XK):Z3
 |m (p dx l:nt) (xs:mu V)(_:vs=[.ref p,.ref l])(_:H p=some (.ins C dx []))(_:H l=some (.lst xs))(_:xs.length≤100)(_:∀t H',H' p=some (.ins C dx [("rules",.ref t)])->bg [p] H H'->Q .non H')
inductive uS(CS CD C CNT:nt)(vs:mu V)(H:Hp)(Q:VK)(E:XK):Z3
 |m (p dx:nt) (wd:Z4) (rl sk ea:V)(_:vs=[.ref p,.int wd,rl,sk,ea])(_:H p=some (.ins CS dx []))(_:1≤wd/\wd≤40)(_:∀(A:SAd)(H':Hp),A.p=p->(∀i,A.n i=0)->(∀CW CG,StC CS CD C CW CG H' A wd.toNat [List.replicate wd.toNat 0] [[]] [] (λ_ _=>Z0))->H' A.se=some (.dK [])->A.se∉A.sm++A.ft->(∀ b∈A.se ::(A.sm++A.ft),b=p∨H b=Z0)->bg [p] H H'->Q .non H')
section
variable{us:mu PcU}{n k:Z5}{M:bT}{m:Z4}{u:PcU}
def Jw:iV us n 0 M=M:=funext λm=>al8 o5
def Kr(h:us[n+k]?=some u):iV us n (k+1) M=lD (iV us n k M) ((n+k:Z5):Z4) (some u):=funext λm=>by
 by_cases e:m =((n+k:Z5):Z4)
 .subst e;rw[sA];unfold iV;rw[ama o5,show(((n+k:Z5)):Z4).toNat=n+k by omega,h]
 .rw[mR e];unfold iV;by_cases c:↥n≤m/\m <(n+k:Z5)
  .rw[ama c,ama o5]
  .rw[al8 c,al8 o5]
variable{f:Z5}
def F2(hd:∀m,(M m).isSome=Z1↔0≤m/\m <↥f)(a:f=n)(e:iV us n k M m=some u):0≤m/\m <((n+k:Z5):Z4):=by
 unfold iV at e;split at e
 .omega
 .let:=(hd m).mp (by rw[e];rfl);omega
def L8(hd:∀m,(M m).isSome=Z1↔0≤m/\m <↥f)(b:f=n)(a:n+k≤us.length)(m:Z4):(iV us n k M m).isSome=Z1↔0≤m/\m <((n+k:Z5):Z4):=by
 unfold iV;split
 .rename_i c;rw[amg o5];simp;omega
 .rw[hd m];omega
end
def VE{α:Type}{Pr:V->α->Z3}{X5:mu (Key×V)}{M:Z4->o9 α}(h:gf Pr X5 M){n:Z4}(e:bu X5 (Sum.inl n)=Z0):M n=Z0:=by
 cases z:M n with
 |none=>rfl
 |some u=>let⟨v,h1,_⟩:=h.eK n u z;rw[h1] at e;cases e
def K5(X5:mu (Key×V))(k:Key)(v:V):(putK X5 k v).length≤X5.length+1:=by rw[Ah];split <;> omega
def Vd{α:Type}{Pr:V->α->Z3}{X5:mu (Key×V)}{M:Z4->o9 α}(h:gf Pr X5 M){N:Z5}(i:∀m u,M m=some u->0≤m/\m <↥N):X5.length≤N:=by
 let⟨ns,c⟩:=wX h.gc;let g:X5.length=ns.length:=by let:=congrArg List.length c;simpa using this
 let j:ns.Nodup:=by let:=h.nd;rw[c] at this;exact(aox.mp this).imp λa b=>a<|congrArg Sum.inl b
 rw[g];refine wk N ns j λx f=>?_
 let⟨u,e⟩:=aoj.mp<|(h.keys c x).mp f;exact i x u e
section
variable{CS CD C CW CG:nt}{H H':Hp}{A:SAd}{wd:Z5}{C0 C1:mu (mu Z4)}{us:mu PcU}{M:Z5->bT}{m d:nt}{tb xs:mu Z4}
def StC.day(h:StC CS CD C CW CG H A wd C0 C1 us M)(s:bX CD H' A.q A.ta A.sa (A.TL++[m]) (A.SL++[d]) wd (C0++[tb]) (C1++[xs]))(k:bg A.ft H H')(nm:H m=Z0)(r:H d=Z0)(y:C0.length≤99)(B:vP wd (C1++[xs]))(x:∀ t∈C0++[tb],TabOk wd t):StC CS CD C CW CG H' {A with TL:=A.TL++[m],SL:=A.SL++[d]} wd (C0++[tb]) (C1++[xs]) us M:=by
 let c:cH H A.ft:=cH.days h.D;let⟨dx,h1⟩:=h.st;refine{{dx,k _ _ h1<|h.ap A.p (by simp[SAd.sm])},k _ _ h.sl<|h.ap A.sl (by simp[SAd.sm]),s,k _ _ h.nl<|h.ap A.nl (by simp[SAd.sm]),h.nn,λn u e=>?_,k _ _ h.dl<|h.ap A.dl (by simp[SAd.sm]),λi hi=>(h.sh i hi).dQ k c (h.ap _<|A.mx hi)<|h.ap _<|A.md hi,h.dom,h.nle,h.n61,by simp;omega,B,x,h.nd,h.nx,λb f l=>?_}
 .let⟨t,a,v,g,j⟩:=h.no n u e;exact{t,a,v,k _ _ g<|c.tup g,cE.dQ j k c}
 let⟨o,e⟩:=h.here b<|amY _ f;let z:b∈A.ft∨b=m∨b=d:=by simp only[SAd.ft,foot,List.mem_append,List.mem_singleton,List.mem_cons] at l ⊢;grind
 rcases z with z|z|z
 .exact h.ap b f z
 .rw[z,nm] at e;cases e
 .rw[z,r] at e;cases e
end
def DN(M:bT)(x:Z4):Z3:=Rch (lG M) Z2 x/\x≠-1
def MY(CDy:nt)(H:Hp)(E:XK)(x:Z4):Z3:=∀e H',ExcAt H' e CDy [("day",.int x)]->ao H H'->E (.ref CDy) (some e) H'
inductive AG(CS CD C CW CG CDy:nt)(vs:mu V)(H:Hp)(Q:VK)(E:XK):Z3
 |m (A:SAd) (wd:Z5) (C0 C1:mu (mu Z4)) (us:mu PcU) (M:Z5->bT) (x:Z4) (kv:mu (Key×V))(_:vs=[.ref A.p,.int x])(_:StC CS CD C CW CG H A wd C0 C1 us M)(_:H A.se=some (.dK kv))(_:kv.length≤100)(_:DN (M 0) x->∀H',bg [A.se] H H'->Q .non H')(_:¬DN (M 0) x->MY CDy H E x)
inductive vt(vs:mu V)(H:Hp)(Q:VK)(E:XK):Z3
 |m (z:Z6)(_:vs=[.str z])(_:z.length≤4900)(_:∀H',ao H H'->Q (.bl (okW z)) H')
inductive uP(vs:mu V)(H:Hp)(Q:VK)(E:XK):Z3
 |m (z:Z6)(_:vs=[.str z])(_:okW z=Z1)(_:∀H',ao H H'->Q (.int (intOf z)) H')
inductive wj(vs:mu V)(H:Hp)(Q:VK)(E:XK):Z3
 |m (z:Z6) (c:Z4×Z4)(_:vs=[.str z])(_:z.length≤4900)(_:chg z=some c)(_:∀t H',H' t=some (.tup [.int c.1,.int c.2])->ao H H'->Q (.ref t) H')
inductive sR(vs:mu V)(H:Hp)(Q:VK)(E:XK):Z3
 |m (z:Z6)(_:vs=[.str z,.bl Z1])(_:Q .non H)
def hiV:o9 Z5->V
 |none=>.non
 |some m=>.int ↥m
inductive AL(K:Frag)(vs:mu V)(H:Hp)(Q:VK)(E:XK):Z3
 |m (n lo:Z5) (hi:o9 Z5) (a:nt)(_:vs=[.int (n:Z4),.ref a])(_:X3 K H a [.int (lo:Z4),hiV hi])(_:Q (.bl (iW n (lo,hi))) H)
inductive wz(vs:mu V)(H:Hp)(Q:VK)(E:XK):Z3
 |m (z:Z6) (a:nt) (ns:mu Z4)(_:vs=[.str z,.ref a])(_:H a=some (.lst (ns.map Z8)))(_:within z ns)(_:z = "harm"->4≤ns.length)(_:z = "plan"->2≤ns.length)(_:ns.length≤500)(_:∀H',ao H H'->Q (.bl Z1) H')
def ef(H:Hp)(l:nt):Told->Z3
 |.chs a=>∃L,H l=some (.lst L)/\mU H L a
 |.wrd w=>H l=some (.lst [.str w])
 |.nums ns=>H l=some (.lst<|ns.map Z8)
def ef.same{H H':Hp}{l:nt}{td:Told}(h:ef H l td)(s:ao H H'):ef H' l td:=by
 cases td with
 |chs a=>let⟨L,h1,h2⟩:=h;exact{L,s _ _ h1,h2.mono λb xs e=>s _ _ e}
 |wrd w=>exact s _ _ h
 |nums ns=>exact s _ _ h
inductive yM(vs:mu V)(H:Hp)(Q:VK)(E:XK):Z3
 |m (hd:Z6) (r:nt) (ws:mu Z6) (td:Told)(_:vs=[.str hd,.ref r])(_:H r=some (.lst (ws.map V.str)))(_:∀ w∈ws,w.length≤4900)(_:ws.length≤500)(_:RowW hd ws td)(_:∀l H',ef H' l td->(l=r∨H l=Z0)->ao H H'->Q (.ref l) H')
inductive Ai(vs:mu V)(H:Hp)(Q:VK)(E:XK):Z3
 |m (z hd:Z6) (td:Told)(_:vs=[.str z])(_:z.length≤400)(_:Cr z hd td)(_:∀t l H',H' t=some (.tup [.str hd,.ref l])->ef H' l td->H l=Z0->ao H H'->Q (.ref t) H')
inductive pC(C:nt)(vs:mu V)(H:Hp)(Q:VK)(E:XK):Z3
 |m (p dx:nt) (s:Z4)(_:vs=[.ref p,.int s,.non])(_:H p=some (.ins C dx []))(_:1≤s)(_:∀H',bg [p] H H'->(∃fs,H' p=some (.ins C dx fs))->Q .non H')
def vU(CR:nt)(H:Hp)(E:XK)(v:V):Z3:=∀e H',ExcAt H' e CR [("found",v)]->ao H H'->E (.ref CR) (some e) H'
inductive yO(C CR:nt)(vs:mu V)(H:Hp)(x0:VK)(E:XK):Z3
 |m (p dx:nt)(_:vs=[.ref p,.int 0])(_:H p=some (.ins C dx []))(_:∀e H',ExcAt H' e CR [("found",.int 0)]->ao H H'->E (.ref CR) (some e) H')
inductive AM(CR:nt)(vs:mu V)(H:Hp)(Q:VK)(E:XK):Z3
 |m (z:Z6)(_:vs=[.str z])(_:(z = "each 3"/\∀a H',ao H H'->Q (.ref a) H')∨(z = "last"/\vU CR H E (.str "last"))∨(z = "apart 0"/\vU CR H E (.int 0)))
inductive we(CR:nt)(vs:mu V)(H:Hp)(Q:VK)(E:XK):Z3
 |m (z:Z6)(_:vs=[.str z])(_:((z = ""∨z = "each 3")/\∀a H',ao H H'->Q (.ref a) H')∨(z = "last"/\vU CR H E (.str "last"))∨(z = "apart 0"/\vU CR H E (.int 0)))
inductive uc(CPl:nt)(vs:mu V)(H:Hp)(Q:VK)(E:XK):Z3
 |m (n:Z4)(_:vs=[.int n])(_:(1≤n/\n≤7)->Q .non H)(_:¬(1≤n/\n≤7)->∀e H',ExcAt H' e CPl [("many",.int n)]->ao H H'->E (.ref CPl) (some e) H')
def aag(CPl CDy:nt)(T:Z4)(b n:Z4)(H:Hp)(E:XK):Z3:=(7<n/\∀e H',ExcAt H' e CPl [("many",.int n)]->ao H H'->E (.ref CPl) (some e) H')∨(n≤7/\∃d,b≤d/\d<b+n/\¬(0≤d/\d<T)/\(∀x,b≤x->x<d->0≤x/\x<T)/\MY CDy H E d)
inductive uV(CD CPl CDy:nt)(vs:mu V)(H:Hp)(x0:VK)(E:XK):Z3
 |m (q ta sa wl rl:nt) (TL SL:mu nt) (wd:Z5) (C0 C1:mu (mu Z4)) (b:Z4) (ws:mu V)(_:vs=[.ref q,.int b,.ref wl,.ref rl])(_:bX CD H q ta sa TL SL wd C0 C1)(_:H wl=some (.lst ws))(_:1≤ws.length)(_:ws.length≤500)(_:(-(2 ^ 62)≤b/\b<2 ^ 62/\-(2 ^ 62)≤b +(ws.length:Z4)/\b +(ws.length:Z4)<2 ^ 62)∨2 ^ 63≤b)(_:aag CPl CDy (C0.length:Z4) b (ws.length:Z4) H E)
def jnT(ns:mu Z4):Z6:=Str.join (Str.ofString " ")<|ns.map bY
inductive vg(vs:mu V)(H:Hp)(Q:VK)(E:XK):Z3
 |m (t:nt) (ns:mu Z4)(_:vs=[.ref t])(_:H t=some (.tup (ns.map Z8)))(_:ns≠[])(_:ns.length≤10)(_:∀ n∈ns,0≤n/\n<1000)(_:∀H',ao H H'->Q (.str (jnT ns)) H')
inductive vS(vs:mu V)(H:Hp)(Q:VK)(E:XK):Z3
 |m (a:nt) (ns:mu Z4)(_:vs=[.ref a])(_:H a=some (.lst (ns.map Z8)))(_:2≤ns.length)(_:ns.length≤500)(_:∀l,H l=Z0->Q (.ref l) (Z9 H l (.lst (ns.tail.map Z8))))
inductive m5(CS CD C CW CG CP CB:nt)(vs:mu V)(H:Hp)(Q:VK)(E:XK):Z3
 |m (A:SAd) (wd:Z5) (C0 C1:mu (mu Z4)) (us:mu PcU) (M:Z5->bT) (l:nt) (chs:mu (Z4×Z4))(_:vs=[.ref A.p,.ref l])(_:StC CS CD C CW CG H A wd C0 C1 us M)(_:ef H l (.chs chs))(_:chs.length≤100)(_:C0.length≤90)(_:l∉A.ft)(_:cy wd chs=Z0->∀(m d:nt)(H':Hp)(tab:mu Z4),C0[C0.length-1]?=some tab->StC CS CD C CW CG H' {A with TL:=A.TL++[m],SL:=A.SL++[d]} wd (C0++[nextT tab chs]) (C1++[chs.map Prod.fst]) us M->H m=Z0->H d=Z0->bg A.ft H H'->Q (.str (bY (C0.length:Z4))) H')(_:∀x,cy wd chs=some (Z1,x)->∀e H',ExcAt H' e CP [("place",.int x)]->ao H H'->E (.ref CP) (some e) H')(_:∀x,cy wd chs=some (Z2,x)->∀e H',ExcAt H' e CB [("block",.int x)]->ao H H'->E (.ref CB) (some e) H')
inductive kI(CS CD C CW CG CB:nt)(vs:mu V)(H:Hp)(Q:VK)(E:XK):Z3
 |m (A:SAd) (wd:Z5) (C0 C1:mu (mu Z4)) (us:mu PcU) (M:Z5->bT) (l:nt) (w:Z6)(_:vs=[.ref A.p,.ref l])(_:ef H l (.wrd w))(_:NoB C0 (M 0) w)(_:StC CS CD C CW CG H A wd C0 C1 us M)(_:A.n 0=us.length)(_:us.length≤60)(_:w = "whole"->∀t u H',WhU C0 u->StC CS CD C CW CG H' (A.add t) wd C0 C1 (us++[u]) (fset M 0 (lD (M 0) (us.length:Z4) (some u)))->bg [A.nl,A.dl,A.x 0,A.d 0] H H'->Q (.str (bY (us.length:Z4))) H')(_:Ni CB C0 (M 0) w H E)
inductive kJ(CS CD C CW CG CDy:nt)(vs:mu V)(H:Hp)(Q:VK)(E:XK):Z3
 |m (A:SAd) (wd:Z5) (C0 C1:mu (mu Z4)) (us:mu PcU) (M:Z5->bT) (l:nt) (x:Z4) (kv:mu (Key×V))(_:vs=[.ref A.p,.ref l])(_:ef H l (.nums [x]))(_:StC CS CD C CW CG H A wd C0 C1 us M)(_:H A.se=some (.dK kv))(_:kv.length≤100)(_:DN (M 0) x->∀H',bg [A.se] H H'->Q (.str "ok") H')(_:¬DN (M 0) x->MY CDy H E x)
inductive jh(CS CD C CW CG CN:nt)(vs:mu V)(H:Hp)(Q:VK)(E:XK):Z3
 |m (A:SAd) (wd:Z5) (C0 C1:mu (mu Z4)) (us:mu PcU) (M:Z5->bT) (l:nt) (i:Z4) (many:Z5)(_:vs=[.ref A.p,.ref l])(_:ef H l (.nums [i,(many:Z4)]))(_:StC CS CD C CW CG H A wd C0 C1 us M)(_:0≤many)(_:∀(j k:Z5)H',i =(j:Z4)->j<3->k=min many (us.length-A.n j)->StC CS CD C CW CG H' (A.re j (A.x j) (A.d j) (A.n j+k)) wd C0 C1 us (fset M j (iV us (A.n j) k (M j)))->bg [A.dl,A.x j,A.d j] H H'->Q (.str (bY (k:Z4))) H')(_:iJ CN H E i)
inductive kO(CS CD C CW CG CN CPc CP:nt)(vs:mu V)(H:Hp)(Q:VK)(E:XK):Z3
 |m (A:SAd) (wd:Z5) (C0 C1:mu (mu Z4)) (us:mu PcU) (M:Z5->bT) (l:nt) (i m ai:Z4) (bt:Z5)(_:vs=[.ref A.p,.ref l])(_:ef H l (.nums [i,m,ai,(bt:Z4)]))(_:StC CS CD C CW CG H A wd C0 C1 us M)(_:∀(j:Z5)u(x:Z5),i =(j:Z4)->j<3->M j m=some u->ai =(x:Z4)->x<u.rows.length->∀H',StC CS CD C CW CG H' A wd C0 C1 us (fset M j (lD (M j) m (some (zV u x bt))))->bg [A.x j,A.d j] H H'->Q (.str "ok") H')(_:iJ CN H E i)(_:∀j:Z5,i =(j:Z4)->j<3->M j m=Z0->∀e H',ExcAt H' e CPc [("number",.int m)]->ao H H'->E (.ref CPc) (some e) H')(_:∀(j:Z5)u,i =(j:Z4)->j<3->M j m=some u->¬(0≤ai/\ai <(u.rows.length:Z4))->∀e H',ExcAt H' e CP [("place",.int ai)]->ao H H'->E (.ref CP) (some e) H')
inductive kK(CS CN:nt)(vs:mu V)(H:Hp)(x0:VK)(E:XK):Z3
 |m (p q sl nl dl se:nt) (rl sk ea:V) (SL:mu V) (l:nt) (i j:Z4)(_:vs=[.ref p,.ref l])(_:ef H l (.nums [i,j]))(_:StA CS H p q sl nl dl se rl sk ea)(_:H sl=some (.lst SL))(_:SL.length=3)(_:¬((0≤i/\i<3)/\(0≤j/\j<3)))(_:iJ CN H E i)(_:0≤i/\i<3->iJ CN H E j)
inductive ie(CS CD C CW CG:nt)(vs:mu V)(H:Hp)(Q:VK)(E:XK):Z3
 |m (A:SAd) (wd:Z5) (C0 C1:mu (mu Z4)) (us:mu PcU) (M:Z5->bT) (l:nt)(_:vs=[.ref A.p,.ref l])(_:StC CS CD C CW CG H A wd C0 C1 us M)(_:∀H',ao H H'->Q (.str (jnT (l3 λi=>(A.n i:Z4)))) H')
inductive kQ(CS CN:nt)(vs:mu V)(H:Hp)(x0:VK)(E:XK):Z3
 |m (p q sl nl dl se:nt) (rl sk ea:V) (SL:mu V) (l:nt) (i:Z4)(_:vs=[.ref p,.ref l])(_:ef H l (.nums [i]))(_:StA CS H p q sl nl dl se rl sk ea)(_:H sl=some (.lst SL))(_:SL.length=3)(_:¬(0≤i/\i<3))(_:iJ CN H E i)
inductive kF(CS CD C CW CG CN CPc:nt)(vs:mu V)(H:Hp)(x0:VK)(E:XK):Z3
 |m (A:SAd) (wd:Z5) (C0 C1:mu (mu Z4)) (us:mu PcU) (M:Z5->bT) (l:nt) (i m:Z4)(_:vs=[.ref A.p,.ref l])(_:ef H l (.nums [i,m]))(_:StC CS CD C CW CG H A wd C0 C1 us M)(_:∀j:Z5,i =(j:Z4)->j<3->M j m=Z0)(_:iJ CN H E i)(_:0≤i/\i<3->∀e H',ExcAt H' e CPc [("number",.int m)]->ao H H'->E (.ref CPc) (some e) H')
def shV:V->Z6
 |.int d=>bY d
 |_=>"none"
inductive jg(CS CD C CW CG CN:nt)(vs:mu V)(H:Hp)(Q:VK)(E:XK):Z3
 |m (A:SAd) (wd:Z5) (C0 C1:mu (mu Z4)) (us:mu PcU) (M:Z5->bT) (l:nt) (i:Z4)(_:vs=[.ref A.p,.ref l])(_:ef H l (.nums [i]))(_:StC CS CD C CW CG H A wd C0 C1 us M)(_:∀j:Z5,i =(j:Z4)->j<3->∀v H',ig (CA (M j)) v->(∀d,v=.int d->d.natAbs.log2<1920)->ao H H'->Q (.str (shV v)) H')(_:∀j:Z5,i =(j:Z4)->j<3->∀d,ig (CA (M j)) (.int d)->0≤d/\d<10 ^ 20)(_:iJ CN H E i)
inductive dg(CS CN:nt)(vs:mu V)(H:Hp)(x0:VK)(E:XK):Z3
 |m (p q sl nl dl se:nt) (rl sk ea:V) (SL:mu V) (l:nt) (x:Z4) (xs:mu Z4) (s:Z4)(_:vs=[.ref p,.ref l])(_:ef H l (.nums (x::xs)))(_:xs.length≤400)(_:StA CS H p q sl nl dl se rl sk ea)(_:H sl=some (.lst SL))(_:SL.length=3)(_:Jp xs s)(_:iJ CN H E s)
inductive kL(CS CD CPl CDy:nt)(vs:mu V)(H:Hp)(x0:VK)(E:XK):Z3
 |m (p q sl nl dl se ta sa:nt) (TL SL:mu nt) (wd:Z5) (C0 C1:mu (mu Z4)) (rl sk ea:V) (l:nt) (b:Z4) (r:mu Z4)(_:vs=[.ref p,.ref l])(_:ef H l (.nums (b::r)))(_:5≤r.length)(_:r.length≤400)(_:(0≤b/\b<2 ^ 60)∨2 ^ 63≤b)(_:StA CS H p q sl nl dl se rl sk ea)(_:bX CD H q ta sa TL SL wd C0 C1)(_:aag CPl CDy (C0.length:Z4) b ((r.length:Z4)-4) H E)
def cK:mu (Z6×Z6):=[("day","on_day"),("keep","on_keep"),("seal","on_seal"),("tidy","on_tidy"),("carry","on_carry"),("harm","on_harm"),("heal","on_heal"),("marks","on_marks"),("lies","on_lies"),("line","on_line"),("reach","on_reach"),("fetch","on_fetch"),("price","on_price"),("way","on_way"),("plan","on_plan")]
def zI:mu (Z6×mu V):=[("seal",[.int 1,.int 1]),("tidy",[.int 0,.int 0]),("carry",[.int 2,.int 2]),("harm",[.int 4,.int 4]),("heal",[.int 2,.int 2]),("marks",[.int 0,.int 0]),("lies",[.int 1,.int 1]),("line",[.int 2,.int 2]),("reach",[.int 1,.int 1]),("fetch",[.int 1,.non]),("price",[.int 1,.non]),("way",[.int 1,.non]),("plan",[.int 6,.non])]
def Kg{hd:Z6}{f:Z5×o9 Z5}(h:(hd,f)∈jL):(hd,[V.int ↥f.1,hiV f.2])∈zI:=by
 let e:zI=jL.map λp=>(p.1,[V.int ↥p.2.1,hiV p.2.2]):=rfl
 rw[e];exact anz (f:=λp:Z6×Z5×o9 Nat=>(p.1,[V.int ↥p.2.1,hiV p.2.2])) h
def zw{hd:Z6}{f g:Z5×o9 Z5}(h:(hd,f)∈jL)(e:jL.lookup hd=some g):f=g:=by
 let a:jL.all (λp=>decide (jL.lookup p.1=some p.2))=Z1:=by decide +kernel
 let:=ani<|amZ.mp a _ h;rw[e] at this;exact(amw this).symm
def KnR(z:Z6):Z3:=z = "day"∨z = "keep"∨z = "seal"∨z = "carry"∨z = "harm"∨z = "heal"∨z = "marks"∨z = "lies"∨z = "line"∨z = "reach"∨z = "fetch"∨z = "price"∨z = "way"∨z = "plan"
def bK(CS CD C CW CG CP CB CBs CDy CN CPc CPl:nt)(z:Z6):Sp:=if z = "day" then m5 CS CD C CW CG CP CB else if z = "keep" then kI CS CD C CW CG CBs else if z = "seal" then kJ CS CD C CW CG CDy else if z = "carry" then jh CS CD C CW CG CN else if z = "harm" then kO CS CD C CW CG CN CPc CP
 else if z = "heal" then kK CS CN else if z = "marks" then ie CS CD C CW CG else if z = "lies" then kQ CS CN else if z = "line" then kF CS CD C CW CG CN CPc else if z = "reach" then jg CS CD C CW CG CN else if z = "plan" then kL CS CD CPl CDy else dg CS CN
def Dt(CK:nt)(H:Hp)(k p:nt):Z3:=∃dx,H k=some (.ins CK dx [("store",.ref p)])
inductive zM(CK CS CD C CW CG CP CB CBs CDy CN CPc CPl:nt)(vs:mu V)(H:Hp)(Q:VK)(E:XK):Z3
 |m (k p:nt) (z hd:Z6) (td:Told)(_:vs=[.ref k,.str z])(_:Dt CK H k p)(_:z.length≤400)(_:Cr z hd td)(_:KnR hd)(_:∀l H',ef H' l td->H l=Z0->ao H H'->bK CS CD C CW CG CP CB CBs CDy CN CPc CPl hd [.ref p,.ref l] H' Q E)
def ya(CP CB CBs CDy CN CPc CPl:nt)(c:nF)(oe:o9 nt)(H:Hp)(due:mu V):Z3:=∃e,oe=some e/\((c=.ref CP/\∃x,ExcAt H e CP [("place",x)]/\due=[.str "place",x])∨(c=.ref CB/\∃x,ExcAt H e CB [("block",x)]/\due=[.str "block",x])∨(c=.ref CBs/\∃x y,ExcAt H e CBs [("base",x),("day",y)]/\due=[.str "base",x,y])∨(c=.ref CDy/\∃x,ExcAt H e CDy [("day",x)]/\due=[.str "day",x])∨(c=.ref CN/\∃x,ExcAt H e CN [("shelf",x)]/\due=[.str "shelf",x])∨(c=.ref CPc/\∃x,ExcAt H e CPc [("number",x)]/\due=[.str "piece",x])∨(c=.ref CPl/\∃x,ExcAt H e CPl [("many",x)]/\due=[.str "plan",x]))
def tdQ(Q:VK):VK:=λv H=>∃s,v=.str s/\∀t,H t=Z0->Q (.ref t) (Z9 H t<|.tup [.str "text",.str s])
inductive di(CK CS CD C CW CG CP CB CBs CDy CN CPc CPl:nt)(vs:mu V)(H:Hp)(Q:VK)(E:XK):Z3
 |m (k p:nt) (z hd:Z6) (td:Told)(_:vs=[.ref k,.str z])(_:Dt CK H k p)(_:z.length≤400)(_:Cr z hd td)(_:KnR hd)(_:∀l H'(Q':VK)(E':XK),ef H' l td->H l=Z0->ao H H'->(∀v H2,tdQ Q v H2->Q' v H2)->(∀c oe H2 due,ya CP CB CBs CDy CN CPc CPl c oe H2 due->(∀t,H2 t=Z0->Q (.ref t) (Z9 H2 t (.tup due)))->E' c oe H2)->bK CS CD C CW CG CP CB CBs CDy CN CPc CPl hd [.ref p,.ref l] H' Q' E')
def aki(wd:Z4)(z:Z6)(due:mu V):Z3:=((1≤wd/\wd≤40)/\((z = "last"/\due=[.str "rule",.str "last"])∨(z = "apart 0"/\due=[.str "rule",.int 0])∨(z = "each 3"/\due=[.str "text",.str "0 0 0"])))∨(¬(1≤wd/\wd≤40)/\z = "last"/\due=[.str "table",.int wd])
inductive Ak(vs:mu V)(H:Hp)(Q:VK)(E:XK):Z3
 |m (wd:Z4) (z:Z6) (due:mu V)(_:vs=[.int wd,.str z])(_:aki wd z due)(_:∀t H',H' t=some (.tup due)->ao H H'->Q (.ref t) H')
inductive yJ(CK CS CD C CW CG CNT CR:nt)(vs:mu V)(H:Hp)(Q:VK)(E:XK):Z3
 |m (k dx:nt) (wd:Z4) (sk ea:V) (z:Z6)(_:vs=[.ref k,.int wd,sk,ea,.str z])(_:H k=some (.ins CK dx []))(_:(1≤wd/\wd≤40)->(((z = ""∨z = "each 3")/\∀(A:SAd)(H':Hp),H' k=some (.ins CK dx [("store",.ref A.p)])->(∀i,A.n i=0)->StC CS CD C CW CG H' A wd.toNat [List.replicate wd.toNat 0] [[]] [] (λ_ _=>Z0)->H' A.se=some (.dK [])->A.se∉A.sm++A.ft->(∀ b∈A.se ::(A.sm++A.ft),H b=Z0)->bg [k] H H'->Q .non H')∨(z = "last"/\vU CR H E (.str "last"))∨(z = "apart 0"/\vU CR H E (.int 0))))(_:¬(1≤wd/\wd≤40)->∀e H',ExcAt H' e CNT [("wide",.int wd)]->ao H H'->E (.ref CNT) (some e) H')
def fb(ns:mu Z4):o9 Z4:=ns.find? λx=>!(decide (0≤x)&&decide (x<3))
def cj(wd n:Z5)(hd:Z6):Told->o9 (mu V)
 |.chs a=>match cy wd a with
  |some (true,x)=>some [.str "place",.int x]
  |some (false,x)=>some [.str "block",.int x]
  |none=>Z0
 |.wrd w=>if w = "whole" then Z0 else some [.str "base",.non,.int ↥n]
 |.nums ns=>if hd = "seal" then some [.str "day",.int<|ns.headD 0]
  else if hd = "carry"∨hd = "reach"∨hd = "lies" then(fb<|ns.take 1).map λx=>[.str "shelf",.int x]
  else if hd = "heal" then(fb ns).map λx=>[.str "shelf",.int x]
  else if hd = "line"∨hd = "harm" then some (match fb (ns.take 1) with|some x=>[.str "shelf",.int x]|none=>[.str "piece",.int (ns.getD 1 0)])
  else if hd = "fetch"∨hd = "price"∨hd = "way" then(fb ns.tail).map λx=>[.str "shelf",.int x]
  else if hd = "plan" then(if 12<ns.length then some [.str "plan",.int<|↥ns.length-5] else
   if ns.headD 0 +(↥ns.length-5)≤↥n+1 then Z0 else some [.str "day",.int<|max (ns.headD 0)<|↥n+1])
  else Z0
def few:Told->Z3
 |.chs a=>a.length≤100
 |.wrd _=>True
 |.nums ns=>ns.length≤100/\∀ x∈ns.head?,(0≤x/\x<2 ^ 60)∨2 ^ 63≤x
structure bI(wd n:Z5)(as:mu At)(due:mu V):Z3 where
 gd:fz as
 ln:(dn as).length≤400
 rf:∃hd td,rd as=some (hd,td)/\KnR hd/\cj wd n hd td=some due/\few td
def Tq(wd n:Z5)(H:Hp)(L:mu V):Z3:=L.length≤20/\∀(i:Z5)v,L[i]?=some v->∃t d as due,v=.ref t/\H t=some (.tup [.str<|dn as,.ref d])/\H d=some (.tup due)/\bI wd n as due
inductive wm(vs:mu V)(H:Hp)(Q:VK)(E:XK):Z3
 |m (wd n:Z5) (c:Z4)(_:vs=[.int (wd:Z4),.int (n:Z4),.int c])(_:1≤wd)(_:wd≤40)(_:1≤n)(_:n≤6)(_:∀l L H',H' l=some (.lst L)->Tq wd n H' L->ao H H'->Q (.ref l) H')
inductive qa(vs:mu V)(H:Hp)(Q:VK)(E:XK):Z3
 |m (c o:Z4)(_:vs=[.int c,.int o])(_:∀l L H',H' l=some (.lst L)->(∀wd n,Tq wd n H' L)->ao H H'->Q (.ref l) H')
def SAd.own(A:SAd):mu nt:=A.se ::(A.sm++A.ft)
structure DkS(CK CS CD C CW CG:nt)(H:Hp)(k:nt)(A:SAd)(wd:Z5)(C0 C1:mu (mu Z4))(us:mu PcU)(M:Z5->bT):Z3 where
 dk:Dt CK H k A.p
 st:StC CS CD C CW CG H A wd C0 C1 us M
 se:∃kv,H A.se=some (.dK kv)/\kv.length≤100
 sn:A.se∉A.sm++A.ft
 kn:k∉A.own
inductive vf(CK CS CD C CW CG:nt)(vs:mu V)(H:Hp)(Q:VK)(E:XK):Z3
 |m (k:nt) (A:SAd) (wd:Z5) (C0 C1:mu (mu Z4)) (c:Z4)(_:vs=[.ref k,.int (wd:Z4),.int ((C0.length:Z4)-1),.int c])(_:DkS CK CS CD C CW CG H k A wd C0 C1 [] (λ_ _=>Z0))(_:∀i,A.n i=0)(_:2≤C0.length)(_:C0.length≤50)(_:∀H',Q (.bl Z1) H')
inductive sE(K:Frag)(vs:mu V)(H:Hp)(Q:VK)(E:XK):Z3
 |m (a:nt) (ns:mu Z4)(_:vs=[.ref a])(_:X0 K H a (ns.map Z8))(_:ns.length≤63)(_:∀H',Q (.bl Z1) H')
def abN{as:mu At}(h:fz as):(dn as).length≤(as.map fun|.c s=>s.length|.n _=>20).sum:=by
 rw[←mQ,nG];unfold flA
 induction as with
 |nil=>simp
 |cons a as f=>
  let:=f λk b=>h k<|amj _ b
  rw[List.flatMap_cons,amK,amR,List.sum_cons];refine Nat.add_le_add ?_ this;cases a with
  |c s=>exact aqp<|mQ s
  |n k=>have:=h k o7;rw[mQ];exact pI this.1 this.2
def gI{as:mu At}(h:fz as)(e:Nat.ble ((as.map fun|.c s=>s.length|.n _=>20).sum) 400=Z1):(dn as).length≤400:=amo (abN h)<|Nat.le_of_ble_eq_true e
def sP(wd n:Z5)(H:Hp)(v:V):Z3:=∃t d as due,v=.ref t/\H t=some (.tup [.str<|dn as,.ref d])/\H d=some (.tup due)/\bI wd n as due
def sP.same{wd n:Z5}{H H':Hp}{v:V}(h:sP wd n H v)(s:ao H H'):sP wd n H' v:=let ⟨t,d,as,due,h1,h2,h3,h4⟩:=h;{t,d,as,due,h1,s _ _ h2,s _ _ h3,h4}
def Cp{wd n:Z5}{H:Hp}{d t:nt}{as:mu At}{due:mu V}(b:bI wd n as due)(hd:H d=Z0)(a:Z9 H d (.tup due) t=Z0):sP wd n (Z9 (Z9 H d (.tup due)) t (.tup [.str (dn as),.ref d])) (.ref t)/\ao H (Z9 (Z9 H d (.tup due)) t (.tup [.str (dn as),.ref d])):=by let s2:=ao.new a (o:=.tup [.str<|dn as,.ref d]);exact{{t,d,as,due,J,aj,s2 _ _ aj,b},(ao.new hd).trans s2}
def iC{wd n:Z5}{H:Hp}{d t:nt}{as:mu At}{due:mu V}{T:Hp->Z3}(b:bI wd n as due)(hd:H d=Z0)(a:Z9 H d (.tup due) t=Z0)(h:∀G,sP wd n G (.ref t)->ao H G->T G):T (Z9 (Z9 H d (.tup due)) t (.tup [.str (dn as),.ref d])):=h _ (Cp b hd a).1 (Cp b hd a).2
def eT{H:Hp}{d t:nt}{as:mu At}{due:mu V}{T:Hp->Z3}(b:∀wd n,bI wd n as due)(hd:H d=Z0)(a:Z9 H d (.tup due) t=Z0)(h:∀G,(∀wd n,sP wd n G (.ref t))->ao H G->T G):T (Z9 (Z9 H d (.tup due)) t (.tup [.str (dn as),.ref d])):=h _ (λwd n=>(Cp (b wd n) hd a).1) (Cp (b 0 0) hd a).2
def bI.of{wd n:Z5}{as:mu At}{due:mu V}(hd:Z6)(td:Told)(g:fz as)(r:cj wd n hd td=some due)(f:few td)(e:Nat.ble ((as.map fun|.c s=>s.length|.n _=>20).sum) 400=Z1:=by kernel_rfl)(q:rd as=some (hd,td):=by kernel_rfl)(k:KnR hd:=by simp[KnR]):bI wd n as due:={g,gI g e,hd,td,q,k,r,f}
def atD(as:mu At)(k:Z5):Z6:=match as[k]? with|some x=>x.d|none=>""
def bI.lc{wd n:Z5}{as:mu At}{due:mu V}(R:bI wd n as due)(k:Z5):(dn (as.take k)).length +(atD as k).length≤Z7:=by
 let h:=R.ln;let hs:400≤Z7:=by decide
 rw[←mQ,nG] at h;rw[←mQ (dn _),nG];unfold atD;cases e:as[k]? with
 |none=>rw[anj<|List.getElem?_eq_none_iff.mp e];show _+0≤_;omega
 |some x=>
  let⟨b,rfl⟩:=amc.mp e;let a:flA as=flA (as.take k)++flA (as.drop k):=by rw[←rX,aoI]
  let f:flA (as.drop k)=flA [as[k]]++flA (as.drop (k+1)):=by rw[←rX,apo b];rfl
  let c:(flA [as[k]]).length=as[k].d.length:=by simp[flA];rfl
  rw[a,amK,f,amK,c] at h;show _+as[k].d.length≤_;omega
structure mZ(wd n:Z5)(far great lone:Z4):Z3 where
 h1:1≤wd
 hf:(wd:Z4)≤far
 hf2:far<2000000
 hg:18446744073709551616≤great
 hg2:great<20000000000000000000
 hn:n≤6
 hl:0≤lone/\lone<100
structure ShH(no lone:Z4):Z3 where
 hn:3≤no
 hn2:no<1100000000000000000
 hl:0≤lone/\lone<1000000000000000000
section
variable{wd n:Z5}{far great lone no:Z4}
def ae6(F:mZ wd n far great lone):bI wd n [.c "day 0=1 ",.n far,.c "=1"] [.str "place",.int far]:=by
 let⟨h1,i,f,l,h,m,j⟩:=F;let a:dj wd (0,1)=Z0:=by unfold dj;rw[al8 o5,al8 o5]
 let b:dj wd (far,1)=some (Z1,far):=by unfold dj;rw[ama o5]
 exact bI.of "day" (.chs [(0,1),(far,1)]) (λk g=>by simp at g <;> omega) (by simp[cj,cy,a,b]) (by first|trivial|(simp[few] <;> omega))
def aew(F:mZ wd n far great lone):bI wd n [.c "day 0=",.n great] [.str "block",.int great]:=by
 let⟨h1,h,b,j,g,l,i⟩:=F;let a:dj wd (0,great)=some (Z2,great):=by unfold dj;rw[al8 o5,ama o5]
 exact bI.of "day" (.chs [(0,great)]) (λk f=>by simp at f <;> omega) (by simp[cj,cy,a]) (by first|trivial|(simp[few] <;> omega))
def afP(F:mZ wd n far great lone):bI wd n [.c "day 0=1 ",.n far,.c "=",.n great,.c " 0=",.n great] [.str "place",.int far]:=by
 let⟨h1,i,f,l,h,m,j⟩:=F;let a:dj wd (0,1)=Z0:=by unfold dj;rw[al8 o5,al8 o5]
 let b:dj wd (far,great)=some (Z1,far):=by unfold dj;rw[ama o5]
 exact bI.of "day" (.chs [(0,1),(far,great),(0,great)]) (λk g=>by simp at g <;> omega) (by simp[cj,cy,a,b]) (by first|trivial|(simp[few] <;> omega))
def abS(F:mZ wd n far great lone):bI wd n [.c "day 0=",.n great,.c " ",.n far,.c "=1"] [.str "block",.int great]:=by
 let⟨h1,h,b,j,g,l,i⟩:=F;let a:dj wd (0,great)=some (Z2,great):=by unfold dj;rw[al8 o5,ama o5]
 exact bI.of "day" (.chs [(0,great),(far,1)]) (λk f=>by simp at f <;> omega) (by simp[cj,cy,a]) (by first|trivial|(simp[few] <;> omega))
def abG(F:mZ wd n far great lone):bI wd n [.c "keep since"] [.str "base",.non,.int ↥n]:=by let⟨h1,g,a,i,f,j,h⟩:=F;exact bI.of "keep" (.wrd "since") (λk b=>by simp at b <;> omega) (by unfold cj;dsimp only;rw[al8 d7]) (by first|trivial|(simp[few] <;> omega))
def acR(F:mZ wd n far great lone):bI wd n [.c "keep last"] [.str "base",.non,.int ↥n]:=by let⟨h1,g,a,i,f,j,h⟩:=F;exact bI.of "keep" (.wrd "last") (λk b=>by simp at b <;> omega) (by unfold cj;dsimp only;rw[al8 d7]) (by first|trivial|(simp[few] <;> omega))
def Wv(F:mZ wd n far great lone):bI wd n [.c "seal ",.n lone] [.str "day",.int lone]:=by let⟨h1,g,a,i,f,j,h⟩:=F;exact bI.of "seal" (.nums [lone]) (λk b=>by simp at b <;> omega) (by unfold cj;dsimp only;rw[ama rfl];rfl) (by first|trivial|(simp[few] <;> omega))
def adp(F:mZ wd n far great lone):bI wd n [.c "plan 0",.c " 1 1 1 1 0 1 0 1 0 1 0 1"] [.str "plan",.int 8]:=by let⟨h1,g,a,i,f,j,h⟩:=F;exact bI.of "plan" (.nums [0,1,1,1,1,0,1,0,1,0,1,0,1]) (λk b=>by simp at b <;> omega) (by unfold cj;dsimp only;repeat (first|rw[al8 d7]|rw[ama rfl]);first|done|rw[ama o7] <;> rfl|rfl) (by first|trivial|(simp[few] <;> omega))
def agM(F:mZ wd n far great lone):bI wd n [.c "plan ",.n far,.c " 1 1 1 1 0 1 0 1 0 1 0 1"] [.str "plan",.int 8]:=by let⟨h1,g,a,i,f,j,h⟩:=F;exact bI.of "plan" (.nums [far,1,1,1,1,0,1,0,1,0,1,0,1]) (λk b=>by simp at b <;> omega) (by unfold cj;dsimp only;repeat (first|rw[al8 d7]|rw[ama rfl]);first|done|rw[ama o7] <;> rfl|rfl) (by first|trivial|(simp[few] <;> omega))
def Xi(F:mZ wd n far great lone):bI wd n [.c "plan ",.n ↥n,.c " 1 1 1 1 0 0 1"] [.str "day",.int (↥n+1)]:=by let⟨h1,g,a,i,f,j,h⟩:=F;exact bI.of "plan" (.nums [↥n,1,1,1,1,0,0,1]) (λk b=>by simp at b <;> omega) (by(have e:cj wd n "plan" (.nums [↥n,1,1,1,1,0,0,1]) =(if ↥n +(8-5)≤↥n+1 then Z0 else some [.str "day",.int (max ↥n (↥n+1))]):=(by kernel_rfl));rw[e,al8 o5,show(max ↥n<|↥n+1) =(↥n+1) by omega]) (by first|trivial|(simp[few] <;> omega))
def Va(F:mZ wd n far great lone):bI wd n [.c "plan ",.n ↥n,.c " 1 1 1 1 0 0 1 0 0 0 2"] [.str "day",.int (↥n+1)]:=by let⟨h1,g,a,i,f,j,h⟩:=F;exact bI.of "plan" (.nums [↥n,1,1,1,1,0,0,1,0,0,0,2]) (λk b=>by simp at b <;> omega) (by(have e:cj wd n "plan" (.nums [↥n,1,1,1,1,0,0,1,0,0,0,2]) =(if ↥n +(12-5)≤↥n+1 then Z0 else some [.str "day",.int (max ↥n (↥n+1))]):=(by kernel_rfl));rw[e,al8 o5,show(max ↥n<|↥n+1) =(↥n+1) by omega]) (by first|trivial|(simp[few] <;> omega))
def UN(F:mZ wd n far great lone):bI wd n [.c "plan ",.n great,.c " 1 1 1 1 0 0"] [.str "day",.int great]:=by let⟨h1,g,a,i,f,j,h⟩:=F;exact bI.of "plan" (.nums [great,1,1,1,1,0,0]) (λk b=>by simp at b <;> omega) (by(have e:cj wd n "plan" (.nums [great,1,1,1,1,0,0]) =(if great +(7-5)≤↥n+1 then Z0 else some [.str "day",.int (max great (↥n+1))]):=(by kernel_rfl));rw[e,al8 o5,show(max great<|↥n+1)=great by omega]) (by first|trivial|(simp[few] <;> omega))
def ag0(F:ShH no lone):bI wd n [.c "carry ",.n no,.c " 1"] [.str "shelf",.int no]:=by
 let⟨g,b,f⟩:=F;let e:cj wd n "carry" (.nums [no,1]) =(fb (([no,1]:mu Z4).take 1)).map λx=>[.str "shelf",.int x]:=by kernel_rfl
 exact bI.of "carry" (.nums [no,1]) (λk a=>by simp at a <;> omega) (by rw[e];simp[fb,List.find?,show ¬no<3 by omega]) (by first|trivial|(simp[few] <;> omega))
def adM(F:ShH no lone):bI wd n [.c "heal ",.n no,.c " 1"] [.str "shelf",.int no]:=by
 let⟨g,b,f⟩:=F;let e:cj wd n "heal" (.nums [no,1]) =(fb (([no,1]:mu Z4))).map λx=>[.str "shelf",.int x]:=by kernel_rfl
 exact bI.of "heal" (.nums [no,1]) (λk a=>by simp at a <;> omega) (by rw[e];simp[fb,List.find?,show ¬no<3 by omega]) (by first|trivial|(simp[few] <;> omega))
def aby(F:ShH no lone):bI wd n [.c "heal 1 ",.n no] [.str "shelf",.int no]:=by
 let⟨g,b,f⟩:=F;let e:cj wd n "heal" (.nums [1,no]) =(fb (([1,no]:mu Z4))).map λx=>[.str "shelf",.int x]:=by kernel_rfl
 exact bI.of "heal" (.nums [1,no]) (λk a=>by simp at a <;> omega) (by rw[e];simp[fb,List.find?,show ¬no<3 by omega]) (by first|trivial|(simp[few] <;> omega))
def agi(F:ShH no lone):bI wd n [.c "heal ",.n no,.c " ",.n (no+1)] [.str "shelf",.int no]:=by
 let⟨g,b,f⟩:=F;let e:cj wd n "heal" (.nums [no,no+1]) =(fb (([no,no+1]:mu Z4))).map λx=>[.str "shelf",.int x]:=by kernel_rfl
 exact bI.of "heal" (.nums [no,no+1]) (λk a=>by simp at a <;> omega) (by rw[e];simp[fb,List.find?,show ¬no<3 by omega]) (by first|trivial|(simp[few] <;> omega))
def afK(F:ShH no lone):bI wd n [.c "reach ",.n no] [.str "shelf",.int no]:=by
 let⟨g,b,f⟩:=F;let e:cj wd n "reach" (.nums [no]) =(fb (([no]:mu Z4).take 1)).map λx=>[.str "shelf",.int x]:=by kernel_rfl
 exact bI.of "reach" (.nums [no]) (λk a=>by simp at a <;> omega) (by rw[e];simp[fb,List.find?,show ¬no<3 by omega]) (by first|trivial|(simp[few] <;> omega))
def W4(F:ShH no lone):bI wd n [.c "lies ",.n no] [.str "shelf",.int no]:=by
 let⟨g,b,f⟩:=F;let e:cj wd n "lies" (.nums [no]) =(fb (([no]:mu Z4).take 1)).map λx=>[.str "shelf",.int x]:=by kernel_rfl
 exact bI.of "lies" (.nums [no]) (λk a=>by simp at a <;> omega) (by rw[e];simp[fb,List.find?,show ¬no<3 by omega]) (by first|trivial|(simp[few] <;> omega))
def V5(F:ShH no lone):bI wd n [.c "line ",.n no,.c " ",.n lone] [.str "shelf",.int no]:=by
 let⟨g,b,f⟩:=F;let e:cj wd n "line" (.nums [no,lone])=some (match fb ((([no,lone]):mu Z4).take 1) with|some x=>[.str "shelf",.int x]|none=>[.str "piece",.int lone]):=by kernel_rfl
 exact bI.of "line" (.nums [no,lone]) (λk a=>by simp at a <;> omega) (by rw[e];simp[fb,List.find?,show ¬no<3 by omega]) (by first|trivial|(simp[few] <;> omega))
def adV(F:ShH no lone):bI wd n [.c "harm ",.n no,.c " ",.n lone,.c " 0 0"] [.str "shelf",.int no]:=by
 let⟨g,b,f⟩:=F;let e:cj wd n "harm" (.nums [no,lone,0,0])=some (match fb ((([no,lone,0,0]):mu Z4).take 1) with|some x=>[.str "shelf",.int x]|none=>[.str "piece",.int lone]):=by kernel_rfl
 exact bI.of "harm" (.nums [no,lone,0,0]) (λk a=>by simp at a <;> omega) (by rw[e];simp[fb,List.find?,show ¬no<3 by omega]) (by first|trivial|(simp[few] <;> omega))
def adE(F:ShH no lone):bI wd n [.c "fetch 0 ",.n no] [.str "shelf",.int no]:=by
 let⟨g,b,f⟩:=F;let e:cj wd n "fetch" (.nums [0,no]) =(fb (([0,no]:mu Z4).tail)).map λx=>[.str "shelf",.int x]:=by kernel_rfl
 exact bI.of "fetch" (.nums [0,no]) (λk a=>by simp at a <;> omega) (by rw[e];simp[fb,List.find?,show ¬no<3 by omega]) (by first|trivial|(simp[few] <;> omega))
def Wu(F:ShH no lone):bI wd n [.c "fetch ",.n lone,.c " 1 ",.n no,.c " 0 ",.n (no+1)] [.str "shelf",.int no]:=by
 let⟨g,b,f⟩:=F;let e:cj wd n "fetch" (.nums [lone,1,no,0,no+1]) =(fb (([lone,1,no,0,no+1]:mu Z4).tail)).map λx=>[.str "shelf",.int x]:=by kernel_rfl
 exact bI.of "fetch" (.nums [lone,1,no,0,no+1]) (λk a=>by simp at a <;> omega) (by rw[e];simp[fb,List.find?,show ¬no<3 by omega]) (by first|trivial|(simp[few] <;> omega))
def Vi(F:ShH no lone):bI wd n [.c "price 0 2 ",.n no] [.str "shelf",.int no]:=by
 let⟨g,b,f⟩:=F;let e:cj wd n "price" (.nums [0,2,no]) =(fb (([0,2,no]:mu Z4).tail)).map λx=>[.str "shelf",.int x]:=by kernel_rfl
 exact bI.of "price" (.nums [0,2,no]) (λk a=>by simp at a <;> omega) (by rw[e];simp[fb,List.find?,show ¬no<3 by omega]) (by first|trivial|(simp[few] <;> omega))
def Vf(F:ShH no lone):bI wd n [.c "way 0 ",.n no,.c " 0"] [.str "shelf",.int no]:=by
 let⟨g,b,f⟩:=F;let e:cj wd n "way" (.nums [0,no,0]) =(fb (([0,no,0]:mu Z4).tail)).map λx=>[.str "shelf",.int x]:=by kernel_rfl
 exact bI.of "way" (.nums [0,no,0]) (λk a=>by simp at a <;> omega) (by rw[e];simp[fb,List.find?,show ¬no<3 by omega]) (by first|trivial|(simp[few] <;> omega))
def Vo(F:ShH no lone):bI wd n [.c "line 1 ",.n lone] [.str "piece",.int lone]:=by
 let⟨g,b,f⟩:=F;let e:cj wd n "line" (.nums [1,lone])=some (match fb ((([1,lone]):mu Z4).take 1) with|some x=>[.str "shelf",.int x]|none=>[.str "piece",.int lone]):=by kernel_rfl
 exact bI.of "line" (.nums [1,lone]) (λk a=>by simp at a <;> omega) (by rw[e];simp[fb,List.find?,show ¬no<3 by omega]) (by first|trivial|(simp[few] <;> omega))
def Vw(F:ShH no lone):bI wd n [.c "harm 0 ",.n lone,.c " 99 0"] [.str "piece",.int lone]:=by
 let⟨g,b,f⟩:=F;let e:cj wd n "harm" (.nums [0,lone,99,0])=some (match fb ((([0,lone,99,0]):mu Z4).take 1) with|some x=>[.str "shelf",.int x]|none=>[.str "piece",.int lone]):=by kernel_rfl
 exact bI.of "harm" (.nums [0,lone,99,0]) (λk a=>by simp at a <;> omega) (by rw[e];simp[fb,List.find?,show ¬no<3 by omega]) (by first|trivial|(simp[few] <;> omega))
def Vb(F:ShH no lone):bI wd n [.c "harm 2 ",.n lone,.c " 0 5"] [.str "piece",.int lone]:=by
 let⟨g,b,f⟩:=F;let e:cj wd n "harm" (.nums [2,lone,0,5])=some (match fb ((([2,lone,0,5]):mu Z4).take 1) with|some x=>[.str "shelf",.int x]|none=>[.str "piece",.int lone]):=by kernel_rfl
 exact bI.of "harm" (.nums [2,lone,0,5]) (λk a=>by simp at a <;> omega) (by rw[e];simp[fb,List.find?,show ¬no<3 by omega]) (by first|trivial|(simp[few] <;> omega))
end
def vB(a:mu At)(x:At)(h:fz (a++[x]))(e:Nat.ble (((a++[x]).map fun|.c s=>s.length|.n _=>20).sum) 400=Z1):(dn a).length+x.d.length≤Z7:=by
 let:=gI h e;rw[←mQ,nG,rX,amK,←nG,mQ] at this;let b:(flA [x]).length=x.d.length:=by simp[flA];rfl
 rw[b] at this;exact amo this o6
section
variable{CS CD C CW CG CP CB CBs CDy CN CPc CPl CK:nt}
def vq:bK CS CD C CW CG CP CB CBs CDy CN CPc CPl "day" = m5 CS CD C CW CG CP CB:=by unfold bK;repeat (first|rw[ama rfl]|rw[al8 d7])
def sH:bK CS CD C CW CG CP CB CBs CDy CN CPc CPl "keep" = kI CS CD C CW CG CBs:=by unfold bK;repeat (first|rw[ama rfl]|rw[al8 d7])
def zu:bK CS CD C CW CG CP CB CBs CDy CN CPc CPl "seal" = kJ CS CD C CW CG CDy:=by unfold bK;repeat (first|rw[ama rfl]|rw[al8 d7])
def xG:bK CS CD C CW CG CP CB CBs CDy CN CPc CPl "carry" = jh CS CD C CW CG CN:=by unfold bK;repeat (first|rw[ama rfl]|rw[al8 d7])
def oS:bK CS CD C CW CG CP CB CBs CDy CN CPc CPl "harm" = kO CS CD C CW CG CN CPc CP:=by unfold bK;repeat (first|rw[ama rfl]|rw[al8 d7])
def IK:bK CS CD C CW CG CP CB CBs CDy CN CPc CPl "heal" = kK CS CN:=by unfold bK;repeat (first|rw[ama rfl]|rw[al8 d7])
def xN:bK CS CD C CW CG CP CB CBs CDy CN CPc CPl "marks" = ie CS CD C CW CG:=by unfold bK;repeat (first|rw[ama rfl]|rw[al8 d7])
def Hr:bK CS CD C CW CG CP CB CBs CDy CN CPc CPl "lies" = kQ CS CN:=by unfold bK;repeat (first|rw[ama rfl]|rw[al8 d7])
def zg:bK CS CD C CW CG CP CB CBs CDy CN CPc CPl "line" = kF CS CD C CW CG CN CPc:=by unfold bK;repeat (first|rw[ama rfl]|rw[al8 d7])
def xP:bK CS CD C CW CG CP CB CBs CDy CN CPc CPl "reach" = jg CS CD C CW CG CN:=by unfold bK;repeat (first|rw[ama rfl]|rw[al8 d7])
def Fw:bK CS CD C CW CG CP CB CBs CDy CN CPc CPl "fetch" = dg CS CN:=by unfold bK;repeat (first|rw[ama rfl]|rw[al8 d7])
def FI:bK CS CD C CW CG CP CB CBs CDy CN CPc CPl "price" = dg CS CN:=by unfold bK;repeat (first|rw[ama rfl]|rw[al8 d7])
def Jy:bK CS CD C CW CG CP CB CBs CDy CN CPc CPl "way" = dg CS CN:=by unfold bK;repeat (first|rw[ama rfl]|rw[al8 d7])
def IB:bK CS CD C CW CG CP CB CBs CDy CN CPc CPl "plan" = kL CS CD CPl CDy:=by unfold bK;repeat (first|rw[ama rfl]|rw[al8 d7])
def US{v:V}{S:Z4->Z3}(h:ig S v)(a:∀x,¬S x):v=.non:=by
 rcases h with⟨e,_⟩|⟨m,_,b,_⟩
 .exact e
 .exact absurd b (a m)
def Dy{g:Bool}{x:Z4}(h:Rch (lG (λ_=>Z0)) g x):x = -1:=by
 let⟨k,b⟩:=h;cases b with
 |zero=>rfl
 |step a _ _=>let⟨u,e,_⟩:=HH a;cases e
def ja{hd:Z6}{ws:mu Z6}{ns:mu Z4}(h:Ro hd ws ns){lo:Z5}{hi:o9 Z5}(e:jL.lookup hd=some (lo,hi)):lo≤ns.length/\∀m,hi=some m->ns.length≤m:=by
 let⟨f,b,a⟩:=h.fm;let:=zw b e;subst this;let c:ns.length=ws.length:=by rw[h.en];simp
 simp only[iW,Bool.and_eq_true,decide_eq_true_eq] at a;refine{o5,λm e=>?_};subst e;let:=ani a.2;omega
def Er{i s:Z4}(h:fb [i]=some s):i=s/\¬(0≤i/\i<3):=by
 unfold fb at h;rw[apM] at h;split at h
 .rename_i e;cases h;simp at e;exact⟨J,o5⟩
 .cases h
def Gr{i:Z4}(h:0≤i/\i<3):fb [i]=Z0:=by simp[fb,h.1,h.2]
def Le{i:Z4}(h:¬(0≤i/\i<3)):fb [i]=some i:=by
 let hd:(!(decide (0≤i)&&decide (i<3)))=Z1:=by simp;omega
 simp only[fb,List.find?_cons,hd]
def Km{z:Z6}(h:okW z=Z1):0≤intOf z:=by simp only[okW,Bool.and_eq_true,decide_eq_true_eq] at h;let h1:=h.1.1.1;let e:=apZ (x:=z) (λc a=>zb<|amZ.mp h.2 c a) (by intro e;unfold Str.length at h1;rw[←am5,e] at h1;simp at h1) o5;unfold intOf;rw[e];exact Int.natCast_nonneg _
def AB{xs:mu Z4}{s:Z4}(h:fb xs=some s):Jp xs s:=by unfold fb at h;let⟨h1,as,bs,rfl,h2⟩:=List.find?_eq_some_iff_append.mp h;refine{by simp at h1;omega,as.length,o7,λj x b a=>?_};rw[ams b] at a;let:=h2 x<|aml a;simp at this;omega
end
section
variable{CS CD C CW CG CP CB CBs CDy CN CPc CPl CK:nt}{H:Hp}{k:nt}{A:SAd}{wd n:Z5}{C0 C1:mu (mu Z4)}{as:mu At}{due:mu V}{Q:VK}{E:XK}
def ahl(h:DkS CK CS CD C CW CG H k A wd C0 C1 [] (λ_ _=>Z0))(hn:∀i,A.n i=0)(ht:C0.length=n+1)(ab:n≤48)(hR:bI wd n as due)(q:∀t H',H' t=some (.tup due)->ao H H'->Q (.ref t) H'):di CK CS CD C CW CG CP CB CBs CDy CN CPc CPl [.ref k,.str (dn as)] H Q E:=by
 let⟨hd,td,a4,hK,f,S⟩:=hR.rf;let a2:=Cw hR.gd a4;refine{k,A.p,dn as,hd,td,J,h.dk,hR.ln,a2,hK,λl H1 Q' E' U nl s1 hq hE=>?_};let⟨ws,ac,hW⟩:=a2;let g:=h.st.same s1;let⟨dx,h1⟩:=id g.st;let O:∀(c:nF)(e:nt)(H2:Hp),ya CP CB CBs CDy CN CPc CPl c (some e) H2 due->ao H1 H2->E' c (some e) H2:=λc e H2 hr s2=>hE c (some e) H2 due hr λt ht=>q t _ aj<|s1.trans<|s2.trans<|ao.new ht
 let nft:l∉A.ft:=λhm=>by let⟨o,e⟩:=h.st.here l<|amm _ hm;rw[nl] at e;cases e
 cases td with
 |chs cs=>
  let⟨rfl,_⟩:=hW;rw[vq];refine{A,wd,C0,C1,[],_,l,cs,J,g,U,S,o5,nft,λhb=>?_,λx hb e H2 he s2=>?_,λx hb e H2 he s2=>?_}
  .simp[cj,hb] at f
  .simp[cj,hb] at f;subst f;exact O _ e H2 {e,J,.inl {J,_,he,J}} s2
  .simp[cj,hb] at f;subst f;exact O _ e H2 {e,J,.inr<|.inl {J,_,he,J}} s2
 |wrd w=>
  let⟨rfl,_,hw⟩:=hW;rw[sH];let Y:(if w = "whole" then Z0 else some [V.str "base",V.non,V.int ↥n])=some due:=f;by_cases a1:w = "whole"
  .rw[ama a1] at Y;cases Y
  rw[al8 a1] at Y;cases Y;let a6:wK w:=by
   simp only[Cv,List.mem_cons,List.not_mem_nil,or_false] at hw;rcases hw with e|e|e
   .exact absurd e a1
   .exact .inl e
   .exact .inr e
  let B:∀v,ig (iQ (λ_=>Z0) w) v->v=.non:=λv hv=>US hv λx hx=>by
   unfold iQ at hx;split at hx
   .let⟨_,_,e,_⟩:=hx;cases e
   .exact hx.2 (Dy hx.1)
  refine{A,wd,C0,C1,[],_,l,w,J,U,.inr {a6,λv hv=>.inl<|B v hv},g,hn 0,o7,λe=>absurd e a1,λv e H2 _ hv he s2=>?_};rw[B v hv,show↥C0.length-1 =↥n by omega] at he;exact O _ e H2 {e,J,.inr<|.inr<|.inl {J,_,_,he,J}} s2
 |nums ns=>
  let⟨a8,a7,hN⟩:=hW;let a0:∀ x∈ns,0≤x:=λx hx=>by rw[hN.en] at hx;let⟨w,hw,rfl⟩:=amS.mp hx;exact Km<|hN.ok w hw
  let S:ns.length≤100/\∀ x∈ns.head?,(0≤x/\x<2 ^ 60)∨2 ^ 63≤x:=S;let U:H1 l=some (.lst (ns.map Z8)):=U;let L:∀x:Z4,due=[V.str "shelf",V.int x]->iJ CN H1 E' x:=λx e _ ex H2 he s2=>O _ ex H2 {ex,J,.inr<|.inr<|.inr<|.inr<|.inl {J,_,he,e}} s2
  rcases hK with rfl|rfl|rfl|rfl|rfl|rfl|rfl|rfl|rfl|rfl|rfl|rfl|rfl|rfl
  .exact absurd J a8
  .exact absurd J a7
  .rw[zu];obtain⟨x,rfl⟩:∃x,ns=[x]:=by
    let:=ja hN (lo:=1) (hi:=some 1) d7
    match ns,this.1,this.2 1 rfl with
    |[x],_,_=>exact⟨x,J⟩
   let F:cj wd n "seal" (.nums [x])=some [.str "day",.int x]:=by kernel_rfl
   rw[F] at f;cases f;let⟨kv,a5,a3⟩:=h.se;exact{A,wd,C0,C1,[],_,l,x,kv,J,U,g,s1 _ _ a5,a3,λhr=>absurd (Dy hr.1) hr.2,λ_ e H2 he s2=>O _ e H2 {e,J,.inr<|.inr<|.inr<|.inl {J,_,he,J}} s2}
  .rw[xG];obtain⟨i,m,rfl⟩:∃i m,ns=[i,m]:=by
    let:=ja hN (lo:=2) (hi:=some 2) d7
    match ns,this.1,this.2 2 rfl with
    |[i,m],_,_=>exact⟨i,m,J⟩
   let F:cj wd n "carry" (.nums [i,m]) =(fb [i]).map λx=>[.str "shelf",.int x]:=by kernel_rfl
   rw[F] at f;let⟨s,hs,rfl⟩:=ami.mp f;let⟨es,B⟩:=Er hs;cases es;let hm:=a0 m o7;exact{A,wd,C0,C1,[],_,l,i,m.toNat,J,by rwa[show((m.toNat:Z5):Z4)=m by omega],g,amE _,λj k H2 ei hj=>absurd ⟨o5,o5⟩ B,L i J}
  .rw[oS];obtain⟨i,m,a,b,rfl⟩:∃i m a b,ns=[i,m,a,b]:=by
    let:=ja hN (lo:=4) (hi:=some 4) d7
    match ns,this.1,this.2 4 rfl with
    |[i,m,a,b],_,_=>exact⟨i,m,a,b,J⟩
   let F:cj wd n "harm" (.nums [i,m,a,b])=some (match fb [i] with|some x=>[.str "shelf",.int x]|none=>[.str "piece",.int m]):=by kernel_rfl
   rw[F] at f;let hb:=a0 b o7;refine{A,wd,C0,C1,[],_,l,i,m,a,b.toNat,J,by rwa[show((b.toNat:Z5):Z4)=b by omega],g,(λj u x _ _ e=>by cases e),?_,λj ei hj _ e H2 he s2=>?_,(λj u _ _ e=>by cases e)}
   .intro B;rw[Le B] at f;cases f;exact L i J B
   .rw[Gr (i:=i) ⟨o5,o5⟩] at f;cases f;exact O _ e H2 {e,J,.inr<|.inr<|.inr<|.inr<|.inr<|.inl {J,_,he,J}} s2
  .rw[IK];obtain⟨i,m,rfl⟩:∃i m,ns=[i,m]:=by
    let:=ja hN (lo:=2) (hi:=some 2) d7
    match ns,this.1,this.2 2 rfl with
    |[i,m],_,_=>exact⟨i,m,J⟩
   let F:cj wd n "heal" (.nums [i,m]) =(fb [i,m]).map λx=>[.str "shelf",.int x]:=by kernel_rfl
   rw[F] at f;let⟨s,hs,rfl⟩:=ami.mp f;by_cases hi:0≤i/\i<3
   .by_cases hm:0≤m/\m<3
    .simp[fb,hi.1,hi.2,hm.1,hm.2] at hs
    .let:s=m:=by simp[fb,hi.1,hi.2] at hs;exact hs.2.symm
     subst this;exact{A.p,A.q,A.sl,A.nl,A.dl,A.se,A.rl,A.sk,A.ea,_,l,i,s,J,U,⟨dx,h1⟩,g.sl,J,λz=>hm z.2,λz=>absurd hi z,λ_=>L s J}
   .let:s=i:=by
     let hd:(!(decide (0≤i)&&decide (i<3)))=Z1:=by simp;omega
     simp only[fb,List.find?_cons,hd] at hs;exact(amw hs).symm
    subst this;exact{A.p,A.q,A.sl,A.nl,A.dl,A.se,A.rl,A.sk,A.ea,_,l,s,m,J,U,⟨dx,h1⟩,g.sl,J,λz=>hi z.1,L s J,λz=>absurd z hi}
  .let F:cj wd n "marks" (.nums ns)=Z0:=by kernel_rfl
   rw[F] at f;cases f
  .rw[Hr];obtain⟨i,rfl⟩:∃i,ns=[i]:=by
    let:=ja hN (lo:=1) (hi:=some 1) d7
    match ns,this.1,this.2 1 rfl with
    |[x],_,_=>exact⟨x,J⟩
   let F:cj wd n "lies" (.nums [i]) =(fb [i]).map λx=>[.str "shelf",.int x]:=by kernel_rfl
   rw[F] at f;let⟨s,hs,rfl⟩:=ami.mp f;let⟨es,B⟩:=Er hs;cases es;exact{A.p,A.q,A.sl,A.nl,A.dl,A.se,A.rl,A.sk,A.ea,_,l,i,J,U,⟨dx,h1⟩,g.sl,J,B,L i J}
  .rw[zg];obtain⟨i,m,rfl⟩:∃i m,ns=[i,m]:=by
    let:=ja hN (lo:=2) (hi:=some 2) d7
    match ns,this.1,this.2 2 rfl with
    |[i,m],_,_=>exact⟨i,m,J⟩
   let F:cj wd n "line" (.nums [i,m])=some (match fb [i] with|some x=>[.str "shelf",.int x]|none=>[.str "piece",.int m]):=by kernel_rfl
   rw[F] at f;by_cases hi:0≤i/\i<3
   .rw[Gr hi] at f;cases f;exact{A,wd,C0,C1,[],_,l,i,m,J,U,g,λ_ _ _=>rfl,λz=>absurd hi z,λ_ e H2 he s2=>O _ e H2 {e,J,.inr<|.inr<|.inr<|.inr<|.inr<|.inl {J,_,he,J}} s2}
   .rw[Le hi] at f;cases f;exact{A,wd,C0,C1,[],_,l,i,m,J,U,g,λ_ _ _=>rfl,L i J,λz=>absurd z hi}
  .rw[xP];obtain⟨i,rfl⟩:∃i,ns=[i]:=by
    let:=ja hN (lo:=1) (hi:=some 1) d7
    match ns,this.1,this.2 1 rfl with
    |[x],_,_=>exact⟨x,J⟩
   let F:cj wd n "reach" (.nums [i]) =(fb [i]).map λx=>[.str "shelf",.int x]:=by kernel_rfl
   rw[F] at f;let⟨s,hs,rfl⟩:=ami.mp f;let⟨es,B⟩:=Er hs;cases es;exact{A,wd,C0,C1,[],_,l,i,J,U,g,λj ei hj=>absurd ⟨o5,o5⟩ B,λj ei hj=>absurd ⟨o5,o5⟩ B,L i J}
  .rw[Fw];let y:=(ja hN (lo:=1) (hi:=Z0) d7).1;cases ns with
   |nil=>simp at y
   |cons x xs=>
    let F:cj wd n "fetch" (.nums (x::xs)) =(fb xs).map λx=>[.str "shelf",.int x]:=by kernel_rfl
    rw[F] at f;let⟨s,hs,rfl⟩:=ami.mp f;exact{A.p,A.q,A.sl,A.nl,A.dl,A.se,A.rl,A.sk,A.ea,_,l,x,xs,s,J,U,by let:=S.1;simp at this;omega,⟨dx,h1⟩,g.sl,J,AB hs,L s J}
  .rw[FI];let y:=(ja hN (lo:=1) (hi:=Z0) d7).1;cases ns with
   |nil=>simp at y
   |cons x xs=>
    let F:cj wd n "price" (.nums (x::xs)) =(fb xs).map λx=>[.str "shelf",.int x]:=by kernel_rfl
    rw[F] at f;let⟨s,hs,rfl⟩:=ami.mp f;exact{A.p,A.q,A.sl,A.nl,A.dl,A.se,A.rl,A.sk,A.ea,_,l,x,xs,s,J,U,by let:=S.1;simp at this;omega,⟨dx,h1⟩,g.sl,J,AB hs,L s J}
  .rw[Jy];let y:=(ja hN (lo:=1) (hi:=Z0) d7).1;cases ns with
   |nil=>simp at y
   |cons x xs=>
    let F:cj wd n "way" (.nums (x::xs)) =(fb xs).map λx=>[.str "shelf",.int x]:=by kernel_rfl
    rw[F] at f;let⟨s,hs,rfl⟩:=ami.mp f;exact{A.p,A.q,A.sl,A.nl,A.dl,A.se,A.rl,A.sk,A.ea,_,l,x,xs,s,J,U,by let:=S.1;simp at this;omega,⟨dx,h1⟩,g.sl,J,AB hs,L s J}
  .rw[IB];let y:=(ja hN (lo:=6) (hi:=Z0) d7).1;cases ns with
   |nil=>simp at y
   |cons b r=>
    let h5:5≤r.length:=by simp at y;omega
    let h9:r.length≤99:=by let:=S.1;simp at this;omega
    let hb:(0≤b/\b<2 ^ 60)∨2 ^ 63≤b:=S.2 b rfl;let a9:=a0 b o7;let F:cj wd n "plan" (.nums (b::r)) =(if 12 <(b::r).length then some [V.str "plan",V.int (((b::r).length:Z4)-5)] else if b +(((b::r).length:Z4)-5)≤↥n+1 then Z0 else some [V.str "day",V.int (max b (↥n+1))]):=by kernel_rfl
    rw[F] at f;let hL:(((b::r).length:Z5):Z4)-5 =↥r.length-4:=by simp;omega
    rw[hL] at f;exists A.p,A.q,A.sl,A.nl,A.dl,A.se,A.ta,A.sa,A.TL,A.SL,wd,C0,C1,A.rl,A.sk,A.ea,l,b,r,J,U,h5,o5,hb,⟨dx,h1⟩,g.D;by_cases c:12 <(b::r).length
    .rw[ama c] at f;cases f;simp at c;exact .inl {o5,λe H2 he s2=>O _ e H2 {e,J,.inr<|.inr<|.inr<|.inr<|.inr<|.inr {J,_,he,J}} s2}
    .rw[al8 c] at f;simp at c;by_cases c2:b +(↥r.length-4)≤↥n+1
     .rw[ama c2] at f;cases f
     rw[al8 c2] at f;cases f;exact .inr {o5,max b<|↥n+1,o5,o5,o5,λx _ _=>by omega,λe H2 he s2=>O _ e H2 {e,J,.inr<|.inr<|.inr<|.inl {J,_,he,J}} s2}
end
def jd(u:PcU):bT:=λm=>if m=0 then some u else Z0
def nI{u:PcU}:jd u 0=some u:=ama J
def Ga{u v:PcU}{m:Z4}(h:jd u m=some v):m=0/\v=u:=by
 unfold jd at h;split at h
 .cases h;exact{by assumption,J}
 .cases h
def JR{u:PcU}:lD (λ_=>Z0) 0 (some u)=jd u:=funext λm=>by
 by_cases e:m=0
 .subst e;rw[sA,nI]
 .rw[mR e];unfold jd;rw[al8 e]
def Nv{u:PcU}:lD (jd u) 0 (some u)=jd u:=funext λm=>by
 by_cases e:m=0
 .subst e;rw[sA,nI]
 .rw[mR e]
def Ng{u:PcU}:iV [u] 0 1 (λ_=>Z0)=jd u:=funext λm=>by
 unfold iV jd;by_cases e:m=0
 .subst e;rw[ama o5,ama rfl];rfl
 .rw[al8 o5,al8 e]
def ahh{u:PcU}{i:Z5}:zV u i 0=u:=by unfold zV ir;rw[show(λr:Z5×Nat=>(r.1,r.2 ^^^ 0))=id from funext λr=>by rw[Nat.xor_zero];rfl,List.modify_id]
section
variable{C0:mu (mu Z4)}{u:PcU}
def WhU.st(h:WhU C0 u):u.st = -1:=by let⟨t,_,rfl⟩:=h;rfl
def WhU.gd(h:WhU C0 u):u.good=Z1:=by let⟨t,_,rfl⟩:=h;exact amA J
def WhU.wh_(h:WhU C0 u):u.wh=Z1:=by let⟨t,_,rfl⟩:=h;rfl
def WhU.d_(h:WhU C0 u)(h0:C0.length≠0):↥u.d =↥C0.length-1:=by let⟨t,_,rfl⟩:=h;show((C0.length-1:Z5):Z4)=_;omega
def WhU.len{wd:Z5}(h:WhU C0 u)(a:∀ t∈C0,TabOk wd t):u.rows.length=wd:=by let⟨t,b,rfl⟩:=h;show(jX t).length=wd;rw[qi,(a t<|aml b).1]
def Gb(h:WhU C0 u)(h0:C0.length≠0){g:Bool}{x:Z4}:(Rch (lG (jd u)) g x/\x≠-1)↔x =↥C0.length-1:=by
 constructor
 .rintro⟨⟨k,c⟩,b⟩;cases c with
  |zero=>exact absurd J b
  |step a _ _=>let⟨v,e,_,f,_⟩:=HH a;let⟨_,rfl⟩:=Ga e;rw[f];exact h.d_ h0
 .rintro rfl;refine{{(1),.step (n:=0) (s:=-1) (g:=Z1) ?_ (.inl J) .zero},o5};rw[Gq nI,h.st,h.gd,h.d_ h0]
def EL(h:WhU C0 u)(h0:C0.length≠0){w:Z6}{v:V}(b:ig (iQ (jd u) w) v):v=.int (↥C0.length-1):=by
 let a:∀x,iQ (jd u) w x↔x =↥C0.length-1:=λx=>by
  unfold iQ;split
  .constructor
   .rintro⟨n,v,e,_,_,rfl⟩;let⟨_,rfl⟩:=Ga e;exact h.d_ h0
   .rintro rfl;exact{(0),u,nI,h.wh_,h.gd,(h.d_ h0).symm}
  .exact Gb h h0
 rcases b with⟨_,c⟩|⟨m,rfl,f,_⟩
 .exact absurd ((a _).mpr J) (c _)
 .rw[(a m).mp f]
end
section
variable{CS CD C CW CG CP CB CBs CDy CN CPc CPl CK:nt}{H H':Hp}{k:nt}{A A':SAd}{wd:Z5}{C0 C1:mu (mu Z4)}{us us':mu PcU}{M M':Z5->bT}{F W:mu nt}{as:mu At}{due:mu V}{Q:VK}{E:XK}{hd:Z6}{td:Told}
def SAd.Di{i n':Z5}:(A.re i (A.x i) (A.d i) n').own=A.own:=by unfold SAd.own SAd.sm SAd.re;dsimp only;rw[gZ,gZ];rfl
def SAd.zY{t:nt}:(A.add t).own=A.own:=by unfold SAd.add SAd.own SAd.sm SAd.re;dsimp only;rw[gZ,gZ];rfl
def DkS.alA(h:DkS CK CS CD C CW CG H k A wd C0 C1 us M):cH H A.own:=λb a=>by
 let⟨f,c,_⟩:=h.se;rcases amq.mp a with rfl|a
 .exact .inl {_,c}
 rcases amy.mp a with a|a
 .rcases SAd.II a with a|⟨i,hi,a⟩
  .let⟨_,h1⟩:=h.st.st;simp only[List.mem_cons,List.not_mem_nil,or_false] at a;rcases a with rfl|rfl|rfl|rfl
   .exact .inr (.inr {_,_,_,h1,bN d7})
   .exact .inr (.inl {_,h.st.sl})
   .exact .inr (.inl {_,h.st.nl})
   .exact .inr (.inl {_,h.st.dl})
  .let⟨dx,X5,h1,h2⟩:=(h.st.sh i hi).at_;rcases a with rfl|rfl
   .exact .inr (.inr {_,_,_,h1,jb d7 d7})
   .exact .inl {_,h2}
 .exact cH.days h.st.D b a
def DkS.same(h:DkS CK CS CD C CW CG H k A wd C0 C1 us M)(s:ao H H'):DkS CK CS CD C CW CG H' k A wd C0 C1 us M:=by let⟨dx,h1⟩:=h.dk;let⟨a,h2,h3⟩:=h.se;exact{{dx,s _ _ h1},h.st.same s,{a,s _ _ h2,h3},h.sn,h.kn}
def gk(h:Dt CK H k A.p)(o:fz as)(n:(dn as).length≤400)(j:rd as=some (hd,td))(q:KnR hd)(p:∀l H1(g:VK)(f:XK),ef H1 l td->H l=Z0->ao H H1->(∀s H2,(∀t,H2 t=Z0->Q (.ref t) (Z9 H2 t (.tup [.str "text",.str s])))->g (.str s) H2)->(∀c e H2 due,ya CP CB CBs CDy CN CPc CPl c (some e) H2 due->(∀t,H2 t=Z0->Q (.ref t) (Z9 H2 t (.tup due)))->f c (some e) H2)->bK CS CD C CW CG CP CB CBs CDy CN CPc CPl hd [.ref A.p,.ref l] H1 g f):di CK CS CD C CW CG CP CB CBs CDy CN CPc CPl [.ref k,.str (dn as)] H Q E:=
 {k,A.p,dn as,hd,td,J,h,n,Cw o j,q,λl H1 g f a b c d e=>p l H1 g f a b c (λs H2 i=>d _ _ ⟨s,J,i⟩) λc r H2 due m i=>e c _ H2 due m i}
structure Bh(CK CS CD C CW CG:nt)(H:Hp)(k:nt)(W:mu nt)(wd:Z5)(C0 C1:mu (mu Z4))(i:Z5)(A:SAd)(u:PcU)(M:Z5->bT):Z3 where
 dk:Dt CK H k A.p
 st:StC CS CD C CW CG H A wd C0 C1 [u] M
 ow:A.own=W
 sn:A.se∉A.sm++A.ft
 kn:k∉A.own
 se:i≤3->∃kv,H A.se=some (.dK kv)/\kv.length≤100
 wh:WhU C0 u
 m0:M 0=jd u
 n0:A.n 0=1
 m1:M 1=if i≤6 then λ_=>Z0 else jd u
 n1:A.n 1=if i≤6 then 0 else 1
 n2:A.n 2=0
def BhE(CK CS CD C CW CG:nt)(H:Hp)(k:nt)(W:mu nt)(wd:Z5)(C0 C1:mu (mu Z4))(i:Z5):Z3:=∃A u M,Bh CK CS CD C CW CG H k W wd C0 C1 i A u M
def Bh.mv{u:PcU}{i j:Z5}(h:Bh CK CS CD C CW CG H k W wd C0 C1 i A u M)(s:ao H H')(b:i≤j)(h6:i≤6->j≤6):Bh CK CS CD C CW CG H' k W wd C0 C1 j A u M:=by
 let⟨dx,h1⟩:=h.dk;let e:(i≤6) =(j≤6):=propext {h6,λ_=>by omega};refine{{dx,s _ _ h1},h.st.same s,h.ow,h.sn,h.kn,λh3=>?_,h.wh,h.m0,h.n0,?_,?_,h.n2}
 .let⟨a,h2,h3⟩:=h.se o5;exact{a,s _ _ h2,h3}
 .rw[h.m1];simp only[e]
 .rw[h.n1];simp only[e]
def aiQ(h:DkS CK CS CD C CW CG H k A wd C0 C1 [] (λ_ _=>Z0))(g:∀i,A.n i=0)(m:A.own=W)(q:∀t H',H' t=some (.tup [.str "text",.str "0"])->BhE CK CS CD C CW CG H' k W wd C0 C1 (0+1)->bg W H H'->Q (.ref t) H'):di CK CS CD C CW CG CP CB CBs CDy CN CPc CPl [.ref k,.str (dn [.c "keep whole"])] H Q E:=by
 refine gk (hd:="keep") (td:=.wrd "whole") h.dk (λk j=>by simp at j) (gI (λk j=>by simp at j) (by kernel_rfl)) (by kernel_rfl) (by simp[KnR]) λl H1 Q' Y L nl s1 O hE=>?_
 let r:=h.st.same s1;rw[sH];refine{A,wd,C0,C1,[],_,l,"whole",J,L,.inl J,r,g 0,o7,λ_ B u H2 F p s=>?_,λv e H2 a _ _ _=>absurd a (by unfold wK;decide +kernel)};rw[show bY ((([]:mu PcU).length:Z5):Z4) =("0":Str) by decide +kernel];refine O _ _ λt U=>?_
 let s2:ao H2 _:=ao.new U (o:=.tup [.str "text",.str "0"]);let y:∀ b∈[A.nl,A.dl,A.x 0,A.d 0],b∈A.sm:=λb a=>by simp only[List.mem_cons,List.not_mem_nil,or_false] at a;rcases a with rfl|rfl|rfl|rfl <;> simp[SAd.sm]
 let f:∀ b∈[A.nl,A.dl,A.x 0,A.d 0],b∈W:=λb a=>by rw[←m];exact amj _<|amY _<|y b a
 let⟨dx,h1⟩:=h.dk;let⟨S,h2,h3⟩:=h.se;refine q t _ aj {A.add B,u,_,{dx,s2 _ _ (s _ _ (s1 _ _ h1) λz=>h.kn (by rw[m];exact f _ z))},p.same s2,by rwa[SAd.zY],?_,by rw[SAd.zY];exact h.kn,λ_=>{S,s2 _ _ (s _ _ (s1 _ _ h2) λz=>h.sn<|amY _<|y _ z),h3},F,?_,?_,?_,?_,?_} λb o e a=>s2 _ _ (s _ _ (s1 _ _ e) λz=>a<|f _ z)
 .let:=(List.cons.inj<|(SAd.zY (A:=A) (t:=B))).2;rw[this];exact h.sn
 .exact dF.trans JR
 .show fset A.n 0 (A.n 0+1) 0=1;rw[dF,g 0]
 .exact cN o6
 .show fset A.n 0 (A.n 0+1) 1=0;rw[cN o6,g 1]
 .show fset A.n 0 (A.n 0+1) 2=0;rw[cN o6,g 2]
variable{u:PcU}{i:Z5}
def El(h:Bh CK CS CD C CW CG H k W wd C0 C1 i A u M)(hi:i<3){w:Z6}(x:wK w)(f:w≠"whole")(s:fz as)(g:(dn as).length≤400)(j:rd as=some (("keep":Str),Told.wrd w))(q:∀t H',H' t=some (.tup [.str "base",.int (↥C0.length-1),.int (↥C0.length-1)])->BhE CK CS CD C CW CG H' k W wd C0 C1 (i+1)->bg W H H'->Q (.ref t) H'):di CK CS CD C CW CG CP CB CBs CDy CN CPc CPl [.ref k,.str (dn as)] H Q E:=by
 refine gk (hd:="keep") h.dk s g j (by simp[KnR]) λl H1 B r g nl s1 z y=>?_
 let m:=h.st.same s1;let b:∀(c:nF)(e:nt)(H2:Hp),ya CP CB CBs CDy CN CPc CPl c (some e) H2 [.str "base",.int (↥C0.length-1),.int (↥C0.length-1)]->ao H1 H2->r c (some e) H2:=λc e H2 p s2=>y c e H2 _ p λt o=>q t _ aj {A,u,M,h.mv (s1.trans<|s2.trans<|ao.new o) o5 o5}<|bg.of_same<|s1.trans<|s2.trans<|ao.new o
 rw[sH];let n:∀v,ig (iQ (M 0) w) v->v=.int (↥C0.length-1):=λv a=>EL h.wh h.st.D.ne (by rwa[←h.m0])
 refine{A,wd,C0,C1,[u],_,l,w,J,g,.inr {x,λv a=>.inr<|n v a},m,h.n0,o7,λe=>absurd e f,λv e H2 _ a he s2=>?_};rw[n v a] at he;exact b _ e H2 {e,J,.inr<|.inr<|.inl {J,_,_,he,J}} s2
def Mx(h:Bh CK CS CD C CW CG H k W wd C0 C1 3 A u M)(L:C0.length≤50)(q:∀t H',H' t=some (.tup [.str "text",.str "ok"])->BhE CK CS CD C CW CG H' k W wd C0 C1 (3+1)->bg W H H'->Q (.ref t) H'):di CK CS CD C CW CG CP CB CBs CDy CN CPc CPl [.ref k,.str (dn [.c "seal ",.n (↥C0.length-1)])] H Q E:=by
 let h0:=h.st.D.ne;refine gk (hd:="seal") (td:=.nums [(↥C0.length-1)]) h.dk (λk i=>by simp at i <;> omega) (gI (λk i=>by simp at i <;> omega) (by kernel_rfl)) (by kernel_rfl) (by simp[KnR]) λl H1 F B s nl s1 v O=>?_
 let f:=h.st.same s1;rw[zu];let⟨x,a,j⟩:=h.se o6;let r:DN (M 0) (↥C0.length-1):=by rw[h.m0];exact(Gb h.wh h.st.D.ne).mpr J
 refine{A,wd,C0,C1,[u],_,l,(↥C0.length-1),x,J,s,f,s1 _ _ a,j,λ_ H2 m=>?_,λz=>absurd r z};refine v _ _ λt y=>?_
 let s2:ao H2 _:=ao.new y (o:=.tup [.str "text",.str "ok"]);let⟨dx,h1⟩:=h.dk;let p:A.se∈A.own:=anm;refine q t _ aj {A,u,M,{dx,s2 _ _ (m _ _ (s1 _ _ h1) λz=>h.kn (by rwa[amr.mp z]))},(f.dQ m (cH.dk (s1 _ _ a) cH.nil) λb g z=>h.sn (by rwa[←amr.mp z])).same s2,h.ow,h.sn,h.kn,λz=>by omega,h.wh,h.m0,h.n0,h.m1,h.n1,h.n2} λb o e g=>s2 _ _ (m _ _ (s1 _ _ e) λz=>g (by rwa[amr.mp z,←h.ow]))
def Mg(h:Bh CK CS CD C CW CG H k W wd C0 C1 i A u M)(hi:3<i/\i<6)(q:∀t H',H' t=some (.tup [.str "piece",.int 0])->BhE CK CS CD C CW CG H' k W wd C0 C1 (i+1)->bg W H H'->Q (.ref t) H'):di CK CS CD C CW CG CP CB CBs CDy CN CPc CPl [.ref k,.str (dn [.c "line 1 0"])] H Q E:=by
 refine gk (hd:="line") (td:=.nums [1,0]) h.dk (λk a=>by simp at a) (gI (λk a=>by simp at a) (by kernel_rfl)) (by kernel_rfl) (by simp[KnR]) λl H1 y n o nl s1 s r=>?_
 let f:=h.st.same s1;let b:∀(c:nF)(e:nt)(H2:Hp),ya CP CB CBs CDy CN CPc CPl c (some e) H2 [.str "piece",.int 0]->ao H1 H2->n c (some e) H2:=λc e H2 m s2=>r c e H2 _ m λt g=>q t _ aj {A,u,M,h.mv (s1.trans<|s2.trans<|ao.new g) o5 o5}<|bg.of_same<|s1.trans<|s2.trans<|ao.new g
 rw[zg];let p:M 1=λ_=>Z0:=by rw[h.m1,ama o5]
 refine{A,wd,C0,C1,[u],_,l,(1),(0),J,o,f,λj v x=>?_,λz=>absurd ⟨o5,o5⟩ z,λ_ e H2 he s2=>b _ e H2 {e,J,.inr<|.inr<|.inr<|.inr<|.inr<|.inl {J,_,he,J}} s2};obtain rfl:j=1:=by omega
 rw[p]
def Lh(h:Bh CK CS CD C CW CG H k W wd C0 C1 i A u M)(hi:3<i/\i<6)(q:∀t H',H' t=some (.tup [.str "piece",.int 0])->BhE CK CS CD C CW CG H' k W wd C0 C1 (i+1)->bg W H H'->Q (.ref t) H'):di CK CS CD C CW CG CP CB CBs CDy CN CPc CPl [.ref k,.str (dn [.c "harm 1 0 0 1"])] H Q E:=by
 refine gk (hd:="harm") (td:=.nums [1,0,0,1]) h.dk (λk a=>by simp at a) (gI (λk a=>by simp at a) (by kernel_rfl)) (by kernel_rfl) (by simp[KnR]) λl H1 F n o nl s1 B y=>?_
 let f:=h.st.same s1;let b:∀(c:nF)(e:nt)(H2:Hp),ya CP CB CBs CDy CN CPc CPl c (some e) H2 [.str "piece",.int 0]->ao H1 H2->n c (some e) H2:=λc e H2 m s2=>y c e H2 _ m λt g=>q t _ aj {A,u,M,h.mv (s1.trans<|s2.trans<|ao.new g) o5 o5}<|bg.of_same<|s1.trans<|s2.trans<|ao.new g
 rw[oS];let s:M 1=λ_=>Z0:=by rw[h.m1,ama o5]
 refine{A,wd,C0,C1,[u],_,l,(1),(0),(0),(1),J,o,f,λj v x p r e=>?_,λz=>absurd ⟨o5,o5⟩ z,λj _ _ _ e H2 he s2=>b _ e H2 {e,J,.inr<|.inr<|.inr<|.inr<|.inr<|.inl {J,_,he,J}} s2,λj v p r e=>?_} <;>
 .obtain rfl:j=1:=by omega
  rw[s] at e;cases e
def Lf(h:Bh CK CS CD C CW CG H k W wd C0 C1 6 A u M)(q:∀t H',H' t=some (.tup [.str "text",.str "1"])->BhE CK CS CD C CW CG H' k W wd C0 C1 (6+1)->bg W H H'->Q (.ref t) H'):di CK CS CD C CW CG CP CB CBs CDy CN CPc CPl [.ref k,.str (dn [.c "carry 1 1"])] H Q E:=by
 refine gk (hd:="carry") (td:=.nums [1,1]) h.dk (λk g=>by simp at g) (gI (λk g=>by simp at g) (by kernel_rfl)) (by kernel_rfl) (by simp[KnR]) λl H1 Y O y nl s1 B hE=>?_
 let r:=h.st.same s1;rw[xG];refine{A,wd,C0,C1,[u],_,l,(1),(1),J,y,r,o5,λj k2 H2 S U g p s=>?_,λz=>absurd ⟨o5,o5⟩ z};obtain rfl:j=1:=by omega
 let F:M 1=λ_=>Z0:=by rw[h.m1,ama o5]
 let a:A.n 1=0:=by rw[h.n1,ama o5]
 obtain rfl:k2=1:=by rw[g,a];rfl
 rw[show bY ((1:Z5):Z4) =("1":Str) by decide +kernel];refine B _ _ λt L=>?_
 let s2:ao H2 _:=ao.new L (o:=.tup [.str "text",.str "1"]);let v:∀ b∈[A.dl,A.x 1,A.d 1],b∈A.sm:=λb f=>by simp only[List.mem_cons,List.not_mem_nil,or_false] at f;rcases f with rfl|rfl|rfl <;> simp[SAd.sm]
 let m:∀ b∈[A.dl,A.x 1,A.d 1],b∈W:=λb f=>by rw[←h.ow];exact amj _<|amY _<|v b f
 let⟨dx,h1⟩:=h.dk;refine q t _ aj {A.re 1 (A.x 1) (A.d 1)<|A.n 1+1,u,_,{dx,s2 _ _ (s _ _ (s1 _ _ h1) λz=>h.kn (by rw[h.ow];exact m _ z))},p.same s2,by rw[SAd.Di];exact h.ow,?_,by rw[SAd.Di];exact h.kn,λz=>by omega,h.wh,?_,?_,?_,?_,?_} λb o e f=>s2 _ _ (s _ _ (s1 _ _ e) λz=>f<|m _ z)
 .let:=(List.cons.inj<|(SAd.Di (A:=A) (i:=1) (n':=A.n 1+1))).2;rw[this];exact h.sn
 .rw[cN o6];exact h.m0
 .show fset A.n 1 (A.n 1+1) 0=1;rw[cN o6,h.n0]
 .rw[dF,F,a,Ng,al8 o6]
 .show fset A.n 1 (A.n 1+1) 1=_;rw[dF,a,al8 o6]
 .show fset A.n 1 (A.n 1+1) 2=0;rw[cN o6,h.n2]
def UX(h:Bh CK CS CD C CW CG H k W wd C0 C1 i A u M)(hi:6<i){far:Z4}(L:↥wd≤far/\far<10 ^ 20)(q:∀t H',H' t=some (.tup [.str "place",.int far])->BhE CK CS CD C CW CG H' k W wd C0 C1 (i+1)->bg W H H'->Q (.ref t) H'):di CK CS CD C CW CG CP CB CBs CDy CN CPc CPl [.ref k,.str (dn [.c "harm 1 0 ",.n far,.c " 1"])] H Q E:=by
 refine gk (hd:="harm") (td:=.nums [1,0,far,1]) h.dk (λk a=>by simp at a <;> omega) (gI (λk a=>by simp at a <;> omega) (by kernel_rfl)) (by kernel_rfl) (by simp[KnR]) λl H1 U o p nl s1 O B=>?_
 let f:=h.st.same s1;let b:∀(c:nF)(e:nt)(H2:Hp),ya CP CB CBs CDy CN CPc CPl c (some e) H2 [.str "place",.int far]->ao H1 H2->o c (some e) H2:=λc e H2 m s2=>B c e H2 _ m λt g=>q t _ aj {A,u,M,h.mv (s1.trans<|s2.trans<|ao.new g) o5 o5}<|bg.of_same<|s1.trans<|s2.trans<|ao.new g
 rw[oS];let y:M 1=jd u:=by rw[h.m1,al8 o5]
 let S:=h.wh.len h.st.T;refine{A,wd,C0,C1,[u],_,l,(1),(0),far,(1),J,p,f,λj v x r s e ex F=>?_,λz=>absurd ⟨o5,o5⟩ z,λj r s e=>?_,λj v _ _ _ _ e H2 he s2=>b _ e H2 {e,J,.inl {J,_,he,J}} s2} <;>
 .obtain rfl:j=1:=by omega
  rw[y,nI] at e;cases e
  try omega
def UL(h:Bh CK CS CD C CW CG H k W wd C0 C1 i A u M)(hi:6<i)(q:∀t H',H' t=some (.tup [.str "text",.str "ok"])->BhE CK CS CD C CW CG H' k W wd C0 C1 (i+1)->bg W H H'->Q (.ref t) H'):di CK CS CD C CW CG CP CB CBs CDy CN CPc CPl [.ref k,.str (dn [.c "harm 1 0 0 0"])] H Q E:=by
 refine gk (hd:="harm") (td:=.nums [1,0,0,0]) h.dk (λk n=>by simp at n) (gI (λk n=>by simp at n) (by kernel_rfl)) (by kernel_rfl) (by simp[KnR]) λl H1 Q' U L nl s1 O hE=>?_
 let p:=h.st.same s1;rw[oS];let a:M 1=jd u:=by rw[h.m1,al8 o5]
 let Y:=h.wh.len h.st.T;let F:=h.st.D.w1;refine{A,wd,C0,C1,[u],_,l,(1),(0),(0),(0),J,L,p,λj v x s y e ex r H2 f B=>?_,λz=>absurd ⟨o5,o5⟩ z,λj s y e=>?_,λj v s y e r=>?_}
 .obtain rfl:j=1:=by omega
  refine O _ _ λt S=>?_
  let s2:ao H2 _:=ao.new S (o:=.tup [.str "text",.str "ok"]);let g:∀ b∈[A.x 1,A.d 1],b∈W:=λb m=>by rw[←h.ow];refine amj _<|amY _ ?_;simp only[List.mem_cons,List.not_mem_nil,or_false] at m;rcases m with rfl|rfl <;> simp[SAd.sm]
  rw[a,nI] at e;cases e;rw[ahh,a,Nv,←a,gZ] at f;let⟨dx,h1⟩:=h.dk;exact q t _ aj {A,u,M,{dx,s2 _ _ (B _ _ (s1 _ _ h1) λz=>h.kn (by rw[h.ow];exact g _ z))},f.same s2,h.ow,h.sn,h.kn,λz=>by omega,h.wh,h.m0,h.n0,by rw[a,al8 o5],by rw[h.n1,al8 o5,al8 o5],h.n2} λb o e m=>s2 _ _ (B _ _ (s1 _ _ e) λz=>m<|g _ z)
 .obtain rfl:j=1:=by omega
  rw[a,nI] at e;cases e
 .obtain rfl:j=1:=by omega
  rw[a,nI] at e;cases e;exact absurd ⟨o5,o5⟩ r
def KR(h:Bh CK CS CD C CW CG H k W wd C0 C1 i A u M)(hi:6<i)(L:C0.length≤50)(q:∀t H',H' t=some (.tup [.str "text",.str (bY (↥C0.length-1))])->BhE CK CS CD C CW CG H' k W wd C0 C1 (i+1)->bg W H H'->Q (.ref t) H'):di CK CS CD C CW CG CP CB CBs CDy CN CPc CPl [.ref k,.str (dn [.c "reach 1"])] H Q E:=by
 refine gk (hd:="reach") (td:=.nums [1]) h.dk (λk b=>by simp at b) (gI (λk b=>by simp at b) (by kernel_rfl)) (by kernel_rfl) (by simp[KnR]) λl H1 B F o nl s1 p O=>?_
 let g:=h.st.same s1;let f:∀(H2:Hp),ao H1 H2->B (.str (bY (↥C0.length-1))) H2:=λH2 s2=>p _ _ λt n=>q t _ aj {A,u,M,h.mv (s1.trans<|s2.trans<|ao.new n) o5 o5}<|bg.of_same<|s1.trans<|s2.trans<|ao.new n
 rw[xP];let h0:=h.st.D.ne;let y:M 1=jd u:=by rw[h.m1,al8 o5]
 let m:∀v,ig (CA (M 1)) v->v=.int (↥C0.length-1):=λv a=>EL (w:="last") h.wh h0 (a.ext λx=>by rw[y];unfold iQ;rw[al8 d7])
 refine{A,wd,C0,C1,[u],_,l,(1),J,o,g,λj r s v H2 a _ s2=>?_,λj r s d a=>?_,λz=>absurd ⟨o5,o5⟩ z}
 .obtain rfl:j=1:=by omega
  rw[m v a];exact f H2 s2
 .obtain rfl:j=1:=by omega
  let:=V.int.inj<|m _ a;omega
def JD(h:Bh CK CS CD C CW CG H k W wd C0 C1 i A u M)(hi:6<i)(q:∀t H',H' t=some (.tup [.str "text",.str "1 1 0"])->BhE CK CS CD C CW CG H' k W wd C0 C1 (i+1)->bg W H H'->Q (.ref t) H'):di CK CS CD C CW CG CP CB CBs CDy CN CPc CPl [.ref k,.str (dn [.c "marks"])] H Q E:=by
 refine gk (hd:="marks") (td:=.nums []) h.dk (λk a=>by simp at a) (gI (λk a=>by simp at a) (by kernel_rfl)) (by kernel_rfl) (by simp[KnR]) λl H1 m o p nl s1 j r=>?_
 let f:=h.st.same s1;let b:∀(H2:Hp),ao H1 H2->m (.str "1 1 0") H2:=λH2 s2=>j _ _ λt g=>q t _ aj {A,u,M,h.mv (s1.trans<|s2.trans<|ao.new g) o5 o5}<|bg.of_same<|s1.trans<|s2.trans<|ao.new g
 rw[xN];refine{A,wd,C0,C1,[u],_,l,J,f,λH2 s2=>?_};rw[show(l3 λi=>(A.n i:Z4))=[1,1,0] by simp[l3,h.n0,h.n1,h.n2,show ¬i≤6 by omega],show jnT [1,1,0] =("1 1 0":Str) by decide +kernel];exact b H2 s2
def Nk{K:Frag}{H:Hp}{x:V}(h:gb x=Z1):EqI K H 0 x x Z1:=.inl {h,h,by cases x <;> simp_all[eqV,gb]}
def kH{K:Frag}{H:Hp}{a c:nt}{xs:mu V}(h1:H a=some (.tup xs))(h2:H c=some (.tup xs))(b:xs.all gb=Z1):iL K H (EqI K H 0) (.ref a) (.ref c) Z1:=iL.aiy (X3.of h1) (X3.of h2) λx h=>Nk<|amZ.mp b x h
def EE(n far:Z4):mu (mu At×mu V):=[([.c "keep whole"],[.str "text",.str "0"]),([.c "keep since"],[.str "base",.int n,.int n]),([.c "keep last"],[.str "base",.int n,.int n]),([.c "seal ",.n n],[.str "text",.str "ok"]),([.c "line 1 0"],[.str "piece",.int 0]),([.c "harm 1 0 0 1"],[.str "piece",.int 0]),([.c "carry 1 1"],[.str "text",.str "1"]),([.c "harm 1 0 ",.n far,.c " 1"],[.str "place",.int far]),([.c "harm 1 0 0 0"],[.str "text",.str "ok"]),([.c "reach 1"],[.str "text",.str<|bY n]),([.c "marks"],[.str "text",.str "1 1 0"])]
def MA{n far:Z4}(e:(EE n far)[i]?=some (as,due)):due.all gb=Z1:=by let h:(EE n far).all (λp=>p.2.all gb)=Z1:=rfl;exact amZ.mp h _<|aml e
def z8(as:mu At)(due:mu V)(H:Hp)(v:V):Z3:=∃t d,v=.ref t/\H t=some (.tup [.str<|dn as,.ref d])/\H d=some (.tup due)
def z8.same{v:V}(h:z8 as due H v)(s:ao H H'):z8 as due H' v:=let ⟨t,d,h1,h2,h3⟩:=h;{t,d,h1,s _ _ h2,s _ _ h3}
def KO{d t:nt}(as:mu At)(due:mu V)(hd:H d=Z0)(a:Z9 H d (.tup due) t=Z0):z8 as due (Z9 (Z9 H d (.tup due)) t (.tup [.str (dn as),.ref d])) (.ref t)/\ao H (Z9 (Z9 H d (.tup due)) t (.tup [.str (dn as),.ref d])):=by let s2:=ao.new a (o:=.tup [.str<|dn as,.ref d]);exact{{t,d,J,aj,s2 _ _ aj},(ao.new hd).trans s2}
def gV{H:Hp}{d t:nt}{T:Hp->Z3}(as:mu At){due:mu V}(hd:H d=Z0)(a:Z9 H d (.tup due) t=Z0)(h:∀G,z8 as due G (.ref t)->ao H G->T G):T (Z9 (Z9 H d (.tup due)) t (.tup [.str (dn as),.ref d])):=h _ (KO as due hd a).1 (KO as due hd a).2
def xU(CK CS CD C CW CG:nt)(k:nt)(W:mu nt)(wd:Z5)(C0 C1:mu (mu Z4))(i:Z5)(H:Hp):Z3:=if i=0 then ∃A,DkS CK CS CD C CW CG H k A wd C0 C1 [] (λ_ _=>Z0)/\(∀i,A.n i=0)/\A.own=W else BhE CK CS CD C CW CG H k W wd C0 C1 i
def abq{far:Z4}(e:(EE (↥C0.length-1) far)[i]?=some (as,due))(o:↥wd≤far/\far<10 ^ 20)(n:C0.length≤50)(h:xU CK CS CD C CW CG k W wd C0 C1 i H)(q:∀f H',H' f=some (.tup due)->xU CK CS CD C CW CG k W wd C0 C1 (i+1) H'->bg W H H'->Q (.ref f) H'):di CK CS CD C CW CG CP CB CBs CDy CN CPc CPl [.ref k,.str (dn as)] H Q E:=by
 let g:∀f H',H' f=some (.tup due)->BhE CK CS CD C CW CG H' k W wd C0 C1 (i+1)->bg W H H'->Q (.ref f) H':=λf H' a b c=>q f H' a (by unfold xU;rwa[al8 o5]) c
 let g0:fz [.c "keep since"]:=λk l=>by simp at l
 let m:fz [.c "keep last"]:=λk l=>by simp at l
 unfold xU at h;by_cases hi:i=0
 .subst hi;rw[ama rfl] at h;let⟨A,h1,h2,h3⟩:=h;cases e;exact aiQ h1 h2 h3 g
 rw[al8 hi] at h;let⟨A,u,M,h⟩:=h
 match i,e,hi with
 |1,e,_=>cases e;exact El h o5 (.inl J) d7 g0 (gI g0 (by kernel_rfl)) (by kernel_rfl) g
 |2,e,_=>cases e;exact El h o5 (.inr J) d7 m (gI m (by kernel_rfl)) (by kernel_rfl) g
 |3,e,_=>cases e;exact Mx h n g
 |4,e,_=>cases e;exact Mg h o5 g
 |5,e,_=>cases e;exact Lh h o5 g
 |6,e,_=>cases e;exact Lf h g
 |7,e,_=>cases e;exact UX h o5 o g
 |8,e,_=>cases e;exact UL h o5 g
 |9,e,_=>cases e;exact KR h o5 n g
 |10,e,_=>cases e;exact JD h o5 g
 |j+11,e,_=>simp[EE] at e
end
section
variable{CS CD C CW CG CP CB CBs CDy CN CPc CPl CK:nt}{B H H':Hp}{k:nt}{A:SAd}{wd n:Z5}{C0 C1:mu (mu Z4)}{Q:VK}{E:XK}
structure DyI(CK CS CD C CW CG:nt)(B H:Hp)(k:nt)(A:SAd)(wd n:Z5)(C0 C1:mu (mu Z4)):Z3 where
 h:DkS CK CS CD C CW CG H k A wd C0 C1 [] (λ_ _=>Z0)
 n0:∀i,A.n i=0
 tl:C0.length=n+1
 sb:ao B H
 ow:∀ x∈A.own,B x=Z0
def DyI.same(d:DyI CK CS CD C CW CG B H k A wd n C0 C1)(s:ao H H'):DyI CK CS CD C CW CG B H' k A wd n C0 C1:={d.h.same s,d.n0,d.tl,d.sb.trans s,d.ow}
def DyI.day{m d:nt}{tb j:mu Z4}(i:DyI CK CS CD C CW CG B H k A wd n C0 C1)(q:StC CS CD C CW CG H' {A with TL:=A.TL++[m],SL:=A.SL++[d]} wd (C0++[tb]) (C1++[j]) [] (λ_ _=>Z0))(nm:H m=Z0)(b:H d=Z0)(f:bg A.ft H H'):DyI CK CS CD C CW CG B H' k {A with TL:=A.TL++[m],SL:=A.SL++[d]} wd (n+1) (C0++[tb]) (C1++[j]):=by
 let own:∀ x∈({A with TL:=A.TL++[m],SL:=A.SL++[d]}:SAd).own,x∈A.own∨x=m∨x=d:=λx a=>by simp only[SAd.own,SAd.sm,SAd.ft,foot,List.mem_append,List.mem_singleton,List.mem_cons] at a ⊢;grind
 let g:∀ x∈A.ft,x∈A.own:=λx a=>amj _<|amm _ a
 let⟨dx,h1⟩:=i.h.dk;let⟨p,h2,h3⟩:=i.h.se;let c:A.se∉A.ft:=λz=>i.h.sn<|amm _ z
 refine{{{dx,f _ _ h1 λz=>i.h.kn<|g _ z},q,{p,f _ _ h2 c,h3},λz=>?_,λz=>?_},i.n0,by simp[i.tl],λx o e=>f _ _ (i.sb _ _ e) λz=>?_,λx a=>?_}
 .let l:A.se∈A.sm++A.ft∨A.se=m∨A.se=d:=by simp only[SAd.sm,SAd.ft,foot,List.mem_append,List.mem_singleton,List.mem_cons] at z ⊢;grind
  rcases l with z|z|z
  .exact i.h.sn z
  .rw[z,nm] at h2;cases h2
  .rw[z,b] at h2;cases h2
 .rcases own _ z with z|z|z
  .exact i.h.kn z
  .rw[z,nm] at h1;cases h1
  .rw[z,b] at h1;cases h1
 .rw[i.ow x<|g _ z] at e;cases e
 .rcases own x a with z|z|z
  .exact i.ow x z
  .rw[z];exact i.sb.free nm
  .rw[z];exact i.sb.free b
def DyI.nft{l:nt}(i:DyI CK CS CD C CW CG B H k A wd n C0 C1)(nl:H l=Z0):l∉A.ft:=λa=>by let⟨o,e⟩:=i.h.st.here l<|amm _ a;rw[nl] at e;cases e
def DyI.say{a b:Z4}(i:DyI CK CS CD C CW CG B H k A wd n C0 C1)(O:0≤a/\a<wd)(L:0≤b/\b<18446744073709551616)(U:n≤40)(q:∀s A' f j H',DyI CK CS CD C CW CG B H' k A' wd (n+1) f j->Q (.str s) H'):zM CK CS CD C CW CG CP CB CBs CDy CN CPc CPl [.ref k,.str (dn [.c "day ",.n a,.c "=",.n b])] H Q E:=by
 let S:=i.h.st.D.w2;let g:fz [.c "day ",.n a,.c "=",.n b]:=λk z=>by simp at z <;> omega
 refine{k,A.p,_,"day",.chs [(a,b)],J,i.h.dk,gI g (by kernel_rfl),Cw g (by kernel_rfl),by simp[KnR],λl H1 v nl s1=>?_};let o:=i.same s1;rw[vq];let r:cy wd [(a,b)]=Z0:=by
  let:dj wd (a,b)=Z0:=by unfold dj;rw[al8 o5,al8 o5]
  simp[cy,this]
 let:=i.tl;exact{A,wd,C0,C1,[],_,l,[(a,b)],J,o.h.st,v,o7,o5,i.nft nl,λ_ m d H2 u _ y nm t F=>q _ _ _ _ H2<|o.day y nm t F,λx e=>(by rw[r] at e;cases e),λx e=>(by rw[r] at e;cases e)}
def DyI.marks(i:DyI CK CS CD C CW CG B H k A wd n C0 C1)(q:∀t H',H' t=some (.tup [.str "text",.str "0 0 0"])->ao H H'->Q (.ref t) H'):di CK CS CD C CW CG CP CB CBs CDy CN CPc CPl [.ref k,.str (dn [.c "marks"])] H Q E:=by
 refine gk (hd:="marks") (td:=.nums []) i.h.dk (λk a=>by simp at a) (gI (λk a=>by simp at a) (by kernel_rfl)) (by kernel_rfl) (by simp[KnR]) λl H1 m g j nl s1 b o=>?_
 rw[xN];refine{A,wd,C0,C1,[],_,l,J,i.h.st.same s1,λH2 s2=>?_};rw[show jnT (l3 λi=>(A.n i:Z4)) = "0 0 0" by rw[show(l3 λi=>(A.n i:Z4))=[0,0,0] by simp[l3,i.n0]];decide +kernel];exact b _ _ λt f=>q t _ aj<|s1.trans<|s2.trans<|ao.new f
def DyI.told(i:DyI CK CS CD C CW CG B H k A wd n C0 C1)(F:n≤40)(q:∀t A' a b H',H' t=some (.tup [.str "text",.str (bY (↥n+1))])->DyI CK CS CD C CW CG B H' k A' wd (n+1) a b->Q (.ref t) H'):di CK CS CD C CW CG CP CB CBs CDy CN CPc CPl [.ref k,.str (dn [.c "day"])] H Q E:=by
 refine gk (hd:="day") (td:=.chs []) i.h.dk (λk f=>by simp at f) (gI (λk f=>by simp at f) (by kernel_rfl)) (by kernel_rfl) (by simp[KnR]) λl H1 z y p nl s1 r L=>?_
 let g:=i.same s1;rw[vq];let:=i.tl;refine{A,wd,C0,C1,[],_,l,[],J,g.h.st,p,o7,o5,i.nft nl,λ_ m d H2 o _ s nm j v=>?_,λx e=>(by cases e),λx e=>(by cases e)};rw[i.tl];exact r _ _ λt u=>q t _ _ _ _ aj<|(g.day s nm j v).same<|ao.new u
end
def JT{wd n:Z5}{hd:Z6}{td:Told}{due:mu V}(h:cj wd n hd td=some due):due.all gb=Z1:=by
 cases td with
 |chs a=>simp only[cj] at h;split at h <;> cases h <;> rfl
 |wrd w=>simp only[cj] at h;split at h <;> cases h;rfl
 |nums ns=>
  simp only[cj] at h
  repeat' split at h
  all_goals first|(cases h;done)|(cases h;rfl)|(let⟨x,_,rfl⟩:=ami.mp h;rfl)
def bI.flat{wd n:Z5}{as:mu At}{due:mu V}(h:bI wd n as due):due.all gb=Z1:=let ⟨_,_,_,_,e,_⟩:=h.rf;JT e
instance:Inhabited World:=⟨{λ_ _=>0,{strHash:=λ_=>0,shareClass:=λ_=>0,mergeTok:=λ_=>0,idOf:=λ_=>0,idOfShared:=λ_ _=>0,followText:=λ_=>Z1,idOfImm:=λ_=>0}}⟩
structure Gc where (P:q9) (w:wo) (K:Frag) (mg:Z6->o9 nF) (base:Heap) (t_W cY cM cL dP fO cG:Tok) (cX bE aK aP aU aQ aN bD aW aE aD cR av aB ay bA dh cZ ah bR cV eE gB:nt) deriving Inhabited
inductive Hy(w:wo)(K:Frag)(mg:Z6->o9 nF)(t_W cY cM cL dP fO cG:Tok)(cX bE aK aP aU aQ aN bD aW aE aD cR av aB ay bA dh cZ ah bR cV eE gB:nt):Z3
 |m {h:Heap} (_:K.In h) (_:h.Ns mainGlobals mg) (_:nsIn K mainGlobals "W" = some (some (.int 18446744073709551615 t_W))) (_:nsIn K mainGlobals "MOST_BLOCKS" = some (some (.int 40 cY))) (_:nsIn K mainGlobals "MOST_FIGURES" = some (some (.int 20 cM))) (_:nsIn K mainGlobals "MOST_PLANNED" = some (some (.int 7 cL))) (_:nsIn K mainGlobals "MOST_RATE" = some (some (.int 1000000000000 dP))) (_:nsIn K mainGlobals "FIGURES" = some (some (.str (PySem.Str.ofString "0123456789") fO))) (_:nsIn K mainGlobals "CHECK_FIGURES" = some (some (.int 20 cG))) (_:GA K "KeepError" cX) (_:GA K "NoTable" bE) (_:GA K "NoPlace" aK) (_:GA K "NoBlock" aP) (_:GA K "NoDay" aU) (_:GA K "NoBase" aQ) (_:GA K "NoPiece" aN) (_:GA K "NoRule" bD) (_:GA K "NoPlan" aW) (_:GA K "NoShelf" aE) (_:GA K "Days" aD) (_:GA K "Piece" cR) (_:GA K "Whole" av) (_:GA K "Gain" aB) (_:GA K "Shelf" ay) (_:GA K "OneOfEach" bA) (_:GA K "Apart" dh) (_:GA K "AnyOf" cZ) (_:GA K "Store" ah) (_:GA K "Desk" bR) (_:GA K "ANSWERS" cV) (_:GA K "FORMS" eE) (_:GA K "KEPT" gB) (_:EC K cX) (_:EC K bE) (_:aJ K bE "wide") (_:EC K aK) (_:aJ K aK "place") (_:EC K aP) (_:aJ K aP "block") (_:EC K aU) (_:aJ K aU "day") (_:EC K aQ) (_:aJ K aQ "base") (_:aJ K aQ "day") (_:EC K aN) (_:aJ K aN "number") (_:EC K bD) (_:aJ K bD "found") (_:EC K aW) (_:aJ K aW "many") (_:EC K aE) (_:aJ K aE "shelf") (_:PX K aD) (_:aJ K aD "wide") (_:aJ K aD "last") (_:aJ K aD "tables") (_:aJ K aD "set_places") (_:PX K av) (_:aJ K av "day") (_:aJ K av "rows") (_:aJ K av "check") (_:aJ K av "fits") (_:PX K aB) (_:aJ K aB "day") (_:aJ K aB "rows") (_:aJ K aB "check") (_:aJ K aB "fits") (_:aJ K aB "base") (_:PX K ay) (_:aJ K ay "pieces") (_:aJ K ay "follows") (_:PX K bA) (_:aJ K bA "step") (_:aJ K bA "many") (_:PX K dh) (_:aJ K dh "gap") (_:PX K cZ) (_:aJ K cZ "rules") (_:PX K ah) (_:aJ K ah "days") (_:aJ K ah "rule") (_:aJ K ah "seek") (_:aJ K ah "each") (_:aJ K ah "shelves") (_:aJ K ah "noted") (_:aJ K ah "done") (_:aJ K ah "seals") (_:PX K bR) (_:aJ K bR "store") (_:MF K bE "__init__" "NoTable.__init__" iT) (_:MF K aK "__init__" "NoPlace.__init__" jf) (_:MF K aP "__init__" "NoBlock.__init__" iY) (_:MF K aU "__init__" "NoDay.__init__" j7) (_:MF K aQ "__init__" "NoBase.__init__" jB) (_:MF K aN "__init__" "NoPiece.__init__" iS) (_:MF K bD "__init__" "NoRule.__init__" jD) (_:MF K aW "__init__" "NoPlan.__init__" jF) (_:MF K aE "__init__" "NoShelf.__init__" i8) (_:MF K aD "__init__" "Days.__init__" lE) (_:MF K aD "passes" "Days.passes" nW) (_:MF K aD "table" "Days.table" pR) (_:MF K aD "written" "Days.written" mH) (_:MF K aD "ask_change" "Days.ask_change" jH) (_:MF K aD "ask_day" "Days.ask_day" mO) (_:GF K "ask_wide" tH) (_:GF K "legs_of" BC) (_:GF K "prices" Dm) (_:GF K "way_of" DW) (_:GF K "turned" yl) (_:GF K "check_of" sM) {f21:nt} (_:FA K cR "__init__" f21) (_:MV K "__init__" "Piece.__init__" j8 f21) {f22:nt} (_:FA K cR "is_good" f22) (_:MV K "is_good" "Piece.is_good" lP f22) {f23:nt} (_:FA K cR "harmed" f23) (_:MV K "harmed" "Piece.harmed" mT f23) {f24:nt} {od24 an24:o9 nt} {sl24:q8 (o9 nF)} {oc24 kV24 dc24 pm24 cd24 ct24:nF} (_:FA K av "__init__" f24) (_:isFn K (.ref f24)=Z1) {td24:nt} {yc24:nF} {yd24:o9 nt} {yn24:Z5} {yl24:q8 (o9 nF)} (_:K.lookup f24=some {oc24,od24,.func (fnOf "__init__" "Whole.__init__" (er eV) (c7 eV) (az eV) (.ref td24) kV24 dc24 pm24 an24 cd24 ct24),sl24}) (_:codeIn K cd24 "Whole.__init__" = Z1) (_:keepIn K (.ref f24)=Z1) (_:K.lookup td24=some {yc24,yd24,.seq #[.none] yn24,yl24}) (_:MF K av "start" "Whole.start" nX) (_:MF K av "kind" "Whole.kind" pM) (_:MF K av "with_rows" "Whole.with_rows" jG) {f28:nt} {od28 an28:o9 nt} {sl28:q8 (o9 nF)} {oc28 kV28 dc28 pm28 cd28 ct28:nF} (_:FA K aB "__init__" f28) (_:isFn K (.ref f28)=Z1) {td28:nt} {yc28:nF} {yd28:o9 nt} {yn28:Z5} {yl28:q8 (o9 nF)} (_:K.lookup f28=some {oc28,od28,.func (fnOf "__init__" "Gain.__init__" (er fB) (c7 fB) (az fB) (.ref td28) kV28 dc28 pm28 an28 cd28 ct28),sl28}) (_:codeIn K cd28 "Gain.__init__" = Z1) (_:keepIn K (.ref f28)=Z1) (_:K.lookup td28=some {yc28,yd28,.seq #[.none] yn28,yl28}) (_:MF K aB "start" "Gain.start" pq) (_:MF K aB "kind" "Gain.kind" qG) (_:MF K aB "with_rows" "Gain.with_rows" ki) (_:GF K "whole_of" tY) (_:GF K "gain_of" uN) (_:GF K "writes_number" kZ) (_:GF K "number_of" qP) (_:GF K "change_of" qE) (_:GF K "line_of" Bt) (_:MF K ay "__init__" "Shelf.__init__" kr) (_:MF K ay "put" "Shelf.put" rm) (_:MF K ay "lay" "Shelf.lay" qO) (_:MF K ay "piece" "Shelf.piece" nR) (_:MF K ay "numbers" "Shelf.numbers" lu) (_:MF K ay "following" "Shelf.following" jI) (_:MF K ay "last_whole" "Shelf.last_whole" iZ) {f45:nt} {od45 an45:o9 nt} {sl45:q8 (o9 nF)} {oc45 kV45 dc45 pm45 cd45 ct45:nF} (_:GA K "reached" f45) {td45:nt} {yc45:nF} {yd45:o9 nt} {yn45:Z5} {yl45:q8 (o9 nF)} (_:K.lookup f45=some {oc45,od45,.func (fnOf "reached" "reached" (er kN) (c7 kN) (az kN) (.ref td45) kV45 dc45 pm45 an45 cd45 ct45),sl45}) (_:codeIn K cd45 "reached" = Z1) (_:keepIn K (.ref f45)=Z1) (_:K.lookup td45=some {yc45,yd45,.seq #[.bool Z2] yn45,yl45}) (_:GF K "last_pieces" om) (_:GF K "numbers_by_start" je) (_:GF K "answer" CY) (_:GF K "ask_many" tW) (_:GF K "task_of" wB) (_:GF K "read_row" tG) (_:GF K "told_behind" oh) (_:GF K "ask_form" tE) (_:GF K "is_as_many" oX) (_:GF K "is_within" qK) {f56:nt} {od56 an56:o9 nt} {sl56:q8 (o9 nF)} {oc56 kV56 dc56 pm56 cd56 ct56:nF} (_:FA K bA "__init__" f56) (_:isFn K (.ref f56)=Z1) {td56:nt} {yc56:nF} {yd56:o9 nt} {yn56:Z5} {yl56:q8 (o9 nF)} (_:K.lookup f56=some {oc56,od56,.func (fnOf "__init__" "OneOfEach.__init__" (er c6) (c7 c6) (az c6) (.ref td56) kV56 dc56 pm56 an56 cd56 ct56),sl56}) (_:codeIn K cd56 "OneOfEach.__init__" = Z1) (_:keepIn K (.ref f56)=Z1) (_:K.lookup td56=some {yc56,yd56,.seq #[.none] yn56,yl56}) (_:MF K dh "__init__" "Apart.__init__" j9) (_:MF K cZ "__init__" "AnyOf.__init__" kj) (_:GF K "rule_of" wH) (_:GF K "rule_of_part" mX) (_:MF K ah "__init__" "Store.__init__" kD) (_:MF K ah "passes" "Store.passes" mS) (_:MF K ah "today" "Store.today" oB) (_:MF K ah "keep" "Store.keep" pV) (_:MF K ah "seal" "Store.seal" pA) (_:MF K ah "carry" "Store.carry" nQ) (_:MF K ah "marks" "Store.marks" oj) (_:MF K ah "numbers" "Store.numbers" mw) (_:MF K ah "piece" "Store.piece" n9) (_:MF K ah "harm" "Store.harm" pK) (_:MF K ah "heal" "Store.heal" pQ) (_:MF K ah "reach" "Store.reach" oA) {f73:nt} {od73 an73:o9 nt} {sl73:q8 (o9 nF)} {oc73 kV73 dc73 pm73 cd73 ct73:nF} (_:FA K ah "legs" f73) (_:isFn K (.ref f73)=Z1) {td73:nt} {yc73:nF} {yd73:o9 nt} {yn73:Z5} {yl73:q8 (o9 nF)} (_:K.lookup f73=some {oc73,od73,.func (fnOf "legs" "Store.legs" (er gP) (c7 gP) (az gP) (.ref td73) kV73 dc73 pm73 an73 cd73 ct73),sl73}) (_:codeIn K cd73 "Store.legs" = Z1) (_:keepIn K (.ref f73)=Z1) (_:K.lookup td73=some {yc73,yd73,.seq #[.none] yn73,yl73}) (_:MF K ah "ask_shelf" "Store.ask_shelf" jz) (_:MF K ah "new_piece" "Store.new_piece" jE) (_:MF K ah "base_for" "Store.base_for" kB) (_:MF K ah "note" "Store.note" qc) (_:MF K ah "together" "Store.together" ku) (_:GF K "do_deed" wc) (_:GF K "listed" xW) (_:GF K "some_of" vE) (_:GF K "on_day" yL) (_:GF K "on_keep" wI) (_:GF K "on_seal" vv) (_:GF K "on_carry" sI) (_:GF K "on_harm" uR) (_:GF K "on_heal" vF) (_:GF K "on_marks" ue) (_:GF K "on_lies" vj) (_:GF K "on_line" uL) (_:GF K "on_reach" sN) (_:GF K "on_fetch" tu) (_:GF K "on_price" uf) (_:GF K "on_way" yt) (_:GF K "on_plan" vp) (_:MF K bR "__init__" "Desk.__init__" kX) (_:MF K bR "say" "Desk.say" sL) (_:GF K "_law_cell" qX) (_:GF K "_law_told" qS) (_:GF K "_law_made" qY) (_:GF K "_law_of_days" mL) (_:GF K "_law_of_shelves" jJ) (_:GF K "_law_behind" nY) (_:FA K av "is_good" f22) (_:FA K aB "is_good" f22) (_:FA K av "harmed" f23) (_:FA K aB "harmed" f23) (_:specialIn K (.ref cR) "__getattribute__" = some (some (.builtin "type.__getattribute__"))) (_:readsIn K cR (.type "type")=Z1) (_:findCls K (.ref cR) (.type "type") "__init__" = some (.val (.ref f21))) (_:GN K "dict") (_:GN K "len") (_:GN K "isinstance") (_:GN K "list") (_:GN K "tuple") (_:GN K "range") (_:GN K "max") (_:GN K "min") (_:GN K "sorted") (_:GN K "set") (_:GN K "enumerate") (_:GN K "ValueError") (_:GN K "str") (_:GN K "int") (_:GN K "all") (_:fY K gB [V.str "whole",V.str "since",V.str "last"]=Z1) (_:DJ K [aK,aP,aQ,aU,aE,aN,aW,bE,bD]=Z1) {tk_ANSWERS0 tk_ANSWERS1 tk_ANSWERS2 tk_ANSWERS3 tk_ANSWERS4 tk_ANSWERS5 tk_ANSWERS6 tk_ANSWERS7 tk_ANSWERS8 tk_ANSWERS9 tk_ANSWERS10 tk_ANSWERS11 tk_ANSWERS12 tk_ANSWERS13 tk_ANSWERS14:Tok} {fk_ANSWERS0 fk_ANSWERS1 fk_ANSWERS2 fk_ANSWERS3 fk_ANSWERS4 fk_ANSWERS5 fk_ANSWERS6 fk_ANSWERS7 fk_ANSWERS8 fk_ANSWERS9 fk_ANSWERS10 fk_ANSWERS11 fk_ANSWERS12 fk_ANSWERS13 fk_ANSWERS14:nt} {ep_ANSWERS:Z5} (_:(cV==sysModules)=Z2) (_:K.lookup cV=some {.type "dict",Z0,.dict #[{hashStr w (PySem.Str.ofString "day"),.str (PySem.Str.ofString "day") tk_ANSWERS0,.ref fk_ANSWERS0},{hashStr w (PySem.Str.ofString "keep"),.str (PySem.Str.ofString "keep") tk_ANSWERS1,.ref fk_ANSWERS1},{hashStr w (PySem.Str.ofString "seal"),.str (PySem.Str.ofString "seal") tk_ANSWERS2,.ref fk_ANSWERS2},{hashStr w (PySem.Str.ofString "tidy"),.str (PySem.Str.ofString "tidy") tk_ANSWERS3,.ref fk_ANSWERS3},{hashStr w (PySem.Str.ofString "carry"),.str (PySem.Str.ofString "carry") tk_ANSWERS4,.ref fk_ANSWERS4},{hashStr w (PySem.Str.ofString "harm"),.str (PySem.Str.ofString "harm") tk_ANSWERS5,.ref fk_ANSWERS5},{hashStr w (PySem.Str.ofString "heal"),.str (PySem.Str.ofString "heal") tk_ANSWERS6,.ref fk_ANSWERS6},{hashStr w (PySem.Str.ofString "marks"),.str (PySem.Str.ofString "marks") tk_ANSWERS7,.ref fk_ANSWERS7},{hashStr w (PySem.Str.ofString "lies"),.str (PySem.Str.ofString "lies") tk_ANSWERS8,.ref fk_ANSWERS8},{hashStr w (PySem.Str.ofString "line"),.str (PySem.Str.ofString "line") tk_ANSWERS9,.ref fk_ANSWERS9},{hashStr w (PySem.Str.ofString "reach"),.str (PySem.Str.ofString "reach") tk_ANSWERS10,.ref fk_ANSWERS10},{hashStr w (PySem.Str.ofString "fetch"),.str (PySem.Str.ofString "fetch") tk_ANSWERS11,.ref fk_ANSWERS11},{hashStr w (PySem.Str.ofString "price"),.str (PySem.Str.ofString "price") tk_ANSWERS12,.ref fk_ANSWERS12},{hashStr w (PySem.Str.ofString "way"),.str (PySem.Str.ofString "way") tk_ANSWERS13,.ref fk_ANSWERS13},{hashStr w (PySem.Str.ofString "plan"),.str (PySem.Str.ofString "plan") tk_ANSWERS14,.ref fk_ANSWERS14}] ep_ANSWERS,#[]}) (_:GA K "on_day" fk_ANSWERS0) (_:GA K "on_keep" fk_ANSWERS1) (_:GA K "on_seal" fk_ANSWERS2) (_:GA K "on_tidy" fk_ANSWERS3) (_:GA K "on_carry" fk_ANSWERS4) (_:GA K "on_harm" fk_ANSWERS5) (_:GA K "on_heal" fk_ANSWERS6) (_:GA K "on_marks" fk_ANSWERS7) (_:GA K "on_lies" fk_ANSWERS8) (_:GA K "on_line" fk_ANSWERS9) (_:GA K "on_reach" fk_ANSWERS10) (_:GA K "on_fetch" fk_ANSWERS11) (_:GA K "on_price" fk_ANSWERS12) (_:GA K "on_way" fk_ANSWERS13) (_:GA K "on_plan" fk_ANSWERS14) {tk_FORMS0 tk_FORMS1 tk_FORMS2 tk_FORMS3 tk_FORMS4 tk_FORMS5 tk_FORMS6 tk_FORMS7 tk_FORMS8 tk_FORMS9 tk_FORMS10 tk_FORMS11 tk_FORMS12:Tok} {fk_FORMS0 fk_FORMS1 fk_FORMS2 fk_FORMS3 fk_FORMS4 fk_FORMS5 fk_FORMS6 fk_FORMS7 fk_FORMS8 fk_FORMS9 fk_FORMS10 fk_FORMS11 fk_FORMS12:nt} {ep_FORMS:Z5} (_:(eE==sysModules)=Z2) (_:K.lookup eE=some {.type "dict",Z0,.dict #[{hashStr w (PySem.Str.ofString "seal"),.str (PySem.Str.ofString "seal") tk_FORMS0,.ref fk_FORMS0},{hashStr w (PySem.Str.ofString "tidy"),.str (PySem.Str.ofString "tidy") tk_FORMS1,.ref fk_FORMS1},{hashStr w (PySem.Str.ofString "carry"),.str (PySem.Str.ofString "carry") tk_FORMS2,.ref fk_FORMS2},{hashStr w (PySem.Str.ofString "harm"),.str (PySem.Str.ofString "harm") tk_FORMS3,.ref fk_FORMS3},{hashStr w (PySem.Str.ofString "heal"),.str (PySem.Str.ofString "heal") tk_FORMS4,.ref fk_FORMS4},{hashStr w (PySem.Str.ofString "marks"),.str (PySem.Str.ofString "marks") tk_FORMS5,.ref fk_FORMS5},{hashStr w (PySem.Str.ofString "lies"),.str (PySem.Str.ofString "lies") tk_FORMS6,.ref fk_FORMS6},{hashStr w (PySem.Str.ofString "line"),.str (PySem.Str.ofString "line") tk_FORMS7,.ref fk_FORMS7},{hashStr w (PySem.Str.ofString "reach"),.str (PySem.Str.ofString "reach") tk_FORMS8,.ref fk_FORMS8},{hashStr w (PySem.Str.ofString "fetch"),.str (PySem.Str.ofString "fetch") tk_FORMS9,.ref fk_FORMS9},{hashStr w (PySem.Str.ofString "price"),.str (PySem.Str.ofString "price") tk_FORMS10,.ref fk_FORMS10},{hashStr w (PySem.Str.ofString "way"),.str (PySem.Str.ofString "way") tk_FORMS11,.ref fk_FORMS11},{hashStr w (PySem.Str.ofString "plan"),.str (PySem.Str.ofString "plan") tk_FORMS12,.ref fk_FORMS12}] ep_FORMS,#[]}) (_:fY K fk_FORMS0 [V.int 1,V.int 1]=Z1) (_:fY K fk_FORMS1 [V.int 0,V.int 0]=Z1) (_:fY K fk_FORMS2 [V.int 2,V.int 2]=Z1) (_:fY K fk_FORMS3 [V.int 4,V.int 4]=Z1) (_:fY K fk_FORMS4 [V.int 2,V.int 2]=Z1) (_:fY K fk_FORMS5 [V.int 0,V.int 0]=Z1) (_:fY K fk_FORMS6 [V.int 1,V.int 1]=Z1) (_:fY K fk_FORMS7 [V.int 2,V.int 2]=Z1) (_:fY K fk_FORMS8 [V.int 1,V.int 1]=Z1) (_:fY K fk_FORMS9 [V.int 1,V.non]=Z1) (_:fY K fk_FORMS10 [V.int 1,V.non]=Z1) (_:fY K fk_FORMS11 [V.int 1,V.non]=Z1) (_:fY K fk_FORMS12 [V.int 6,V.non]=Z1)
def Go(c:Gc):Z3:=Hy c.w c.K c.mg c.t_W c.cY c.cM c.cL c.dP c.fO c.cG c.cX c.bE c.aK c.aP c.aU c.aQ c.aN c.bD c.aW c.aE c.aD c.cR c.av c.aB c.ay c.bA c.dh c.cZ c.ah c.bR c.cV c.eE c.gB->∀{f fd},Fun c.K "law" "law" nh f fd->aM c.P c.w c.K c.mg c.base (CXx c.P c.w) 15 f fd ["_law_script"] (sE c.K)
noncomputable def g0:Gc:=Classical.epsilon λc=>¬Go c
noncomputable def P:q9:=g0.P
noncomputable def w:wo:=g0.w
noncomputable def K:Frag:=g0.K
noncomputable def mg:Z6->o9 nF:=g0.mg
noncomputable def base:Heap:=g0.base
noncomputable def t_W:Tok:=g0.t_W
noncomputable def cY:Tok:=g0.cY
noncomputable def cM:Tok:=g0.cM
noncomputable def cL:Tok:=g0.cL
noncomputable def dP:Tok:=g0.dP
noncomputable def fO:Tok:=g0.fO
noncomputable def cG:Tok:=g0.cG
noncomputable def cX:nt:=g0.cX
noncomputable def bE:nt:=g0.bE
noncomputable def aK:nt:=g0.aK
noncomputable def aP:nt:=g0.aP
noncomputable def aU:nt:=g0.aU
noncomputable def aQ:nt:=g0.aQ
noncomputable def aN:nt:=g0.aN
noncomputable def bD:nt:=g0.bD
noncomputable def aW:nt:=g0.aW
noncomputable def aE:nt:=g0.aE
noncomputable def aD:nt:=g0.aD
noncomputable def cR:nt:=g0.cR
noncomputable def av:nt:=g0.av
noncomputable def aB:nt:=g0.aB
noncomputable def ay:nt:=g0.ay
noncomputable def bA:nt:=g0.bA
noncomputable def dh:nt:=g0.dh
noncomputable def cZ:nt:=g0.cZ
noncomputable def ah:nt:=g0.ah
noncomputable def bR:nt:=g0.bR
noncomputable def cV:nt:=g0.cV
noncomputable def eE:nt:=g0.eE
noncomputable def gB:nt:=g0.gB
abbrev bJ:=@DefX P w K mg base
abbrev bM:=@zo P w K mg base
abbrev jc:=@Cs P w K mg base
abbrev rN:=@Lr P w K mg base
abbrev oO:=@Nl P w K mg base
abbrev Rw:=@acM P w K mg base
structure Txt:Z3 where
 m_W:mg "W" = some (.int 18446744073709551615 t_W)
 Ca:mg "MOST_BLOCKS" = some (.int 40 cY)
 AE:mg "MOST_FIGURES" = some (.int 20 cM)
 Ac:mg "MOST_PLANNED" = some (.int 7 cL)
 Fe:mg "MOST_RATE" = some (.int 1000000000000 dP)
 JJ:mg "FIGURES" = some (.str (PySem.Str.ofString "0123456789") fO)
 QO:mg "CHECK_FIGURES" = some (.int 20 cG)
 ade:mg "KeepError" = some (.ref cX)
 ahb:cQ K cX
 IF:mg "NoTable" = some (.ref bE)
 nN:cQ K bE
 ju:aJ K bE "wide"
 Hu:mg "NoPlace" = some (.ref aK)
 gA:cQ K aK
 iN:aJ K aK "place"
 Hx:mg "NoBlock" = some (.ref aP)
 nE:cQ K aP
 iM:aJ K aP "block"
 MQ:mg "NoDay" = some (.ref aU)
 oW:cQ K aU
 nc:aJ K aU "day"
 JW:mg "NoBase" = some (.ref aQ)
 kh:cQ K aQ
 jZ:aJ K aQ "base"
 lR:aJ K aQ "day"
 HD:mg "NoPiece" = some (.ref aN)
 qw:cQ K aN
 ic:aJ K aN "number"
 Lo:mg "NoRule" = some (.ref bD)
 mJ:cQ K bD
 g7:aJ K bD "found"
 LO:mg "NoPlan" = some (.ref aW)
 oZ:cQ K aW
 j3:aJ K aW "many"
 Iv:mg "NoShelf" = some (.ref aE)
 nL:cQ K aE
 iP:aJ K aE "shelf"
 al2:mg "Days" = some (.ref aD)
 cB:Cls K aD
 nj:aJ K aD "wide"
 eZ:aJ K aD "last"
 gj:aJ K aD "tables"
 fJ:aJ K aD "set_places"
 DR:mg "Piece" = some (.ref cR)
 akA:mg "Whole" = some (.ref av)
 dW:Cls K av
 iF:aJ K av "day"
 i9:aJ K av "rows"
 jY:aJ K av "check"
 lA:aJ K av "fits"
 al1:mg "Gain" = some (.ref aB)
 eB:Cls K aB
 mj:aJ K aB "day"
 jO:aJ K aB "rows"
 lq:aJ K aB "check"
 nB:aJ K aB "fits"
 jM:aJ K aB "base"
 alG:mg "Shelf" = some (.ref ay)
 cF:Cls K ay
 dG:aJ K ay "pieces"
 dY:aJ K ay "follows"
 acQ:mg "OneOfEach" = some (.ref bA)
 vh:Cls K bA
 kq:aJ K bA "step"
 kE:aJ K bA "many"
 alC:mg "Apart" = some (.ref dh)
 akG:Cls K dh
 xQ:aJ K dh "gap"
 alD:mg "AnyOf" = some (.ref cZ)
 Mb:Cls K cZ
 ou:aJ K cZ "rules"
 alW:mg "Store" = some (.ref ah)
 aR:Cls K ah
 fj:aJ K ah "days"
 pX:aJ K ah "rule"
 pU:aJ K ah "seek"
 pN:aJ K ah "each"
 cz:aJ K ah "shelves"
 iB:aJ K ah "noted"
 gY:aJ K ah "done"
 jQ:aJ K ah "seals"
 al3:mg "Desk" = some (.ref bR)
 rH:Cls K bR
 lU:aJ K bR "store"
 Ie:mg "ANSWERS" = some (.ref cV)
 CU:mg "FORMS" = some (.ref eE)
 Vm:mg "KEPT" = some (.ref gB)
 al4:mg "dict" = Z0
 fC:mg "len" = Z0
 ZD:mg "isinstance" = Z0
 zS:mg "list" = Z0
 AS:mg "tuple" = Z0
 AV:mg "range" = Z0
 zR:mg "max" = Z0
 aiV:mg "min" = Z0
 yN:mg "sorted" = Z0
 ajN:mg "set" = Z0
 FJ:mg "enumerate" = Z0
 adQ:mg "ValueError" = Z0
 dR:mg "str" = Z0
 wL:mg "int" = Z0
 aiA:mg "all" = Z0
 Jo:fY K gB [V.str "whole",V.str "since",V.str "last"]=Z1
 mt:DJ K [aK,aP,aQ,aU,aE,aN,aW,bE,bD]=Z1
section
variable{f:nt}{fd:qd}
variable(T:Txt)
include T in
theorem uy(F:Fun K "__init__" "NoTable.__init__" iT f fd):⋯ 1 f fd ["self","wide"] (f9 bE "wide"):=by
 refine F.okX uz (λvs H Q E h=>?_) λc A outer s H vs Q E i h=>?_
 .let⟨p,g,rfl,b,q⟩:=h;rfl
 .let⟨p,g,rfl,b,q⟩:=h;exists _,(ak<|ia (pv 0) (pv 1) J);exact{2,p,bE,Z1,J,b,T.nN,T.ju,λdx a=>q dx a}
include T in
theorem uw(F:Fun K "__init__" "NoPlace.__init__" jf f fd):⋯ 1 f fd ["self","place"] (f9 aK "place"):=by
 refine F.okX uD (λvs H Q E h=>?_) λc A outer s H vs Q E i h=>?_
 .let⟨p,g,rfl,b,q⟩:=h;rfl
 .let⟨p,g,rfl,b,q⟩:=h;exists _,(ak<|ia (pv 0) (pv 1) J);exact{2,p,aK,Z1,J,b,T.gA,T.iN,λdx a=>q dx a}
include T in
theorem uo(F:Fun K "__init__" "NoBlock.__init__" iY f fd):⋯ 1 f fd ["self","block"] (f9 aP "block"):=by
 refine F.okX uA (λvs H Q E h=>?_) λc A outer s H vs Q E i h=>?_
 .let⟨p,g,rfl,b,q⟩:=h;rfl
 .let⟨p,g,rfl,b,q⟩:=h;exists _,(ak<|ia (pv 0) (pv 1) J);exact{2,p,aP,Z1,J,b,T.nE,T.iM,λdx a=>q dx a}
include T in
theorem xw(F:Fun K "__init__" "NoDay.__init__" j7 f fd):⋯ 1 f fd ["self","day"] (f9 aU "day"):=by
 refine F.okX w6 (λvs H Q E h=>?_) λc A outer s H vs Q E i h=>?_
 .let⟨p,g,rfl,b,q⟩:=h;rfl
 .let⟨p,g,rfl,b,q⟩:=h;exists _,(ak<|ia (pv 0) (pv 1) J);exact{2,p,aU,Z1,J,b,T.oW,T.nc,λdx a=>q dx a}
include T in
theorem vY(F:Fun K "__init__" "NoBase.__init__" jB f fd):⋯ 1 f fd ["self","base","day"] (Cq aQ "base" "day"):=by
 refine F.okX v9 (λvs H Q E h=>?_) λg A outer s H vs Q E j h=>?_
 .let⟨p,i,c,rfl,b,q⟩:=h;rfl
 .let⟨p,i,c,rfl,b,q⟩:=h;refine⟨_,(aq (ia (pv 0) (pv 1) J)
   (ak<|Mt (pv 0) (pv 2) J)),?_⟩
  refine{2,p,aQ,Z1,J,b,T.kh,T.jZ,λdx a=>?_};exists 2,p,aQ,Z1,dx,1,aj,by rw[au (aA b a).symm,aj],T.kh,T.lR,(by show 1<1000;decide);exact Vt (aA b a) d7<|q dx a
include T in
theorem uu(F:Fun K "__init__" "NoPiece.__init__" iS f fd):⋯ 1 f fd ["self","number"] (f9 aN "number"):=by
 refine F.okX uB (λvs H Q E h=>?_) λc A outer s H vs Q E i h=>?_
 .let⟨p,g,rfl,b,q⟩:=h;rfl
 .let⟨p,g,rfl,b,q⟩:=h;exists _,(ak<|ia (pv 0) (pv 1) J);exact{2,p,aN,Z1,J,b,T.qw,T.ic,λdx a=>q dx a}
include T in
theorem vX(F:Fun K "__init__" "NoRule.__init__" jD f fd):⋯ 1 f fd ["self","found"] (f9 bD "found"):=by
 refine F.okX vC (λvs H Q E h=>?_) λc A outer s H vs Q E i h=>?_
 .let⟨p,g,rfl,b,q⟩:=h;rfl
 .let⟨p,g,rfl,b,q⟩:=h;exists _,(ak<|ia (pv 0) (pv 1) J);exact{2,p,bD,Z1,J,b,T.mJ,T.g7,λdx a=>q dx a}
include T in
theorem vN(F:Fun K "__init__" "NoPlan.__init__" jF f fd):⋯ 1 f fd ["self","many"] (f9 aW "many"):=by
 refine F.okX uY (λvs H Q E h=>?_) λc A outer s H vs Q E i h=>?_
 .let⟨p,g,rfl,b,q⟩:=h;rfl
 .let⟨p,g,rfl,b,q⟩:=h;exists _,(ak<|ia (pv 0) (pv 1) J);exact{2,p,aW,Z1,J,b,T.oZ,T.j3,λdx a=>q dx a}
include T in
theorem ur(F:Fun K "__init__" "NoShelf.__init__" i8 f fd):⋯ 1 f fd ["self","shelf"] (f9 aE "shelf"):=by
 refine F.okX ux (λvs H Q E h=>?_) λc A outer s H vs Q E i h=>?_
 .let⟨p,g,rfl,b,q⟩:=h;rfl
 .let⟨p,g,rfl,b,q⟩:=h;exists _,(ak<|ia (pv 0) (pv 1) J);exact{2,p,aE,Z1,J,b,T.nL,T.iP,λdx a=>q dx a}
include T in
theorem KZ(F:Fun K "turned" "turned" yl f fd):⋯ 1 f fd ["number"] (uT):=by refine F.okY Ku ?_;rintro vs H Q E ⟨n,rfl,q⟩;refine{J,λa A outer s b=>{_,(ak<|aT<|aL cD (aL gy (aL Kh (pv 0) aF)<|aL cD (fu (v:=.int 18446744073709551615) J T.m_W {1}) aF)<|aL yE (pv 0)<|iG (n:=144115188075855872)),?_}};exists 1,3,.inr ⟨o4,o4⟩,3,3,o4,1,3,⟨o4,o4⟩,3;exact q
variable(sU:bJ "turned" 1 ["number"] uT)
include T sU in
theorem Ff(F:Fun K "check_of" "check_of" sM f fd):⋯ 2 f fd ["start","day","rows"] (yQ):=by
 refine F.okY gD ?_;rintro vs H Q E ⟨s1,d,a,L,rows,rfl,p,R,a1,q⟩;refine⟨J,λa2 A outer s hr=>⟨_,(aq (psS 3 gD.nd<|dZ<|aa (aL cD (pv 0) aF)<|aa (pv 1) af)
   (aq (gp amO J (PF (dI<|pv 2)<|En<|pv 2) (su J<|dS (pgN 4 gD.nd)<|dS (pgN 5 gD.nd) mY)
   (ak<|bL<|j6 am9 apD apE BN (pv 3)<|aa (dZ<|aa (pv 4)<|aa (pv 5) af) af))
   (aq (psS 6 gD.nd aF)
   (aq (gp amO J (dI<|pv 3) (pgN 7 gD.nd)
   (ak<|psS 6 gD.nd<|aL KQ (pcS sU aO hr<|aa (pv 6) af)<|pv 7))
   (ak<|aT<|pv 6))))),?_⟩⟩
 dsimp only[bq];refine{1,3,1,E4,λm O=>?_};let U:a≠m:=p.elim (λh=>aA h O) λh=>aA h O;rcases p with p|p
 .refine .inl ⟨_,J,a,J,{_,X0.of (by rwa[au U])},fE (K:=K) (a:=a) (xs:=L) (λi σ H2=>∃n j:o9 V,σ=[E2<|↥s1-1,E2 ↥d,E1 a,E1 m,n,j,Z0,Z0]/\ao H H2∧
   H2 m=some (.lst ((s1::d::flat (rows.take i)).map λz:Nat=>V.int ↥z)))
  {Z0,Z0,J,ao.new O,by rw[aj];show some (HO.lst [V.int<|↥s1-1+1,V.int ↥d])=_;rw[aqA];rfl} (λi σ H2 _ x=>by let⟨_,_,_,s2,_⟩:=x;exact X0.of<|s2 a _ p) ?_ ?_⟩
  .rintro i v σ H2 hi ⟨n,j,rfl,s2,h2⟩;let⟨t,r,rfl,c,ht⟩:=R.get i v hi;let a0:i<rows.length:=(amc.mp c).1;exists t,1,X3.of<|s2 t _ ht,J,_,1,3;refine{1,.inl {J,_,X0.of h2},2,E4,λl S=>?_};let u:m≠l:=aA h2 S;let C:H l=Z0:=s2.free S;exists m,l,3,(by rwa[au u]),aj,?_
   .let Y:(flat<|rows.take i).length=2*i:=by rw[CJ,amX];omega
    show _≤Z7;simp only[List.length_map,List.length_cons,Y,List.length_nil];exact amV<|bF o5
   .exists _,1,λb o e=>?_
    .rw[au<|aA e O,au<|aA e C];exact s2 b o e
    .rw[aj];let e:rows.take (i+1)=rows.take i++[r]:=by rw[amJ,c];rfl
     rw[e,Bo];simp
  .rintro σ H2 ⟨n,j,rfl,s2,h2⟩;let h2:H2 m=some (.lst ((s1::d::flat rows).map λz:Nat=>V.int ↥z)):=by rw[h2,R.len,amT]
   refine⟨_,J,m,J,{_,X0.of h2},fE (K:=K) (a:=m) (xs:=(s1::d::flat rows).map λz:Nat=>V.int ↥z) (λi σ g=>∃B:o9 V,σ=[E2<|↥s1-1,E2 ↥d,E1 a,E1 m,n,j,some<|.int ((((s1::d::flat rows).take i).foldl Chk.stp 0:Z5):Z4),B]/\g=H2)
    ⟨Z0,J,J⟩ (λi σ g _ x=>by let⟨_,_,e⟩:=x;exact by rw[e];exact X0.of h2) ?_ ?_⟩
   .rintro i v σ g hi ⟨B,rfl,rfl⟩;rw[amx] at hi;cases y:(s1::d::flat rows)[i]? with
    |none=>rw[y] at hi;cases hi
    |some z=>
     rw[y] at hi;let hi:V.int ↥z=v:=amw hi;subst hi;exists 2,1,3;let e:Builtin.bitXor (tI ((((s1::d::flat rows).take i).foldl Chk.stp 0:Z5):Z4)) ↥z =((((s1::d::flat rows).take (i+1)).foldl Chk.stp 0:Z5):Z4):=by rw[JH,wM,amJ,y];simp only[Option.toList,List.foldl_append,List.foldl_cons,List.foldl_nil];rfl
     exact{some<|V.int ↥z,by rw[←e];rfl,J}
   .rintro σ g ⟨B,rfl,rfl⟩;exists 1;rw[ame,amT];exact q g s2
 .refine .inr ⟨_,J,a,J,{_,X3.of (by rwa[au U])},Ve (K:=K) (a:=a) (xs:=L) (λi σ H2=>∃n j:o9 V,σ=[E2<|↥s1-1,E2 ↥d,E1 a,E1 m,n,j,Z0,Z0]/\ao H H2∧
   H2 m=some (.lst ((s1::d::flat (rows.take i)).map λz:Nat=>V.int ↥z)))
  {Z0,Z0,J,ao.new O,by rw[aj];show some (HO.lst [V.int<|↥s1-1+1,V.int ↥d])=_;rw[aqA];rfl} (λi σ H2 _ x=>by let⟨_,_,_,s2,_⟩:=x;exact X3.of<|s2 a _ p) ?_ ?_⟩
  .rintro i v σ H2 hi ⟨n,j,rfl,s2,h2⟩;let⟨t,r,rfl,c,ht⟩:=R.get i v hi;let a0:i<rows.length:=(amc.mp c).1;exists t,1,X3.of<|s2 t _ ht,J,_,1,3;refine{1,.inl {J,_,X0.of h2},2,E4,λl S=>?_};let u:m≠l:=aA h2 S;let C:H l=Z0:=s2.free S;exists m,l,3,(by rwa[au u]),aj,?_
   .let Y:(flat<|rows.take i).length=2*i:=by rw[CJ,amX];omega
    show _≤Z7;simp only[List.length_map,List.length_cons,Y,List.length_nil];exact amV<|bF o5
   .exists _,1,λb o e=>?_
    .rw[au<|aA e O,au<|aA e C];exact s2 b o e
    .rw[aj];let e:rows.take (i+1)=rows.take i++[r]:=by rw[amJ,c];rfl
     rw[e,Bo];simp
  .rintro σ H2 ⟨n,j,rfl,s2,h2⟩;let h2:H2 m=some (.lst ((s1::d::flat rows).map λz:Nat=>V.int ↥z)):=by rw[h2,R.len,amT]
   refine⟨_,J,m,J,{_,X0.of h2},fE (K:=K) (a:=m) (xs:=(s1::d::flat rows).map λz:Nat=>V.int ↥z) (λi σ g=>∃B:o9 V,σ=[E2<|↥s1-1,E2 ↥d,E1 a,E1 m,n,j,some<|.int ((((s1::d::flat rows).take i).foldl Chk.stp 0:Z5):Z4),B]/\g=H2)
    ⟨Z0,J,J⟩ (λi σ g _ x=>by let⟨_,_,e⟩:=x;exact by rw[e];exact X0.of h2) ?_ ?_⟩
   .rintro i v σ g hi ⟨B,rfl,rfl⟩;rw[amx] at hi;cases y:(s1::d::flat rows)[i]? with
    |none=>rw[y] at hi;cases hi
    |some z=>
     rw[y] at hi;let hi:V.int ↥z=v:=amw hi;subst hi;exists 2,1,3;let e:Builtin.bitXor (tI ((((s1::d::flat rows).take i).foldl Chk.stp 0:Z5):Z4)) ↥z =((((s1::d::flat rows).take (i+1)).foldl Chk.stp 0:Z5):Z4):=by rw[JH,wM,amJ,y];simp only[Option.toList,List.foldl_append,List.foldl_cons,List.foldl_nil];rfl
     exact{some<|V.int ↥z,by rw[←e];rfl,J}
   .rintro σ g ⟨B,rfl,rfl⟩;exists 1;rw[ame,amT];exact q g s2
variable(oM:bJ "check_of" 2 ["start","day","rows"] yQ)
include T oM in
theorem xo(F:Fun K "__init__" "Piece.__init__" j8 f fd):⋯ 3 f fd ["self","start","day","rows","check"] (tL K):=by
 refine F.okY oF ?_;rintro vs H Q E ⟨p,C,dx,a,s1,d,L,rows,cv,c,rfl,hp,cl,n1,n2,n3,n4,hA,R,a0,a4,q⟩;refine⟨J,λa6 A outer s hr=>⟨_,(aq (cI (pv 0) (pv 2) J)
   (aq (cI (pv 0) (bx nV o8 T.AS aou<|aa (rE (N:=["place","block"]) (k:=2) (cap:=[]) J J (PF (dI<|pv 3)<|En<|pv 3) (λ_ _ _ _=>(Gk (K:=K) (n:=2) J J<|dS (pgN 0 (show(["place","block"]:mu Z6).Nodup from by decide +kernel)<|.inr J)<|dS (pgN 1 (show(["place","block"]:mu Z6).Nodup from by decide +kernel)<|.inr J) mY)) (λ_ _ _ _=>kR) λ_ _ _ _=>(aI<|aa (pv 0)<|aa (pv 1) af)) af) J)
   (aq (psS 5 oF.nd<|pcS oM aO hr<|aa (pv 1)<|aa (pv 2)<|aa (bz (pv 0) J) af)
   (aq (cI (pv 0) (pH (aX uI (pv 4) gS<|aY _) (pv 5)<|pv 4) J)
   (ak<|cI (pv 0) (gW dB (bz (pv 0) J) (pv 5)<|aY _) J))))),?_⟩⟩
 dsimp only[bq];let a5:a≠p:=by rcases hA with h|h <;> exact c9 h hp nofun
 exists 2,p,C,dx,1,hp,cl,n1,(by show 0<1000;decide);let a3:Z9 H p (.ins C dx (bO "day" (V.int ↥d) [])) p=some (.ins C dx [("day",V.int ↥d)]):=aj;let k1:bg [p] H (Z9 H p (.ins C dx (bO "day" (V.int ↥d) []))):=eL bg.refl<|.inl o7;generalize Z9 H p (.ins C dx (bO "day" (V.int ↥d) []))=H1 at a3 k1;let y:H1 a=some (.lst L)∨H1 a=some (.tup L):=hA.imp (λh=>k1 a _ h (⇑a5)) λh=>k1 a _ h (⇑a5);let R1:cU H1 L rows:=R.mono λt xs e=>k1 t _ e (by let:=c9 e hp nofun;simpa using this)
 rcases y with y|y
 .refine .inl {1,a,J,{_,X0.of y},λD hD=>?_};refine kM D (K:=K) (a:=a) (xs:=L) (λi σ g ys=>∃v v':o9 V,σ=[v,v']/\ao H1 g/\g D=some (.lst ys)/\cU g ys (rows.take i)) {Z0,Z0,J,ao.new hD,aj,{J,λi v e=>by simp at e}} (λi σ g ys _ z0=>by let⟨_,_,_,s5,_⟩:=z0;exact X0.of<|s5 a _ y) ?_ ?_
  .rintro i x σ g ys hi ⟨v,v',rfl,s5,U,R5⟩;let⟨t,r,rfl,a1,ht⟩:=R1.get i x hi;refine{t,1,X3.of<|s5 t _ ht,J,_,1,3,2,E4,λt2 B=>?_};let nD:D≠t2:=aA U B;exists by rwa[au nD],(by rw[R5.len,amX];exact bF o5),_,1,λb o e=>?_,aj
   .rw[au<|aA e hD];exact ao.new B b _<|s5 b _ e
   .rw[amJ,a1];refine(R5.mono λb xs e=>?_).snoc ?_
    .rw[au<|c9 e U nofun];exact ao.new B b _ e
    .rw[au nD.symm,aj]
  .rintro σ g ys ⟨v,v',rfl,s5,U,R5⟩;rw[show rows.take L.length=rows by rw[R1.len,amT]] at R5;refine{D,1,.inl {X0.of U,λr hr=>?_}};let m:=s5 p _ a3;let Y:p≠r:=aA m hr;exists 1,p,C,dx,1,ao.new hr p _ m,cl,n2,(by show 1<1000;decide);rw[CQ];let j:Z9 (Z9 g r (.tup ys)) p (.ins C dx [("day",V.int ↥d),("rows",V.ref r)]) p=some (.ins C dx [("day",V.int ↥d),("rows",V.ref r)]):=aj;let u:Z9 (Z9 g r (.tup ys)) p (.ins C dx [("day",V.int ↥d),("rows",V.ref r)]) r=some (.tup ys):=by rw[au Y.symm,aj]
   let k6:bg [p] g (Z9 (Z9 g r (.tup ys)) p (.ins C dx [("day",V.int ↥d),("rows",V.ref r)])):=eL (bg.of_same<|ao.new hr)<|.inl o7;let R6:cU (Z9 (Z9 g r (.tup ys)) p (.ins C dx [("day",V.int ↥d),("rows",V.ref r)])) ys rows:=R5.mono λt xs e=>k6 t _ e (by let:=c9 e m nofun;simpa using this)
   generalize Z9 (Z9 g r (.tup ys)) p (.ins C dx [("day",V.int ↥d),("rows",V.ref r)])=H6 at j u k6 R6;let a2:bg [p] H H6:=λb o e O=>k6 b o (s5 b o<|k1 b o e O) O
   let S:r≠p:=Y.symm;refine{2,1,p,C,dx,_,1,j,cl,n2,oU,s1,d,r,ys,rows,J,.inr u,R6,a0,λH7 s7=>?_};let l:Q V.non (Z9 (Z9 H7 p (.ins C dx [("day",V.int ↥d),("rows",V.ref r),("check",V.int c)])) p (.ins C dx (bO "fits" (V.bl (decide (V.int c=V.int ((Chk.chk (s1::d::flat rows):Z5):Z4)))) [("day",V.int ↥d),("rows",V.ref r),("check",V.int c)]))):=by
    rw[Dl,gU,XE];refine q r ys _ aj (by rw[au S];exact s7 r _ u) (R6.mono λt xs e=>?_) λb o e O=>?_
    .rw[au<|c9 e j nofun];exact s7 t _ e
    .rw[au (⇑O)];exact s7 b _<|a2 b o e O
   rcases a4 with⟨rfl,hc⟩|rfl
   .subst hc;exists 1,J,1;refine eO J ?_;exists 2,p,C,dx,1,s7 p _ j,cl,n3,(by show 2<1000;decide);rw[qo];exists 1,p,C,dx,_,1,aj,cl,n3,mK,1,J,1,p,C,dx,1,aj,cl,n4,(by show 3<1000;decide);exact l
   .exists 1,J,1;refine cP (by intro h;cases h) ?_;exists 2,p,C,dx,1,s7 p _ j,cl,n3,(by show 2<1000;decide);rw[qo];exists 1,p,C,dx,_,1,aj,cl,n3,mK,1,J,1,p,C,dx,1,aj,cl,n4,(by show 3<1000;decide);exact l
 .refine .inr {1,a,J,{_,X3.of y},λD hD=>?_};refine DX D (K:=K) (a:=a) (xs:=L) (λi σ g ys=>∃v v':o9 V,σ=[v,v']/\ao H1 g/\g D=some (.lst ys)/\cU g ys (rows.take i)) {Z0,Z0,J,ao.new hD,aj,{J,λi v e=>by simp at e}} (λi σ g ys _ z0=>by let⟨_,_,_,s5,_⟩:=z0;exact X3.of<|s5 a _ y) ?_ ?_
  .rintro i x σ g ys hi ⟨v,v',rfl,s5,U,R5⟩;let⟨t,r,rfl,a1,ht⟩:=R1.get i x hi;refine{t,1,X3.of<|s5 t _ ht,J,_,1,3,2,E4,λt2 B=>?_};let nD:D≠t2:=aA U B;exists by rwa[au nD],(by rw[R5.len,amX];exact bF o5),_,1,λb o e=>?_,aj
   .rw[au<|aA e hD];exact ao.new B b _<|s5 b _ e
   .rw[amJ,a1];refine(R5.mono λb xs e=>?_).snoc ?_
    .rw[au<|c9 e U nofun];exact ao.new B b _ e
    .rw[au nD.symm,aj]
  .rintro σ g ys ⟨v,v',rfl,s5,U,R5⟩;rw[show rows.take L.length=rows by rw[R1.len,amT]] at R5;refine{D,1,.inl {X0.of U,λr hr=>?_}};let m:=s5 p _ a3;let Y:p≠r:=aA m hr;exists 1,p,C,dx,1,ao.new hr p _ m,cl,n2,(by show 1<1000;decide);rw[CQ];let j:Z9 (Z9 g r (.tup ys)) p (.ins C dx [("day",V.int ↥d),("rows",V.ref r)]) p=some (.ins C dx [("day",V.int ↥d),("rows",V.ref r)]):=aj;let u:Z9 (Z9 g r (.tup ys)) p (.ins C dx [("day",V.int ↥d),("rows",V.ref r)]) r=some (.tup ys):=by rw[au Y.symm,aj]
   let k6:bg [p] g (Z9 (Z9 g r (.tup ys)) p (.ins C dx [("day",V.int ↥d),("rows",V.ref r)])):=eL (bg.of_same<|ao.new hr)<|.inl o7;let R6:cU (Z9 (Z9 g r (.tup ys)) p (.ins C dx [("day",V.int ↥d),("rows",V.ref r)])) ys rows:=R5.mono λt xs e=>k6 t _ e (by let:=c9 e m nofun;simpa using this)
   generalize Z9 (Z9 g r (.tup ys)) p (.ins C dx [("day",V.int ↥d),("rows",V.ref r)])=H6 at j u k6 R6;let a2:bg [p] H H6:=λb o e O=>k6 b o (s5 b o<|k1 b o e O) O
   let S:r≠p:=Y.symm;refine{2,1,p,C,dx,_,1,j,cl,n2,oU,s1,d,r,ys,rows,J,.inr u,R6,a0,λH7 s7=>?_};let l:Q V.non (Z9 (Z9 H7 p (.ins C dx [("day",V.int ↥d),("rows",V.ref r),("check",V.int c)])) p (.ins C dx (bO "fits" (V.bl (decide (V.int c=V.int ((Chk.chk (s1::d::flat rows):Z5):Z4)))) [("day",V.int ↥d),("rows",V.ref r),("check",V.int c)]))):=by
    rw[Dl,gU,XE];refine q r ys _ aj (by rw[au S];exact s7 r _ u) (R6.mono λt xs e=>?_) λb o e O=>?_
    .rw[au<|c9 e j nofun];exact s7 t _ e
    .rw[au (⇑O)];exact s7 b _<|a2 b o e O
   rcases a4 with⟨rfl,hc⟩|rfl
   .subst hc;exists 1,J,1;refine eO J ?_;exists 2,p,C,dx,1,s7 p _ j,cl,n3,(by show 2<1000;decide);rw[qo];exists 1,p,C,dx,_,1,aj,cl,n3,mK,1,J,1,p,C,dx,1,aj,cl,n4,(by show 3<1000;decide);exact l
   .exists 1,J,1;refine cP (by intro h;cases h) ?_;exists 2,p,C,dx,1,s7 p _ j,cl,n3,(by show 2<1000;decide);rw[qo];exists 1,p,C,dx,_,1,aj,cl,n3,mK,1,J,1,p,C,dx,1,aj,cl,n4,(by show 3<1000;decide);exact l
variable(cJ:Rw "Piece" cR "__init__" 3 ["self","start","day","rows","check"] (tL K))
include T cJ in
theorem oE{f:nt}{fd:qd}{o:nF}(F:qH K "__init__" "Whole.__init__" eV f fd o):⋯ 4 f fd ["self","day","rows","check"] (mP av aB):=by
 refine F.okX xC (λvs H Q E h=>?_) λn A outer s H vs Q E l h=>?_
 .let⟨p,dx,a,d,L,rows,cv,c,rfl,i,j,R,b,g,q⟩:=h;rfl
 let⟨p,dx,a,d,L,rows,cv,c,rfl,i,j,R,b,g,q⟩:=h;exists _,(ak<|bL<|GP (fu (v:=.ref cR) J T.DR J) cJ aO (l.mono o6)<|aa (pv 0)<|aa (Ct zd aF)<|aa (pv 1)<|aa (pv 2)<|aa (pv 3) af);refine{2,2,1,p,av,dx,a,(0),d,L,rows,cv,c,J,i,T.dW,T.iF,T.i9,T.jY,T.lA,j,R,b,g,λr m H1 h1 h2 h3 k1=>?_};exact q H1 ⟨dx,r,m,h1,h2,h3⟩ k1
include T cJ in
theorem pS{f:nt}{fd:qd}{u:nF}(F:qH K "__init__" "Gain.__init__" fB f fd u):⋯ 4 f fd ["self","base","day","rows","check"] (pL av aB):=by
 refine F.okX yu (λvs H Q E h=>?_) λo A outer s H vs Q E m h=>?_
 .let⟨p,dx,a,b,d,L,rows,cv,c,rfl,j,l,R,g,i,q⟩:=h;rfl
 let⟨p,dx,a,b,d,L,rows,cv,c,rfl,j,l,R,g,i,q⟩:=h;refine⟨_,(aq (bL<|GP (fu (v:=.ref cR) J T.DR J) cJ aO (m.mono o6)<|aa (pv 0)<|aa (pv 1)<|aa (pv 2)<|aa (pv 3)<|aa (pv 4) af)
   (ak<|cI (pv 0) (pv 1) J)),?_⟩
 dsimp only[bq];refine{2,2,1,p,aB,dx,a,b+1,d,L,rows,cv,c,(by rw[show(((b+1:Z5):Z4)-1) =↥b by omega]),j,T.eB,T.mj,T.jO,T.lq,T.nB,l,R,g,i,λr n H1 h1 h2 h3 k1=>?_};exists 2,p,aB,dx,1,h1,T.eB,T.jM,(by show 4<1000;decide);rw[MT];refine q _ {dx,r,n,aj,?_,h3.mono λt xs e=>?_}<|eL k1<|.inl o7
 .rw[au<|c9 h2 h1 nofun];exact h2
 .rw[au<|c9 e h1 nofun];exact e
include T in
theorem Ae(F:Fun K "start" "Whole.start" nX f fd):⋯ 1 f fd ["self"] (uM):=by refine F.okY Ab ?_;rintro vs H Q E ⟨p,rfl,q⟩;refine{J,λa A outer s b=>{_,(ak<|aT<|Ct zd aF),?_}};exact{1,q}
include T in
theorem Ck(F:Fun K "start" "Gain.start" pq f fd):⋯ 1 f fd ["self"] (wG av aB):=by refine F.okY BX ?_;rintro vs H Q E ⟨p,b,d,rows,c,rfl,⟨dx,r,R,h1,h2,h3⟩,q⟩;refine{J,λa A outer s g=>{_,(ak<|aT<|bz (pv 0) J),?_}};dsimp only[bq];exact{1,p,aB,dx,_,1,h1,T.eB,T.jM,F3,q}
include T in
theorem pG(F:Fun K "is_good" "Piece.is_good" lP f fd):⋯ 3 f fd ["self"] (wU av aB):=by
 refine F.okY yf ?_;rintro vs H Q E ⟨p,wh,b,d,rows,c,rfl,h,a,q⟩;refine{J,λg A outer s i=>{_,(ak<|aT<|bz (pv 0) J),?_}};dsimp only[bq];let⟨dx,r,R,h1,h2,h3⟩:=id h;cases wh
 .exact{1,p,aB,dx,_,1,h1,T.eB,T.nB,GL,q H<|ao.refl _}
 .exact{1,p,av,dx,_,1,h1,T.dW,T.lA,GL,q H<|ao.refl _}
include T in
theorem Cf(F:Fun K "kind" "Whole.kind" pM f fd):⋯ 1 f fd ["self"] (ym):=by refine F.okY Cb ?_;rintro vs H Q E ⟨p,rfl,q⟩;refine{J,λa A outer s b=>{_,(ak<|aT aC),?_}};exact q
include T in
theorem Dg(F:Fun K "kind" "Gain.kind" qG f fd):⋯ 1 f fd ["self"] (yF):=by refine F.okY ED ?_;rintro vs H Q E ⟨p,rfl,q⟩;refine{J,λa A outer s b=>{_,(ak<|aT aC),?_}};exact q
variable(wN:jc "Whole" av 4 ["self","day","rows","check"] (mP av aB))
include T wN in
theorem vM(F:Fun K "with_rows" "Whole.with_rows" jG f fd):⋯ 6 f fd ["self","rows"] (zC av aB Z1):=by
 refine F.okY vQ ?_;rintro vs H Q E ⟨p,b,d,rows,c,l,L,a,rfl,u,v,R,h,q⟩;refine{J,λy A outer s n=>{_,(ak<|aT<|g9 wN aO (n.mono o6) J<|aa (bz (pv 0) J)<|aa (pv 1)<|aa (bz (pv 0) J) af),?_}};dsimp only[bq];let m:∀{x dx:nt}{o:HO},H x=Z0->H dx=Z0->∀t o',H t=some o'->Z9 (Z9 H dx (.own x)) x o t=some o':=λg hd t o' e=>by rw[au<|aA e g,au<|aA e hd];exact e
 let⟨dx,r,z,h1,h2,h3⟩:=id u;exact{1,p,av,dx,_,1,h1,T.dW,T.iF,rR,2,p,av,dx,_,1,h1,T.dW,T.jY,mK,λx i g hd B=>{x,i,l,d,L,a,.int c,c,J,aj,.inl<|m g hd l _ v,R.mono λt xs e=>m g hd t _ e,h,.inr J,λH1 j k1=>{J,q x H1 (PAt.of0 j) g<|cA g hd k1}}}
variable(yW:jc "Gain" aB 4 ["self","base","day","rows","check"] (pL av aB))
include T yW in
theorem xq(F:Fun K "with_rows" "Gain.with_rows" ki f fd):⋯ 6 f fd ["self","rows"] (zC av aB Z2):=by
 refine F.okY xr ?_;rintro vs H Q E ⟨p,b,d,rows,c,l,L,a,rfl,u,v,R,h,q⟩;refine{J,λy A outer s n=>{_,(ak<|aT<|g9 yW aO (n.mono o6) J<|aa (bz (pv 0) J)<|aa (bz (pv 0) J)<|aa (pv 1)<|aa (bz (pv 0) J) af),?_}};dsimp only[bq];let m:∀{x dx:nt}{o:HO},H x=Z0->H dx=Z0->∀t o',H t=some o'->Z9 (Z9 H dx (.own x)) x o t=some o':=λg hd t o' e=>by rw[au<|aA e g,au<|aA e hd];exact e
 let⟨dx,r,z,h1,h2,h3⟩:=id u;exact{1,p,aB,dx,_,1,h1,T.eB,T.jM,F3,1,p,aB,dx,_,1,h1,T.eB,T.mj,rR,2,p,aB,dx,_,1,h1,T.eB,T.lq,mK,λx i g hd B=>{x,i,l,b,d,L,a,.int c,c,J,aj,.inl<|m g hd l _ v,R.mono λt xs e=>m g hd t _ e,h,.inr J,λH1 j k1=>{J,q x H1 j g<|cA g hd k1}}}
variable(g8:oO "NoPlace" aK 1 ["self","place"] (f9 aK "place"))
variable(fR:bM aB "with_rows" 6 ["self","rows"] (zC av aB Z2))
variable(fK:bM av "with_rows" 6 ["self","rows"] (zC av aB Z1))
include T g8 fR fK in
theorem ql(F:Fun K "harmed" "Piece.harmed" mT f fd):⋯ 7 f fd ["self","at","bits"] (wQ av aB aK):=by
 refine F.okY mE ?_;rintro vs H Q E ⟨p,wh,b,d,rows,c,y,bt,rfl,hP,z,q1,Y⟩;refine⟨J,λa2 A outer s hr=>⟨_,(aq (bU (PW.pt<|pw_or (aX j4 (pv 1) aF<|aY _)<|pw_or1<|aX zl (pv 1) (bQ bP o8 T.fC amH<|aa (bz (pv 0) J) af)<|aY _) (ak<|dD J eU<|fT g8 (hr.mono o6) J<|aa (pv 1) af) bH)
   (aq (psS 3 mE.nd<|bx pZ o8 T.zS aoC<|aa (bz (pv 0) J) af)
   (aq (psS 4 mE.nd<|bG bw (pv 3) (pv 1) λ_ _=>rfl)
   (aq (DV (aI<|aa (bG lW (pv 4) aF λ_ _=>rfl)<|aa (aL KQ (bG lW (pv 4) aF λ_ _=>rfl)<|pv 2) af)<|DU (pv 3) (pv 1) set_list)
   (ak<|aT<|rO (aZ (pv 0) T.dW fK aO (hr.mono o6)<|aa (pv 3) af)<|aZ (pv 0) T.eB fR aO (hr.mono o6)<|aa (pv 3) af))))),?_⟩⟩
 dsimp only[bq];let⟨dx,r,g,h1,h2,h3⟩:=id hP;cases wh
 .exists 1,3,1;by_cases S:y<0
  .refine eO S ?_;refine iz ?_;exact{1,dH (E:=E) T.gA λe H' he hs=>Y o5 e H' he hs}
  refine cP S ?_;exists 2,p,aB,dx,_,1,h1,T.eB,T.jO,oU,r,g,J,.inr<|X3.of h2,3,1;by_cases x:y≥↥g.length
  .refine eO x ?_;rw[h3.len] at x;exact{1,dH (E:=E) T.gA λe H' he hs=>Y o5 e H' he hs}
  refine cP x ?_;rw[h3.len] at x;obtain⟨i,rfl⟩:∃i:Z5,y =↥i:=⟨y.toNat,o5⟩;let hi:i<rows.length:=by omega
  obtain⟨v,U⟩:∃v,g[i]?=some v:={_,amg (by rwa[h3.len])};let⟨t,a,rfl,L,ht⟩:=h3.get i v U;refine{1,p,aB,dx,_,1,h1,T.eB,T.jO,oU,r,g,J,.inr<|X3.of h2,λl O=>?_};let s1:ao H (Z9 H l (.lst g)):=ao.new O;let h:Z9 H l (.lst g) l=some (.lst g):=aj;generalize Z9 H l (.lst g)=H1 at s1 h;exists 2,l,_,_,V.ref t,J,J,X0.of h,br U;let q:=s1 t _ ht;refine{1,t,_,_,V.int ↥a.1,J,J,X3.of q,br (j:=0) J,1,t,_,_,V.int ↥a.2,J,J,X3.of q,br (j:=1) J,1,3,E4,λt2 m=>?_};let B:l≠t2:=aA h m;exists 2,l,_,_,i,J,J,ao.new m l _ h,?_
  .unfold ixN;rw[ama o5,ama (by rw[h3.len];omega)];simp
  let ex:ir rows i bt=rows.set i (a.1,a.2 ^^^ bt):=Bg L;let u:Z9 (Z9 H1 t2 (.tup [V.int ↥a.1,V.int (Builtin.bitXor ↥a.2 ↥bt)])) l (.lst (g.set i (V.ref t2))) l=some (.lst (g.set i (V.ref t2))):=aj;let s3:ao H (Z9 (Z9 H1 t2 (.tup [V.int ↥a.1,V.int (Builtin.bitXor ↥a.2 ↥bt)])) l (.lst (g.set i (V.ref t2)))):=λb o e=>by rw[au<|aA e O];exact ao.new m b _<|s1 b _ e
  let n:Z9 (Z9 H1 t2 (.tup [V.int ↥a.1,V.int (Builtin.bitXor ↥a.2 ↥bt)])) l (.lst (g.set i (V.ref t2))) t2=some (.tup [V.int ↥a.1,V.int ((a.2 ^^^ bt:Z5):Z4)]):=by rw[au B.symm,aj,wM]
  generalize Z9 (Z9 H1 t2 (.tup [V.int ↥a.1,V.int (Builtin.bitXor ↥a.2 ↥bt)])) l (.lst (g.set i (V.ref t2)))=H3 at u s3 n;let R3:cU H3 (g.set i (V.ref t2)) (ir rows i bt):=by rw[ex];exact CF (h3.mono λt xs e=>s3 t _ e) n
  let h1:=s3 _ _ h1;refine .inr {1,p,dx,1,h1,lZ (wh:=Z2) d7 d7 d7 d7,1,p,b,d,rows,c,l,_,ir rows i bt,J,hP.keep s3,u,R3,by rwa[vO],λp2 H4 C hn s4=>?_};exact q1 i J hi p2 H4 C (s3.free hn)<|s3.trans s4
 .exists 1,3,1;by_cases S:y<0
  .refine eO S ?_;refine iz ?_;exact{1,dH (E:=E) T.gA λe H' he hs=>Y o5 e H' he hs}
  refine cP S ?_;exists 2,p,av,dx,_,1,h1,T.dW,T.i9,oU,r,g,J,.inr<|X3.of h2,3,1;by_cases x:y≥↥g.length
  .refine eO x ?_;rw[h3.len] at x;exact{1,dH (E:=E) T.gA λe H' he hs=>Y o5 e H' he hs}
  refine cP x ?_;rw[h3.len] at x;obtain⟨i,rfl⟩:∃i:Z5,y =↥i:=⟨y.toNat,o5⟩;let hi:i<rows.length:=by omega
  obtain⟨v,U⟩:∃v,g[i]?=some v:={_,amg (by rwa[h3.len])};let⟨t,a,rfl,L,ht⟩:=h3.get i v U;refine{1,p,av,dx,_,1,h1,T.dW,T.i9,oU,r,g,J,.inr<|X3.of h2,λl O=>?_};let s1:ao H (Z9 H l (.lst g)):=ao.new O;let h:Z9 H l (.lst g) l=some (.lst g):=aj;generalize Z9 H l (.lst g)=H1 at s1 h;exists 2,l,_,_,V.ref t,J,J,X0.of h,br U;let q:=s1 t _ ht;refine{1,t,_,_,V.int ↥a.1,J,J,X3.of q,br (j:=0) J,1,t,_,_,V.int ↥a.2,J,J,X3.of q,br (j:=1) J,1,3,E4,λt2 m=>?_};let B:l≠t2:=aA h m;exists 2,l,_,_,i,J,J,ao.new m l _ h,?_
  .unfold ixN;rw[ama o5,ama (by rw[h3.len];omega)];simp
  let ex:ir rows i bt=rows.set i (a.1,a.2 ^^^ bt):=Bg L;let u:Z9 (Z9 H1 t2 (.tup [V.int ↥a.1,V.int (Builtin.bitXor ↥a.2 ↥bt)])) l (.lst (g.set i (V.ref t2))) l=some (.lst (g.set i (V.ref t2))):=aj;let s3:ao H (Z9 (Z9 H1 t2 (.tup [V.int ↥a.1,V.int (Builtin.bitXor ↥a.2 ↥bt)])) l (.lst (g.set i (V.ref t2)))):=λb o e=>by rw[au<|aA e O];exact ao.new m b _<|s1 b _ e
  let n:Z9 (Z9 H1 t2 (.tup [V.int ↥a.1,V.int (Builtin.bitXor ↥a.2 ↥bt)])) l (.lst (g.set i (V.ref t2))) t2=some (.tup [V.int ↥a.1,V.int ((a.2 ^^^ bt:Z5):Z4)]):=by rw[au B.symm,aj,wM]
  generalize Z9 (Z9 H1 t2 (.tup [V.int ↥a.1,V.int (Builtin.bitXor ↥a.2 ↥bt)])) l (.lst (g.set i (V.ref t2)))=H3 at u s3 n;let R3:cU H3 (g.set i (V.ref t2)) (ir rows i bt):=by rw[ex];exact CF (h3.mono λt xs e=>s3 t _ e) n
  let h1:=s3 _ _ h1;refine .inl {1,p,dx,1,h1,lZ (wh:=Z1) d7 d7 d7 d7,1,p,b,d,rows,c,l,_,ir rows i bt,J,hP.keep s3,u,R3,by rwa[vO],λp2 H4 C hn s4=>?_};exact q1 i J hi p2 H4 C (s3.free hn)<|s3.trans s4
include T in
theorem xD(F:Fun K "__init__" "Shelf.__init__" kr f fd):⋯ 1 f fd ["self"] (yi ay):=by
 refine F.okY xy ?_;rintro vs H Q E ⟨p,dx,rfl,b,q⟩;refine⟨J,λc A outer s g=>⟨_,(aq (cI (pv 0) tK J)
   (ak<|cI (pv 0) aF J)),?_⟩⟩
 dsimp only[bq];refine λd hd=>?_
 let a:p≠d:=aA b hd;exists 1,p,ay,dx,1,ao.new hd p _ b,T.cF,T.dG,(by show 0<1000;decide);exists 1,p,ay,dx,1,aj,T.cF,T.dY,(by show 1<1000;decide);rw[gU,show bO "pieces" (V.ref d) [] =([("pieces",V.ref d)]:mu (Z6×V)) from J,ER];refine q d _ {dx,aj,by rw[au a.symm,aj]} hd ?_;exact eL (bg.of_same<|ao.new hd)<|.inl o7
include T in
theorem DH(F:Fun K "lay" "Shelf.lay" qO f fd):⋯ 1 f fd ["self","number","piece"] (EK ay):=by
 refine F.okY Dr ?_;rintro vs H Q E ⟨p,d,fl,X5,n,a,rfl,⟨dx,h1,h2⟩,g,q⟩;refine⟨J,λi A outer s h=>⟨_,(aq (AA (sG h) (bz (pv 0) J) (pv 1) (pv 2) J)
   (ak<|cI (pv 0) (bQ (Bw J) o8 T.zR aoJ<|aa (bz (pv 0) J)<|aa (aL cD (pv 1) aF) af) J)),?_⟩⟩
 dsimp only[bq];let c:p≠d:=c9 h1 h2 nofun;exists 2,p,ay,dx,_,1,h1,T.cF,T.dG,nM,1,d,1,yc.k (k:=Sum.inl n) h2<|bF o5;let b:Z9 H d (.dK (putK X5 (Sum.inl n) (V.ref a))) p=some (.ins ay dx (sfs d fl)):=by rwa[au c]
 exists 1,p,ay,dx,_,1,b,T.cF,T.dY,sZ
 repeat (first|refine{1,?_}|refine{3,?_}|refine{(by first|decide|(dsimp only;decide)|(show 2≤Z7;decide)|(show 1≤Z7;decide)|(show 3≤Z7;decide)|(show 4≤Z7;decide)),?_}|refine{.inl ⟨o4,o4⟩,?_}|refine{.inr ⟨o4,o4⟩,?_}|refine{⟨o4,o4⟩,?_}|refine{3,o4,?_}|refine{3,.inl ⟨o4,o4⟩,?_}|refine{3,.inr ⟨o4,o4⟩,?_}|refine{3,⟨o4,o4⟩,?_}|refine{J,?_}|exists _,1)
 exists p,ay,dx,1,b,T.cF,T.dY,(by show 2<1000;decide);rw[EJ];refine q _ {dx,aj,by rw[au c.symm,aj]} ?_;exact eL (eL bg.refl<|.inl o7)<|.inl o7
variable(gH:bM ay "lay" 1 ["self","number","piece"] (EK ay))
include T gH in
theorem D7(F:Fun K "put" "Shelf.put" rm f fd):⋯ 2 f fd ["self","piece"] (Ea ay):=by
 refine F.okY uZ ?_;rintro vs H Q E ⟨p,d,fl,X5,a,rfl,⟨dx,h1,h2⟩,b,q⟩;refine⟨J,λh A outer s g=>⟨_,(aq (psS 2 uZ.nd<|bz (pv 0) J)
   (aq (bL<|aZ (pv 0) T.cF gH aO (g.mono o6)<|aa (pv 2)<|aa (pv 1) af)
   (ak<|aT<|pv 2))),?_⟩⟩
 dsimp only[bq];exists 1,p,ay,dx,_,1,h1,T.cF,T.dY,sZ;refine{1,p,dx,1,h1,jb d7 d7,2,p,d,fl,X5,fl,a,J,⟨dx,h1,h2⟩,b,λH1 c k1=>?_};rw[ama o5] at c;exact{1,q H1 c k1}
variable(qp:oO "NoPiece" aN 1 ["self","number"] (f9 aN "number"))
include T qp in
theorem Aj(F:Fun K "piece" "Shelf.piece" nR f fd):⋯ 3 f fd ["self","number"] (yx ay aN):=by
 refine F.okY An ?_;rintro vs H Q E ⟨p,d,fl,X5,n,rfl,⟨dx,h1,h2⟩,q1,g⟩;refine⟨J,λc A outer s b=>⟨_,(aq (bU (Lz<|A9 (sG b) (pv 1)<|bz (pv 0) J) (ak<|dD J eU<|fT qp (b.mono o6) J<|aa (pv 1) af) bH)
   (ak<|aT<|VC (sG b) (bz (pv 0) J) (pv 1) λ_ _=>rfl)),?_⟩⟩
 dsimp only[bq];exists 2,p,ay,dx,_,1,h1,T.cF,T.dG,nM,d,1,qe.k (k:=Sum.inl n) h2,1;cases a:bu X5 (Sum.inl n) with
 |none=>refine iz ?_;exact{1,dH (E:=E) T.qw λe H' he hs=>g a e H' he hs}
 |some v=>refine iK ?_;exact{1,p,ay,dx,_,1,h1,T.cF,T.dG,nM,1,d,v,J,a ▸ qe.k (k:=Sum.inl n) h2,q1 v a}
include T in
theorem yq(F:Fun K "numbers" "Shelf.numbers" lu f fd):⋯ 1 f fd ["self"] (sO ay):=by refine F.okY xY ?_;rintro vs H Q E ⟨p,d,fl,X5,ns,rfl,⟨dx,h1,h2⟩,b,i,q⟩;refine{J,λh A outer s j=>{_,(ak<|aT<|bQ (vn J) o8 T.yN apF<|aa (bz (pv 0) J) af),?_}};dsimp only[bq];exact{1,p,ay,dx,_,1,h1,T.cF,T.dG,nM,d,X5,ns,J,h2,b,o5,λl a g c hs=>q l a g c hs}
include T in
theorem vH(F:Fun K "following" "Shelf.following" jI f fd):⋯ 1 f fd ["self"] (pW ay):=by refine F.okY vI ?_;rintro vs H Q E ⟨p,d,fl,X5,rfl,⟨dx,h1,h2⟩,q⟩;refine{J,λa A outer s b=>{_,(ak<|aT<|bz (pv 0) J),?_}};dsimp only[bq];exact{1,p,ay,dx,_,1,h1,T.cF,T.dY,sZ,q}
variable(iR:bM ay "numbers" 1 ["self"] (sO ay))
variable(cW:bM ay "piece" 3 ["self","number"] (yx ay aN))
variable(eN:bM aB "is_good" 3 ["self"] (wU av aB))
variable(dX:bM av "is_good" 3 ["self"] (wU av aB))
variable(lz:bM aB "start" 1 ["self"] (wG av aB))
variable(jW:bM av "start" 1 ["self"] uM)
include T iR cW eN dX lz jW in
theorem uC(F:Fun K "numbers_by_start" "numbers_by_start" je f fd):⋯ 4 f fd ["shelf","good"] (Ds ay av aB):=by
 refine F.okY fZ ?_;rintro vs H Q E ⟨p,d,fl,X5,M,gd,rfl,hG,al,q⟩;refine⟨J,λac A outer s hr=>⟨_,(aq (psS 2 fZ.nd tK)
   (aq (gp amO J (dI<|cT (pv 0) T.cF iR aO<|hr.mono o6) (pgN 3 fZ.nd)
   (aq (psS 4 fZ.nd<|aZ (pv 0) T.cF cW aV (hr.mono o6)<|aa (pv 3) af)
   (ak<|bU (PW.pt<|pw_or (rJ<|nC<|pv 1)<|pw_or1<|nC<|rO (cT (pv 4) T.dW dX aO<|hr.mono o6)<|cT (pv 4) T.eB eN aO<|hr.mono o6) (ak<|bL<|j6 am9 ans ant iU (MP (pv 2) (rO (cT (pv 4) T.dW jW aO<|hr.mono o6)<|cT (pv 4) T.eB lz aO<|hr.mono o6) (dZ af) ⟨J,J,J,J⟩)<|aa (pv 3) af) bH)))
   (ak<|aT<|pv 2))),?_⟩⟩
 dsimp only[bq];intro st U;refine bf [E1 p,some<|.bl gd,E1 st,Z0,Z0] ?_;let s1:ao H (Z9 H st (.dK [])):=ao.new U;let L:Z9 H st (.dK []) st=some (.dK []):=aj;generalize Z9 H st (.dK [])=H1 at s1 L ⊢;dsimp only;let⟨ns,z⟩:=wX hG.gc;let ae:X5.length=ns.length:=by let:=congrArg List.length z;simpa using this
 let a5:=hG.keep s1;let⟨dx,h1,h2⟩:=id a5.sh;refine{1,p,dx,1,h1,jb d7 d7,p,d,fl,X5,ns,J,a5.sh,z,o5,λnl h a7 hp hs=>?_};let s2:ao H1 (Z9 H1 nl (.lst (h.map Z8))):=ao.new a7;let m:Z9 H1 nl (.lst (h.map Z8)) nl=some (.lst (h.map Z8)):=aj;generalize Z9 H1 nl (.lst (h.map Z8))=H2 at s2 m ⊢;let a1:h.length≤62:=by rw[hp.length_eq];omega
 refine{nl,J,{_,X0.of m},fE (K:=K) (a:=nl) (xs:=h.map Z8) (λi σ H'=>∃(v3 v4:o9 V)(sk:mu (Key×V)),σ=[E1 p,some<|.bl gd,E1 st,v3,v4]/\NbI H H' nl st sk M gd h i) {Z0,Z0,[],J,{s1.trans s2,m,s2 _ _ L,U,amd _,⟨λx=>.inr ⟨J,J⟩⟩,λs l e=>(by cases e),λs s' l e=>(by cases e)}} (λi σ H' _ z0=>by let⟨_,_,_,_,N⟩:=z0;exact X0.of N.lst) ?_ ?_}
 .rintro i v σ H3 hi ⟨v3,v4,sk,rfl,N⟩;rw[amx] at hi;let⟨n,Y,rfl⟩:=ami.mp hi;let ag:=(amc.mp Y).1;let am:=N.len;refine bf [E1 p,some<|.bl gd,E1 st,E2 n,v4] ?_;let a4:=hG.keep N.same;let⟨a9,h13,ai⟩:=id a4.sh;dsimp only;refine{1,p,a9,1,h13,jb d7 d7,1,p,d,fl,X5,n,J,a4.sh,λv hv=>?_,λhv=>?_}
  case refine_2=>
   let:=(hG.has z n).mp<|hp.mem_iff.mp<|aml Y;cases y:M n with
   |none=>rw[y] at this;cases this
   |some x=>let⟨s',d',g'⟩:=x;let⟨v',a8,_⟩:=hG.sr.got y;rw[a8] at hv;cases hv
  let⟨s',d',g,y,a,wh,b,dd,rows,c,rfl,hP,j,rfl,rfl,hg⟩:=a4.sr.has hv;refine bf [E1 p,some<|.bl gd,E1 st,E2 n,E1 a] ?_;dsimp only;let⟨B,r,Rr,g1,g2,g3⟩:=id hP;refine AW (g||!gd) (λH'=>ao H3 H') (λQb hq=>?_) (λhb O s4=>?_) λhb O s4=>?_
  .exists 2;cases gd with
   |false=>exact iz<|⇑(hq H3<|ao.refl _)
   |true=>
    refine iK ?_;rw[show(g||!Z1)=g by simp] at hq;cases wh
    .exact .inr {1,a,B,1,g1,lZ (wh:=Z2) d7 d7 d7 d7,a,Z2,b,dd,rows,c,J,hP,j,λO s4=>{1,by rw[←hg];exact hq O s4}}
    .exact .inl {1,a,B,1,g1,lZ (wh:=Z1) d7 d7 d7 d7,a,Z1,b,dd,rows,c,J,hP,j,λO s4=>{1,by rw[←hg];exact hq O s4}}
  .let ho:okG gd g:=by unfold okG;cases g <;> cases gd <;> simp_all
   let C:=N.keep s4;let ab:=hP.keep s4;let a6:=s4 _ _ g1;let go:∀x,O x=Z0->∀sv:Z4,sv =((stN wh b:Z5):Z4)-1->True:=λ_ _ _ _=>trivial
   cases wh
   .let es:((stN Z2 b:Z5):Z4)-1 =↥b:=by show(((b+1:Z5):Z4)-1)=_;omega
    rw[es] at y;refine{1,st,J,.inl {sk,.inl C.dct},.inr {1,a,B,1,a6,lZ (wh:=Z2) d7 d7 d7 d7,a,b,dd,rows,c,J,ab,amE _,λe he=>?_}};let N5:=C.keep<|ao.new he (o:=.lst []);refine{sk,Sum.inl ↥b,N5.dct,J,bF o5,λw' hw=>?_,λa2=>?_}
    .let⟨l,xs,rfl,u,a3,S⟩:=N5.old Y y ho hw a1;exact{.inl {J,_,X0.of u},1,l,3,u,bF<|amV a3,_,_,1,S}
    .let S:=C.new Y y ho a2 he;let a0:st≠e:=aA C.dct he;let t:Z9 (Z9 O e (.lst [])) st (.dK (putK sk (Sum.inl ↥b) (.ref e))) e=some (.lst []):=by rw[au a0.symm,aj]
     exact{.inl {J,_,X0.of t},1,e,3,t,o6,_,_,1,S}
   .let es:((stN Z1 b:Z5):Z4)-1 = -1:=rfl;rw[es] at y;refine{1,st,J,.inl {sk,.inl C.dct},.inl {1,a,B,1,a6,lZ (wh:=Z1) d7 d7 d7 d7,a,J,amE _,λe he=>?_}};let N5:=C.keep<|ao.new he (o:=.lst []);refine{sk,Sum.inl (-1:Z4),N5.dct,J,bF o5,λw' hw=>?_,λa2=>?_}
    .let⟨l,xs,rfl,u,a3,S⟩:=N5.old Y y ho hw a1;exact{.inl {J,_,X0.of u},1,l,3,u,bF<|amV a3,_,_,1,S}
    .let S:=C.new Y y ho a2 he;let a0:st≠e:=aA C.dct he;let t:Z9 (Z9 O e (.lst [])) st (.dK (putK sk (Sum.inl (-1:Z4)) (.ref e))) e=some (.lst []):=by rw[au a0.symm,aj]
     exact{.inl {J,_,X0.of t},1,e,3,t,o6,_,_,1,S}
  .let ho:¬okG gd g:=by unfold okG;cases g <;> cases gd <;> simp_all
   exact{_,_,sk,J,(N.keep s4).skip Y y ho}
 .rintro σ H3 ⟨v3,v4,sk,rfl,N⟩;let hv:=N.val;rw[ame,amT] at hv;exact{1,q st sk h H3 N.dct hv (λn=>hp.mem_iff.trans<|hG.has z n) a1 U N.same}
variable(gn:bJ "numbers_by_start" 4 ["shelf","good"] (Ds ay av aB))
include T cW gn in
theorem A4(F:Fun K "last_pieces" "last_pieces" om f fd):⋯ 5 f fd ["shelf","good"] (yD ay av aB):=by
 refine F.okY c5 ?_;rintro vs H Q E ⟨p,d,fl,X5,M,gd,rfl,hG,cd,q⟩;refine⟨J,λcn A outer s hr=>⟨_,(aq (psS 2 c5.nd<|pcS gn aO hr<|aa (pv 0)<|aa (pv 1) af)
   (aq (psS 3 c5.nd tK)
   (aq (psS 4 c5.nd<|dZ<|aa (Ct zd aF) af)
   (aq (Nn amO (aX tO (bQ bP o8 T.fC amH<|aa (pv 4) af) aF<|aY _) (aq (psS 5 c5.nd<|dZ af)
   (aq (gp amO J (dI<|pv 4) (pgN 6 c5.nd)
   (ak (gp amO J (dI<|Nc (sG hr) (pv 2) (pv 6) (dZ af) ⟨J,J,J,J⟩) (pgN 7 c5.nd)
   (aq (psS 8 c5.nd<|bz (aZ (pv 0) T.cF cW aV (hr.mono o6)<|aa (pv 7) af) J)
   (ak (bU (Lz<|A9 (sG hr) (pv 8)<|pv 3) (aq (AA (sG hr) (pv 3) (pv 8) (pv 7) J)
   (ak<|bL<|j6 am9 ans ant iU (pv 5)<|aa (pv 8) af)) bH))))))
   (ak<|psS 4 c5.nd<|pv 5))))
   (ak<|aT<|pv 3))))),?_⟩⟩
 dsimp only[bq];refine{2,p,d,fl,X5,M,gd,J,hG,cd,λst sk ns H1 bi S bv cq cw s1=>?_};refine bf [E1 p,some<|.bl gd,E1 st,Z0,Z0,Z0,Z0,Z0,Z0] ?_;dsimp only;intro ld am;refine bf [E1 p,some<|.bl gd,E1 st,E1 ld,Z0,Z0,Z0,Z0,Z0] ?_;let s2:ao H1 (Z9 H1 ld (.dK [])):=ao.new am;let a9:Z9 H1 ld (.dK []) ld=some (.dK []):=aj;generalize Z9 H1 ld (.dK [])=H2 at s2 a9 ⊢;dsimp only;refine{1,(by show 1≤Z7;decide),λa2 a7=>?_};refine bf [E1 p,some<|.bl gd,E1 st,E1 ld,E1 a2,Z0,Z0,Z0,Z0] ?_;let s3:ao H2 (Z9 H2 a2 (.lst [V.int (-1)])):=ao.new a7;let O:Z9 H2 a2 (.lst [V.int (-1)]) a2=some (.lst (([-1]:mu Z4).map Z8)):=aj;let bh:H1 a2=Z0:=s2.free a7;generalize Z9 H2 a2 (.lst [V.int (-1)])=H3 at s3 O ⊢;dsimp only;let ag:∀s n,n∈ns.filter (fM M gd s)↔fM M gd s n=Z1:=λs n=>by rw[apI];exact{λh=>h.2,λh=>{(bv n).mpr (by let⟨d',g',e,_⟩:=pe.mp h;rw[e];rfl),h}}
 let c2:=hG.keep s1;let a6:∀{lk:mu (Key×V)}{t:Z5},jm lk M gd t->lk.length≤X5.length:=λ{lk t}h=>jm.len (Z:=λ_=>True) (gd:=gd) hG h.nd h.gc λd v e=>let ⟨n,s,g,k,_,hm,_⟩:=h.eK d v e;⟨n,s,g,hm⟩
 let aR:∀{lk:mu (Key×V)}{t:Z5}{fs:mu Z4}{Dn:Z4->Z3},Mid lk M gd t fs Dn->lk.length≤X5.length:=λ{lk t fs Dn}h=>jm.len (Z:=λ_=>True) (gd:=gd) hG h.nd h.gc λd v e=>let ⟨n,s,g,k,_,hm,_⟩:=h.eK d v e;⟨n,s,g,hm⟩
 refine oq (λσ H'=>∃(v4 v5 v6 v7 U:o9 V)(lk:mu (Key×V)),σ=[E1 p,some<|.bl gd,E1 st,E1 ld,v4,v5,v6,v7,U]/\ao H1 H'/\H' ld=some (.dK lk)/\pF lk M gd/\lk.length≤X5.length) (λN hN=>?_) ?_
 .exists λm σ H'=>∃(ma:nt)(v5 v6 v7 U:o9 V)(lk:mu (Key×V))(ms:mu Z4)(t:Z5),σ=[E1 p,some<|.bl gd,E1 st,E1 ld,E1 ma,v5,v6,v7,U]/\ao H1 H'/\H' ld=some (.dK lk)/\H' ma=some (.lst<|ms.map Z8)/\ms.length≤X5.length+1/\jm lk M gd t/\(∀d,d∈ms↔Lev M gd d t)/\m=X5.length-lk.length +(if ms=[] then 0 else 1),{_,a2,Z0,Z0,Z0,Z0,[],[-1],(0),J,s2.trans s3,s3 _ _ a9,O,o7,jm.nil,λd=>?_,J}
  .rw[amr];exact{λh=>by rw[h];exact Lev.zero,λh=>Rk.Jd h.1}
  clear O bh s3 H3 a7 a9 s2 H2 a2;rintro m σ H3 ⟨ma,v5,v6,v7,U,lk,ms,t,rfl,s3,a3,O,co,LP,al,rfl⟩;exists 1,ma,1,.inl<|X0.of O,3,1;by_cases an:ms=[]
  .subst an;refine cP (by show ¬(((([]:mu Z4).map Z8).length:Z5):Z4)>0;decide) ?_;exact hN _ _ {_,_,_,_,_,lk,J,s3,a3,LP.end_ λd hd=>(by cases (al d).mpr hd),a6 LP}
  let cl:0<ms.length:=aqj.mpr an;refine eO (by show(((ms.map Z8).length:Z5):Z4)>0;rw[ame];omega) ?_;exists _,λcp H' h=>h;rw[al8 an];refine{amE _,λfa ae=>?_};refine bf [E1 p,some<|.bl gd,E1 st,E1 ld,E1 ma,E1 fa,v6,v7,U] ?_;let s4:ao H3 (Z9 H3 fa (.lst [])):=ao.new ae;let Y:Z9 H3 fa (.lst []) fa=some (.lst (([]:mu Z4).map Z8)):=aj;let bd:H1 fa=Z0:=s3.free ae;let ch:fa≠ma:=(aA O ae).symm;generalize Z9 H3 fa (.lst [])=H4 at s4 Y ⊢;dsimp only;let aS:ld≠fa:=aA a3 ae;refine oq (λσ H'=>∃(v6 v7 U:o9 V)(u:mu (Key×V))(fs:mu Z4),σ=[E1 p,some<|.bl gd,E1 st,E1 ld,E1 ma,E1 fa,v6,v7,U]/\ao H1 H'/\H' ld=some (.dK u)/\H' fa=some (.lst<|fs.map Z8)/\u.length=lk.length+fs.length/\jm u M gd (t+1)/\(∀d,d∈fs↔Lev M gd d (t+1))) (λN2 bp=>?_) ?_
  .refine{1,ma,J,{_,X0.of<|s4 _ _ O},fE (K:=K) (a:=ma) (xs:=ms.map Z8) (λi σ H'=>∃(v6 v7 U:o9 V)(u:mu (Key×V))(fs:mu Z4),σ=[E1 p,some<|.bl gd,E1 st,E1 ld,E1 ma,E1 fa,v6,v7,U]/\ao H1 H'/\H' ma=some (.lst<|ms.map Z8)/\H' ld=some (.dK u)/\H' fa=some (.lst<|fs.map Z8)/\u.length=lk.length+fs.length/\Mid u M gd t fs (λn=>∃ s∈ms.take i,fM M gd s n=Z1)) {v6,v7,U,lk,[],J,s3.trans s4,s4 _ _ O,s4 _ _ a3,Y,J,(Mid.start LP).mono λ n ⟨s,hs,_⟩=>(by simp at hs)} (λi σ H' _ z0=>by let⟨_,_,_,_,_,_,_,h,_⟩:=z0;exact X0.of h) ?_ ?_}
   .clear Y s4 H4 v6 v7 U;rintro i v σ H4 hi ⟨v6,v7,U,u,fs,rfl,s4,ai,a8,Y,B,MI⟩;rw[amx] at hi;let⟨s0,bm,rfl⟩:=ami.mp hi;let bj:Lev M gd s0 t:=(al s0).mp<|aml bm;let tk:∀s',s'∈ms.take (i+1)->s'∈ms.take i∨s'=s0:=λs' h=>by rw[amJ,bm] at h;exact(amy.mp h).imp id λh=>amr.mp h
    refine bf [E1 p,some<|.bl gd,E1 st,E1 ld,E1 ma,E1 fa,E2 s0,v7,U] ?_;dsimp only;refine{1,st,J,.inl {sk,.inl<|s4 _ _ bi},1,amE _,λe he=>?_};let s5:ao H4 (Z9 H4 e (.lst [])):=ao.new he;let ax:Z9 H4 e (.lst []) e=some (.lst []):=aj;let cr:ld≠e:=aA a8 he;generalize Z9 H4 e (.lst [])=H5 at s5 ax ⊢;let ac:=s4.trans s5;obtain⟨la,ci,a0,c4⟩:∃la,(bu sk (Sum.inl s0)).getD (V.ref e)=.ref la/\H5 la=some (.lst ((ns.filter (fM M gd s0)).map Z8))/\la≠fa:=by
     rcases S.val s0 with⟨l,h1,h2⟩|⟨h1,h2⟩
     .exact{l,by rw[h1];rfl,ac _ _ h2,aA h2 bd}
     .exact{e,by rw[h1];rfl,by rwa[h2],(aA Y he).symm}
    refine{_,.inl {sk,Sum.inl s0,.inl<|ac _ _ bi,J,J},la,ci,{_,X0.of a0},fE (K:=K) (a:=la) (xs:=(ns.filter<|fM M gd s0).map Z8) (λj σ H'=>∃(v7 U:o9 V)(u:mu (Key×V))(fs:mu Z4),σ=[E1 p,some<|.bl gd,E1 st,E1 ld,E1 ma,E1 fa,E2 s0,v7,U]/\ao H1 H'/\H' la=some (.lst<|(ns.filter<|fM M gd s0).map Z8)/\H' ma=some (.lst<|ms.map Z8)/\H' ld=some (.dK u)/\H' fa=some (.lst<|fs.map Z8)/\u.length=lk.length+fs.length/\Mid u M gd t fs (λn=>(∃ s∈ms.take i,fM M gd s n=Z1)∨n∈(ns.filter<|fM M gd s0).take j)) {v7,U,u,fs,J,ac,a0,s5 _ _ ai,s5 _ _ a8,s5 _ _ Y,B,MI.mono λn h=>h.elim id λh=>(by simp at h)} (λi σ H' _ z0=>by let⟨_,_,_,_,_,_,h,_⟩:=z0;exact X0.of h) ?_ ?_}
    .clear a0 ax ac s5 H5 B MI Y a8 ai s4 u fs v7 U v6;rintro j v σ H5 hj ⟨v7,U,u,fs,rfl,s5,a0,a4,L,a1,B,MI⟩;rw[amx] at hj;let⟨n,hn,rfl⟩:=ami.mp hj;let bc:=(ag s0 n).mp<|aml hn;let⟨d0,g0,eM,ho⟩:=pe.mp bc;let tj:∀x,x∈(ns.filter (fM M gd s0)).take (j+1)->x∈(ns.filter (fM M gd s0)).take j∨x=n:=λx h=>by rw[amJ,hn] at h;exact(amy.mp h).imp id λh=>amr.mp h
     let be:∀x,((∃ s∈ms.take i,fM M gd s x=Z1)∨x∈(ns.filter (fM M gd s0)).take (j+1))->((∃ s∈ms.take i,fM M gd s x=Z1)∨x∈(ns.filter (fM M gd s0)).take j)∨x=n:=λx h=>h.elim (λh=>.inl<|.inl h) λh=>(tj x h).elim (λh=>.inl<|.inr h) .inr
     let as:=c2.keep s5;let⟨dx,h1,h2⟩:=id as.sh;refine bf [E1 p,some<|.bl gd,E1 st,E1 ld,E1 ma,E1 fa,E2 s0,E2 n,U] ?_;dsimp only;refine{1,p,dx,1,h1,jb d7 d7,1,p,d,fl,X5,n,J,as.sh,λv hv=>?_,λhv=>?_}
     case refine_2=>let⟨v',ce,_⟩:=hG.sr.got eM;rw[ce] at hv;cases hv
     let⟨s',d',g,ba,a,wh,b,dd,rows,c,rfl,hP,bt,rfl,rfl,hg⟩:=as.sr.has hv;rw[eM] at ba;let ed:d0 =↥dd:=congrArg (λx:Z4×Z4×Bool=>x.2.1)<|amw ba;subst ed;let⟨bo,r,Rr,g1,g2,g3⟩:=id hP;let ct:=aR MI;obtain⟨C,fs',cf,ca,c0,c3⟩:∃C fs',H5 a=some (.ins C bo fs')/\Cls K C/\aJ K C "day"/\List.lookup ("day":Str) fs'=some (V.int ↥dd):=by
      cases wh
      .exact{aB,_,g1,T.eB,T.mj,rR}
      .exact{av,_,g1,T.dW,T.iF,rR}
     exists a,C,bo,_,1,cf,ca,c0,c3;refine bf [E1 p,some<|.bl gd,E1 st,E1 ld,E1 ma,E1 fa,E2 s0,E2 n,E2 ↥dd] ?_;dsimp only;exists 2,ld,1,.inl {u,Sum.inl ↥dd,.inl L,J,J},1;cases aw:bu u (Sum.inl ↥dd) with
     |some y=>exact iK {_,_,u,fs,J,s5,a0,a4,L,a1,B,(MI.skip eM (by rw[aw];rfl)).mono be}
     |none=>
      refine iz {2,1,ld,1,yc.k (k:=Sum.inl ↥dd) L<|bF o5,?_};let a5:Z9 H5 ld (.dK (putK u (Sum.inl ↥dd) (.int n))) fa=some (.lst (fs.map Z8)):=by rwa[au aS.symm]
      let n1:la≠ld:=c9 a0 L nofun;let n2:ma≠ld:=c9 a4 L nofun;exists 1,.inl {J,_,X0.of a5},1,fa,3,a5,(by rw[ame];exact bF o5);refine{_,_,putK u (Sum.inl ↥dd)<|.int n,fs++[↥dd],J,λb' o e=>?_,by rwa[au c4,au n1],by rwa[au ch.symm,au n2],by rw[au aS,aj],by rw[aj];simp,by rw[Ah,aw];simp;omega,(MI.put hG.pos eM ho bj aw).mono be};rw[au<|aA e bd,au<|aA e am];exact s5 b' o e
    .rintro σ H6 ⟨v7,U,u,fs,rfl,s6,cm,bb,bn,a5,B,MI⟩;refine{_,_,_,u,fs,J,s6,bb,bn,a5,B,MI.mono λn h=>?_};let⟨s',c1,hn⟩:=h;rcases tk s' c1 with h|rfl
     .exact .inl ⟨s',h,hn⟩
     .refine .inr ?_;rw[ame,amT];exact(ag _ n).mpr hn
   .rintro σ H5 ⟨v6,v7,U,u,fs,rfl,s5,a4,L,a1,B,MI⟩;rw[ame,amT] at MI;let⟨ab,ar⟩:=MI.end_ λn s d g e1 e2 e3=>{s,(al s).mpr e3,pe.mpr ⟨d,g,e1,e2⟩}
    exact bp _ _ ⟨v6,v7,U,u,fs,J,s5,L,a1,B,ab,ar⟩
  rintro σ H5 ⟨v6,v7,U,u,fs,rfl,s5,L,a1,B,ab,ar⟩;exists 1;let cs:=a6 ab;refine{X5.length-u.length +(if fs=[] then 0 else 1),?_,fa,_,_,_,_,u,fs,t+1,J,s5,L,a1,o5,ab,ar,J};cases fs with
  |nil=>rw[ama rfl];simp at B;omega
  |cons x r=>rw[al8 o7];simp at B;omega
 rintro σ H3 ⟨v4,v5,v6,v7,U,lk,rfl,s3,a3,LA,cc⟩;exact{1,q ld lk H3 a3 LA cc (s1.free am)<|s1.trans s3}
variable(iA:bJ "last_pieces" 5 ["shelf","good"] (yD ay av aB))
include T iA in
theorem zO{f:nt}{fd:qd}{v:nF}(F:qH K "reached" "reached" kN f fd v):⋯ 6 f fd ["shelf","good"] (jy ay av aB):=by
 refine F.okX Jb (λvs H Q E h=>?_) λt A outer s H vs Q E o h=>?_
 .let⟨p,d,fl,X5,M,gd,rfl,i,b,q⟩:=h;rfl
 let⟨p,d,fl,X5,M,gd,rfl,i,b,q⟩:=h;exists _,(ak<|aT<|bQ (vn J) o8 T.yN apF<|aa (pcS iA aO o<|aa (pv 0)<|aa (pv 1) af) af);refine{2,p,d,fl,X5,M,gd,J,i,b,λld lk H1 c n x r s1=>?_};let⟨ns,a⟩:=wX n.gc;let u:lk.length=ns.length:=by let:=congrArg List.length a;simpa using this
 refine{ld,lk,ns,J,c,a,o5,λl g m j hs=>?_};exact q l g _ aj (n.rise i.pos a j hs) (by rw[j.length_eq];omega) (s1.free m)<|s1.trans<|ao.new m
variable(qx:oO "NoTable" bE 1 ["self","wide"] (f9 bE "wide"))
include T qx in
theorem Fy(F:Fun K "ask_wide" "ask_wide" tH f fd):⋯ 3 f fd ["wide"] (A1 bE):=by
 refine F.okY Fx ?_;rintro vs H Q E ⟨wd,rfl,q1,b⟩;refine{J,λg A outer s c=>{_,(ak<|bU (PW.pt<|pw_or (aX j4 (pv 0) aF<|aY _)<|pw_or1<|aX tO (pv 0) (fu (v:=.int 40) J T.Ca {1})<|aY _) (ak<|dD J eU<|fT qx (c.mono o6) J<|aa (pv 0) af) bH),?_}};dsimp only[bq];by_cases a:¬(1≤wd/\wd≤40)
 .exists 1,3,1;refine MG (λh=>?_) (λh=>?_)
  .refine iz ?_;exact{1,dH (E:=E) T.nN<|b a}
  .exists 1,3,1;refine MG (λh'=>{1,dH (E:=E) T.nN<|b a}) λh'=>?_;simp at h h';omega
 let a:=apk.mp a;exists 1,3,1;refine cP o5 ?_;exists 1,3,1;refine cP o5 ?_;exact q1 a
variable(iw:bJ "ask_wide" 3 ["wide"] (A1 bE))
include T iw in
theorem xV(F:Fun K "__init__" "Days.__init__" lE f fd):⋯ 4 f fd ["self","wide"] (zX aD bE):=by
 refine F.okY yI ?_;rintro vs H Q E ⟨p,dx,wd,rfl,hp,q1,q2⟩;refine⟨J,λa7 A outer s hr=>⟨_,(aq (bL<|pcS iw aV hr<|aa (pv 1) af)
   (aq (cI (pv 0) (pv 1) J)
   (aq (cI (pv 0) aF J)
   (aq (cI (pv 0) (dZ<|aa (aL aeC (dZ<|aa aF af)<|pv 1) af) J)
   (ak<|cI (pv 0) (dZ<|aa (dZ af) af) J))))),?_⟩⟩
 dsimp only[bq];refine{1,wd,J,λhw=>?_,q2};let q:=q1 hw;exists 2,p,aD,dx,[],J,hp,T.cB,T.nj,(by show 0<1000;decide);exists 1,p,aD,dx,1,aj,T.cB,T.eZ,(by show 1<1000;decide);rw[gU];refine{(by show 1≤Z7;decide),λz hz=>?_};refine{1,z,wd,1,J,aj,o5,o5,(by show 1*_≤Z7;exact amV<|bF o5),λt S=>?_};refine{(by show 1≤Z7;decide),λta B=>?_};let⟨a1,m⟩:=bB B;let⟨a2,a0⟩:=bB a1;let⟨Y,g⟩:=bB a2;let⟨b1,a8⟩:=bB S;let⟨b2,v⟩:=bB b1;let⟨c1,nz⟩:=bB hz;exists 1,p,aD,dx,bO "last" (.int 0)<|bO "wide" (.int wd) [],J,(by simp[Z9,g.symm,v.symm,nz.symm]),T.cB,T.gj,(by let:=gG "last" (.int 0)<|bO "wide" (.int wd) [];let:=gG "wide" (.int wd) [];simp at *;omega);refine{amE _,λe he=>?_};refine{(by show 1≤Z7;decide),λsa C=>?_};let⟨d1,r⟩:=bB he;let⟨d2,U⟩:=bB d1;let⟨d3,x⟩:=bB d2;let⟨d4,a9⟩:=bB d3;let⟨d5,a4⟩:=bB d4;let⟨e1,L⟩:=bB C;let⟨e2,u⟩:=bB e1;let⟨e3,O⟩:=bB e2;let⟨e4,y⟩:=bB e3;let⟨e5,a6⟩:=bB e4;let⟨e6,a5⟩:=bB e5;exists 1,p,aD,dx,bO "tables" (.ref ta)<|bO "last" (.int 0)<|bO "wide" (.int wd) [],J,(by simp[Z9,u.symm,r.symm]),T.cB,T.fJ,(by let:=gG "tables" (.ref ta)<|bO "last" (.int 0)<|bO "wide" (.int wd) [];let:=gG "last" (.int 0)<|bO "wide" (.int wd) [];let:=gG "wide" (.int wd) [];simp at *;omega);let ew:((wd.toNat:Z5):Z4)=wd:=by omega
 refine q ta sa t e _ {{dx,?_},?_,?_,{J,λi a xs h1 h2=>?_},{J,λi a xs h1 h2=>?_},?_,o7,J,λt S=>?_,o5,o5} (λb l=>?_) λb o l j=>?_
 .rw[aj,UU,ew];rfl
 .simp[Z9,g,O.symm,U.symm]
 .simp[Z9,u]
 .match i,h1,h2 with
  |0,h1,h2=>
   let h1:t=a:=⇑h1
   let h2:List.replicate wd.toNat 0=xs:=⇑h2
   subst h1 h2;rw[←Mv];simp[Z9,v,y.symm,x.symm,m.symm]
  |i+1,h1,_=>simp at h1
 .match i,h1,h2 with
  |0,h1,h2=>
   let h1:e=a:=⇑h1
   let h2:[]=xs:=⇑h2
   subst h1 h2;simp[Z9,L.symm,r]
  |i+1,h1,_=>simp at h1
 .simp only[List.nodup_cons,List.mem_cons,List.mem_append,List.not_mem_nil,or_false,not_or,not_false_eq_true,List.nodup_nil,and_true,List.cons_append,List.nil_append];grind
 .let:t=List.replicate wd.toNat 0:=⇑S
  rw[this,anb]
 .simp only[List.mem_cons,List.not_mem_nil,or_false] at l;rcases l with rfl|rfl|rfl|rfl
  .exact Y
  .exact e6
  .exact b2
  .exact d5
 .let j:b≠p:=⇑j
  let n:∀{c:nt},H c=Z0->b≠c:=λh=>aA l h
  simp[Z9,j,n e6,n d5,n Y,n b2,n c1,l]
variable(qk:oO "NoBlock" aP 1 ["self","block"] (f9 aP "block"))
include T g8 qk in
theorem ve(F:Fun K "ask_change" "Days.ask_change" jH f fd):⋯ 3 f fd ["self","place","block"] (AN aD aK aP):=by
 refine F.okY uQ ?_;rintro vs H Q E ⟨p,ta,sa,TL,SL,wd,C0,C1,c,rfl,D,i,q1,b⟩;refine⟨J,λh A outer s a=>⟨_,(aq (bU (PW.pt<|pw_or (aX j4 (pv 1) aF<|aY _)<|pw_or1<|aX zl (pv 1) (bz (pv 0) J)<|aY _) (ak<|dD J eU<|fT g8 (a.mono o6) J<|aa (pv 1) af) bH)
   (ak<|bU (PW.pt<|pw_or (aX j4 (pv 2) aF<|aY _)<|pw_or1<|aX tO (pv 2) (fu (v:=.int 18446744073709551615) J T.m_W {1})<|aY _) (ak<|dD J eU<|fT qk (a.mono o6) J<|aa (pv 2) af) bH)),?_⟩⟩
 dsimp only[bq];let⟨dx,g⟩:=D.ob;by_cases h1:c.1<0
 .exists 1,3,1;refine eO h1 ?_;refine iz ?_;exact{1,dH (E:=E) T.gA<|q1 c.1 (by unfold dj;rw[ama<|.inl h1])}
 exists 1,3,1;refine cP h1 ?_;exists 2,p,aD,dx,_,1,g,T.cB,T.nj,U1,3,1;by_cases h2:↥wd≤c.1
 .refine eO h2 ?_;exact{1,dH (E:=E) T.gA<|q1 c.1 (by unfold dj;rw[ama<|.inr h2])}
 refine cP h2 ?_;by_cases h3:c.2<0
 .exists 1,3,1;refine eO h3 ?_;refine iz ?_;exact{1,dH (E:=E) T.nE<|b c.2 (by unfold dj;rw[al8 o5,ama<|.inl h3])}
 exists 1,3,1;refine cP h3 ?_;exists 1,3,1;by_cases h4:18446744073709551615<c.2
 .refine eO h4 ?_;exact{1,dH (E:=E) T.nE<|b c.2 (by unfold dj;rw[al8 o5,ama<|.inr h4])}
 refine cP h4 ?_;exact i (by unfold dj;rw[al8 o5,al8 o5])
variable(mV:oO "NoDay" aU 1 ["self","day"] (f9 aU "day"))
include T mV in
theorem za(F:Fun K "ask_day" "Days.ask_day" mO f fd):⋯ 3 f fd ["self","day"] (AK aD aU):=by
 refine F.okY yX ?_;rintro vs H Q E ⟨p,ta,sa,TL,SL,wd,C0,C1,d,rfl,D,a,q1⟩;refine{J,λc A outer s b=>{_,(ak<|bU (PW.pt<|pw_or (aX j4 (pv 1) aF<|aY _)<|pw_or1<|aX tO (pv 1) (bz (pv 0) J)<|aY _) (ak<|dD J eU<|fT mV (b.mono o6) J<|aa (pv 1) af) bH),?_}};dsimp only[bq];let⟨dx,g⟩:=D.ob;by_cases h1:d<0
 .exists 1,3,1;refine eO h1 ?_;refine iz ?_;exact{1,dH (E:=E) T.oW<|q1 o5}
 exists 1,3,1;refine cP h1 ?_;exists 2,p,aD,dx,_,1,g,T.cB,T.eZ,rP,3,1;by_cases h2:↥C0.length-1<d
 .refine eO h2 ?_;exact{1,dH (E:=E) T.oW<|q1 o5}
 refine cP h2 ?_;exact a o5
variable(cC:bM aD "ask_day" 3 ["self","day"] (AK aD aU))
include T cC in
theorem Cc(F:Fun K "table" "Days.table" pR f fd):⋯ 4 f fd ["self","day"] (yH aD aU):=by
 refine F.okY B6 ?_;rintro vs H Q E ⟨p,ta,sa,TL,SL,wd,C0,C1,d,rfl,D,n,q1⟩;refine⟨J,λl A outer s i=>⟨_,(aq (bL<|aZ (pv 0) T.cB cC aV (i.mono o6)<|aa (pv 1) af)
   (ak<|aT<|bx pZ o8 T.zS aoC<|aa (bG bw (bz (pv 0) J) (pv 1) λ_ _=>rfl) af)),?_⟩⟩
 dsimp only[bq];let⟨dx,c⟩:=D.ob;refine{1,p,dx,1,c,oR d7 d7 d7 d7,1,p,ta,sa,TL,SL,wd,C0,C1,d,J,D,λhd=>?_,q1};let g:d.toNat<C0.length:=by omega
 let⟨h,b,_,a⟩:=D.tls.at_<|amg g;refine{1,p,aD,dx,_,1,c,T.cB,T.gj,uE,1,ta,_,_,V.ref h,J,J,X0.of D.tl,?_,h,1,.inl<|X0.of a,λm j=>?_}
 .rw[show d =((d.toNat:Z5):Z4) by omega];refine br ?_;simp[b]
 .exact n hd m _ (amg g) j
variable(gJ:bM aD "ask_change" 3 ["self","place","block"] (AN aD aK aP))
include T gJ in
theorem Aq(F:Fun K "passes" "Days.passes" nW f fd):⋯ 4 f fd ["self","changes"] (vL aD aK aP):=by
 refine F.okY fQ ?_;rintro vs H Q E ⟨p,ta,sa,a,TL,SL,wd,C0,C1,L,chs,rfl,D,hA,R,c4,c0,as,q0,q1,q2⟩;refine⟨J,λc1 A outer s hr=>⟨_,(aq (gp amO J (dI<|pv 1) (su J<|dS (pgN 2 fQ.nd)<|dS (pgN 3 fQ.nd) mY)
   (ak<|bL<|aZ (pv 0) T.cB gJ aV (hr.mono o6)<|aa (pv 2)<|aa (pv 3) af))
   (aq (psS 4 fQ.nd<|bx pZ o8 T.zS aoC<|aa (bG bw (bz (pv 0) J) (bz (pv 0) J) λ_ _=>rfl) af)
   (aq (gp amO J (dI<|pv 1) (su J<|dS (pgN 2 fQ.nd)<|dS (pgN 3 fQ.nd) mY)
   (ak<|DV (pv 3)<|DU (pv 4) (pv 2) set_list))
   (aq (bL<|j6 am9 ans ant iU (bz (pv 0) J)<|aa (pv 4) af)
   (aq (bL<|j6 am9 ans ant iU (bz (pv 0) J)<|aa (rE (N:=["place","block"]) (k:=2) (cap:=[]) J J (dI<|pv 1) (λ_ _ _ _=>(Gk (K:=K) (n:=2) J J<|dS (pgN 0 (show(["place","block"]:mu Z6).Nodup from by decide +kernel)<|.inr J)<|dS (pgN 1 (show(["place","block"]:mu Z6).Nodup from by decide +kernel)<|.inr J) mY)) (λ_ _ _ _=>kR) λ_ _ _ _=>(pv 0)) af)
   (aq (cI (pv 0) (aL cD (bz (pv 0) J) aF) J)
   (ak<|aT<|bz (pv 0) J))))))),?_⟩⟩
 dsimp only[bq];let⟨dx,ob⟩:=D.ob;let tpos:0<C0.length:=aol D.ne;let bh:∀{i:Z5}{v:V},L[i]?=some v->i<chs.length:=λ{i v}h=>by rw[←R.len];exact(amc.mp h).1
 refine⟨_,J,a,J,{_,X0.of hA},fE (K:=K) (a:=a) (xs:=L) (λi σ H2=>∃Y U:o9 V,σ=[E1 p,E1 a,Y,U,Z0]/\H2=H/\∀j d,j<i->chs[j]?=some d->dj wd d=Z0)
  {Z0,Z0,J,J,λj d hj=>absurd hj<|Nat.not_lt_zero _} (λi σ H2 _ z0=>by let⟨_,_,_,e,_⟩:=z0;exact by rw[e];exact X0.of hA) ?_ ?_⟩
 .rintro i v σ H2 hi ⟨Y,U,rfl,rfl,hp⟩;let⟨t,r,rfl,l,B⟩:=R.get i v hi;exists t,1,X3.of B,J,_,1,3;refine{1,p,dx,1,ob,oR d7 d7 d7 d7,2,p,ta,sa,TL,SL,wd,C0,C1,r,J,D,λy=>?_,λx y=>q1 x<|xF l hp y,λx y=>q2 x<|xF l hp y};refine{3,λj d hj hd=>?_};by_cases bc:j=i
  .rw[bc,l] at hd;cases hd;exact y
  .exact hp j d o5 hd
 rintro σ H2 ⟨Y,U,rfl,rfl,a1⟩;let a5:cy wd chs=Z0:=by unfold cy;rw[List.findSome?_eq_none_iff];intro c hc;let⟨j,hj⟩:=amQ.mp hc;exact a1 j c (by rw[R.len];exact(amc.mp hj).1) hj
 let bi:∀ c∈chs,dj wd c=Z0:=ug a5;let u:C0[C0.length-1]?=some C0[C0.length-1]:=amg o5;generalize C0[C0.length-1]=g at u;let⟨t0,bm,_,aR⟩:=D.tls.at_ u;refine{1,p,aD,dx,_,1,ob,T.cB,T.gj,uE,1,p,aD,dx,_,1,ob,T.cB,T.eZ,rP,ta,_,_,V.ref t0,J,J,X0.of D.tl,?_,t0,1,.inl<|X0.of aR,λm C=>?_}
 .rw[show↥C0.length-1 =((C0.length-1:Z5):Z4) by omega];refine br ?_;simp[bm]
 let ag:g.length=wd:=D.wds g<|aml u;let a0:a≠m:=aA hA C;let a7:p≠m:=aA ob C;let ae:ta≠m:=aA D.tl C;let a4:sa≠m:=aA D.sl C;refine⟨_,J,a,J,{_,X0.of (by rwa[au a0])},fE (K:=K) (a:=a) (xs:=L) (λi σ H3=>∃Y U:o9 V,σ=[E1 p,E1 a,Y,U,E1 m]/\H3=Z9 H2 m (.lst<|(nextT g<|chs.take i).map Z8))
  ⟨Y,U,J,J⟩ (λi σ H3 _ z0=>by let⟨_,_,_,e⟩:=z0;exact by rw[e];exact X0.of (by rwa[au a0])) ?_ ?_⟩
 .rintro i v σ H3 hi ⟨Y,U,rfl,rfl⟩;let⟨t,r,rfl,l,B⟩:=R.get i v hi;let⟨r1,r2,_,_⟩:=LS<|bi r<|aml l;exists t,1,X3.of (by rwa[au<|aA B C]),J,_,1,3;exists 2,1,m,_,_,r.1.toNat,J,J,aj,?_
  .rw[ame,BG,ag];unfold ixN;rw[ama o5,ama o5]
  .exists _,1;rw[gU];let e:chs.take (i+1)=chs.take i++[r]:=by rw[amJ,l];rfl
   rw[e,Jj,List.map_set]
 rintro σ H3 ⟨Y,U,rfl,rfl⟩;rw[show chs.take L.length=chs by rw[R.len,amT]];let nd:=D.nd;simp only[List.nodup_cons,List.mem_cons,List.mem_append,not_or] at nd;let⟨⟨a6,a2,bj,ax⟩,⟨a3,aS,be⟩,⟨bp,bn⟩,_⟩:=nd;simp only[foot,List.mem_cons,List.mem_append,not_or] at as;let⟨c2,al,bt,cc,cd⟩:=as;let ar:Z9 H2 m (.lst ((nextT g chs).map Z8)) p=some (.ins aD dx (fl ↥wd (↥C0.length-1) ta sa)):=by rwa[au a7]
 let O:Z9 H2 m (.lst ((nextT g chs).map Z8)) ta=some (.lst (TL.map V.ref)):=by rw[au ae];exact D.tl
 let ca:=D.tls.len;let c3:=D.sls.len;let a9:=D.lens;exists 1,p,aD,dx,_,1,ar,T.cB,T.gj,uE,.inl {J,_,X0.of O},1,ta,3,O,(by rw[ame];exact bF o5);let aw:Z9 (Z9 H2 m (.lst ((nextT g chs).map Z8))) ta (.lst (TL.map V.ref++[.ref m])) p=some (.ins aD dx (fl ↥wd (↥C0.length-1) ta sa)):=by rwa[au a6]
 let S:Z9 (Z9 H2 m (.lst ((nextT g chs).map Z8))) ta (.lst (TL.map V.ref++[.ref m])) sa=some (.lst (SL.map V.ref)):=by rw[au<|amW a3,au a4];exact D.sl
 let ac:Z9 (Z9 H2 m (.lst ((nextT g chs).map Z8))) ta (.lst (TL.map V.ref++[.ref m])) a=some (.lst L):=by rwa[au al,au a0]
 exists 1,p,aD,dx,_,1,aw,T.cB,T.fJ,LI,.inl {J,_,X0.of S};refine{1,a,J,{_,X0.of ac},λD' bd=>?_};let⟨bb,bo⟩:=bB bd;let⟨q,an⟩:=bB bb;let a8:D'≠p:=(aA ob q).symm;let am:D'≠sa:=(aA D.sl q).symm;let ba:a≠D':=aA hA q;refine kM D' (K:=K) (a:=a) (xs:=L) (λi σ H5 ys=>∃v v':o9 V,σ=[v,v']/\H5=Z9 (Z9 (Z9 H2 m<|.lst<|(nextT g chs).map Z8) ta<|.lst<|TL.map V.ref++[.ref m]) D' (.lst ys)/\ys =((chs.take i).map Prod.fst).map Z8)
  ⟨Z0,Z0,J,J,J⟩ (λi σ H5 ys _ z0=>by let⟨_,_,_,e,_⟩:=z0;exact by rw[e];exact X0.of (by rwa[au ba])) ?_ ?_
 .rintro i x σ H5 ys hi ⟨v,v',rfl,rfl,hy⟩;let bv:=bh hi;let⟨t,r,rfl,l,B⟩:=R.get i x hi;let bl:Z9 (Z9 (Z9 H2 m (.lst ((nextT g chs).map Z8))) ta (.lst (TL.map V.ref++[.ref m]))) D' (.lst ys) t=some (.tup [.int r.1,.int r.2]):=by rwa[au<|aA B q,au<|c9 B D.tl nofun,au<|aA B C]
  exists t,1,X3.of bl,J,_,1,3,1,aj,(by rw[hy];exact bF (by simp;omega));exact{_,1,by rw[gU],by rw[hy,amJ,l];simp}
 rintro σ H5 ys ⟨v,v',rfl,rfl,hy⟩;rw[show chs.take L.length=chs by rw[R.len,amT]] at hy;subst hy;let ai:Z9 (Z9 (Z9 H2 m (.lst ((nextT g chs).map Z8))) ta (.lst (TL.map V.ref++[.ref m]))) D' (.lst ((chs.map Prod.fst).map Z8)) sa=some (.lst (SL.map V.ref)):=by rwa[au<|amW am]
 exists sa,3,ai,(by rw[ame];exact bF o5);let ab:Z9 (Z9 (Z9 (Z9 H2 m (.lst ((nextT g chs).map Z8))) ta (.lst (TL.map V.ref++[.ref m]))) D' (.lst ((chs.map Prod.fst).map Z8))) sa (.lst (SL.map V.ref++[.ref D'])) p=some (.ins aD dx (fl ↥wd (↥C0.length-1) ta sa)):=by rwa[au a2,au<|amW a8]
 exists 1,p,aD,dx,_,1,ab,T.cB,T.eZ,rP,3,1,p,aD,dx,1,ab,T.cB,T.eZ,(by show 4<1000;decide);rw[XF];exists 1,p,aD,dx,_,1,aj,T.cB,T.eZ,rP;let el:↥C0.length-1+1 =↥C0.length:=by omega
 let fm:=D.fresh C;let fD:=D.fresh q;let z:=q0 a5 m D' (Z9 (Z9 (Z9 (Z9 (Z9 H2 m<|.lst<|(nextT g chs).map Z8) ta<|.lst<|TL.map V.ref++[.ref m]) D'<|.lst<|(chs.map Prod.fst).map Z8) sa<|.lst<|SL.map V.ref++[.ref D']) p<|.ins aD dx<|fl ↥wd (↥C0.length-1+1) ta sa) g u ?_ C q ?_
 .exact(congrArg (λn:Int=>Q (V.int n) _) el).mpr z
 .let old:∀b o,b∈TL++SL->H2 b=some o->Z9 (Z9 (Z9 (Z9 (Z9 H2 m<|.lst<|(nextT g chs).map Z8) ta<|.lst<|TL.map V.ref++[.ref m]) D'<|.lst<|(chs.map Prod.fst).map Z8) sa<|.lst<|SL.map V.ref++[.ref D']) p (.ins aD dx<|fl ↥wd (↥C0.length-1+1) ta sa) b=some o:=λb o y e=>by
   let b1:b≠p:=by rintro rfl;rcases amy.mp y with z|z;exact bj z;exact ax z
   let b2:b≠ta:=by rintro rfl;rcases amy.mp y with z|z;exact aS z;exact be z
   let b3:b≠sa:=by rintro rfl;rcases amy.mp y with z|z;exact bp z;exact bn z
   rw[au b1,au b3,au<|aA e q,au b2,au<|aA e C];exact e
  refine{{dx,?_},?_,?_,(D.tls.mono λa ha o e=>old a o (amY _ ha) e).snoc ?_,(D.sls.mono λa ha o e=>old a o (amm _ ha) e).snoc ?_,?_,o7,by simp[a9],λt B=>?_,D.w1,D.w2}
  .rw[aj];congr 2;simp
  .simp[Z9,Ne.symm a6,a3,Ne.symm bo]
  .simp[Z9,Ne.symm a2]
  .simp[Z9,Ne.symm a7,Ne.symm a4,Ne.symm an,Ne.symm ae]
  .simp[Z9,a8,am]
  .exact Jf D.nd fm fD (amW an)
  .rcases amy.mp B with h|h
   .exact D.wds t h
   .let:t=nextT g chs:=⇑h
    rw[this,BG,ag]
 .intro b o e y;let n1:b≠p:=λz=>y (by simp[foot,z])
  let n2:b≠ta:=λz=>y (by simp[foot,z])
  let n3:b≠sa:=λz=>y (by simp[foot,z])
  rw[au n1,au n3,au<|aA e q,au n2,au<|aA e C];exact e
include T cC in
theorem zD(F:Fun K "written" "Days.written" mH f fd):⋯ 4 f fd ["self","one","other"] (tT aD aU):=by
 refine F.okY kY ?_;rintro vs H Q E ⟨p,ta,sa,TL,SL,wd,C0,C1,one,other,rfl,D,v,a1,q0,q1⟩;refine⟨J,λa2 A outer s q=>⟨_,(aq (bL<|aZ (pv 0) T.cB cC aV (q.mono o6)<|aa (pv 1) af)
   (aq (bL<|aZ (pv 0) T.cB cC aV (q.mono o6)<|aa (pv 2) af)
   (aq (psS 3 kY.nd<|dZ af)
   (aq (gp amO J (JF J T.AV<|aa (aL cD (bQ (JS J) o8 T.aiV PyProof.Rows.boot_min<|aa (pv 1)<|aa (pv 2) af) aF)<|aa (aL cD (bQ (Bw J) o8 T.zR aoJ<|aa (pv 1)<|aa (pv 2) af) aF) af) (pgN 4 kY.nd)
   (ak<|bL<|j6 am9 apD apE BN (pv 3)<|aa (bG bw (bz (pv 0) J) (pv 4) λ_ _=>rfl) af))
   (ak<|aT<|Vl J o8 T.yN o8 T.ajN<|pv 3))))),?_⟩⟩
 dsimp only[bq];let⟨dx,B⟩:=D.ob;let a0:=D.lens;refine{1,p,dx,1,B,oR d7 d7 d7 d7,1,p,ta,sa,TL,SL,wd,C0,C1,one,J,D,λho=>?_,λy=>q1 one<|.inl ⟨y,J⟩};refine{1,p,dx,1,B,oR d7 d7 d7 d7,1,p,ta,sa,TL,SL,wd,C0,C1,other,J,D,λht=>?_,λy=>q1 other<|.inr ⟨ho,y,J⟩};refine{amE _,λpl t=>?_};let e1:(if other<one then other else one)=min one other:=by split <;> omega
 let e2:(if other>one then other else one)=max one other:=by split <;> omega
 exists 2,one,other,J,3,2,one,other,J,3,min one other+1,max one other+1,by rw[e1,e2],⟨o5,o5,o5,o5⟩;refine vV (lo:=min one other+1) (n:=((max one other+1) -(min one other+1)).toNat) (λi σ H2=>∃(Y:o9 V)(ns:mu Z4),σ=[E1 p,E2 one,E2 other,E1 pl,Y]/\ao H H2/\H2 pl=some (.lst<|ns.map Z8)/\ns.length≤300*i/\(∀k,k∈ns↔Ky C1 (min one other) (min one other+i) k)/\∀ x∈ns,0≤x/\x <↥wd) {Z0,[],J,ao.new t,aj,o7,λk=>{λh=>by simp at h,λ⟨d,xs,h1,h2,_⟩=>by omega},λx h=>by simp at h} ?_ ?_
 .rintro i σ H2 hi ⟨Y,ns,rfl,s2,a,U,j,g⟩;let D2:=D.same s2;obtain⟨d,hd⟩:∃d:Z5,min one other+1 +↥i =↥d:={(min one other+1 +↥i).toNat,o5};let l:d<C1.length:=by omega
  let c:C1[d]?=some C1[d]:=amg l;let⟨xa,C,_,S⟩:=D2.sls.at_ c;let m:=v.day C1[d] (anN l);exists 1,.inl {J,_,X0.of a},1,p,aD,dx,_,1,s2 _ _ B,T.cB,T.fJ,LI,1,sa,_,_,V.ref xa,J,J,X0.of D2.sl,?_
  .rw[hd];exact br (by rw[amx,C];rfl)
  exists pl,xa,3,a,S,(by rw[ame,ame];exact UR o5);refine{_,ns++C1[d],J,λb o e=>by rw[au<|aA e t];exact s2 b o e,by rw[aj,aoT],by rw[amK];omega,λk=>?_,λx hx=>?_}
  .rw[amy,j k];constructor
   .rintro(⟨d',xs,h1,h2,h3,h4⟩|h)
    .exact⟨d',xs,h1,o5,h3,h4⟩
    .exact{d,_,o5,o5,c,h}
   .rintro⟨d',xs,h1,h2,h3,h4⟩;by_cases z:d'=d
    .subst z;rw[c] at h3;cases h3;exact .inr h4
    .exact .inl ⟨d',xs,h1,o5,h3,h4⟩
  .rcases amy.mp hx with h|h
   .exact g x h
   .exact m.2 x h
 .rintro σ H2 ⟨Y,ns,rfl,s2,a,U,j,g⟩;refine{1,pl,ns,J,X0.of a,ahC v.most g,λr L q O u=>q0 ho ht r L _ aj (s2.free q) O (λk=>(u k).trans<|(j k).trans ?_)<|s2.trans<|ao.new q};rw[show min one other +((((max one other+1) -(min one other+1)).toNat:Z5):Z4)=max one other by omega]
variable(oN:rN "Whole" av 4 ["self","day","rows","check"] [Value.none] (mP av aB))
variable(lI:bM aD "table" 4 ["self","day"] (yH aD aU))
include T oN lI in
theorem FH(F:Fun K "whole_of" "whole_of" tY f fd):⋯ 6 f fd ["days","day"] (tX aD av aB aU):=by
 refine F.okY Fc ?_;rintro vs H Q E ⟨p,wd,C0,C1,day,rfl,v,q1,O⟩;refine{J,λC A outer s u=>{_,(ak<|aT<|Bb (dvs:=[V.non]) oN (Paired.cons J Paired.nil) aO (u.mono o6) J<|aa (pv 1)<|aa (FL J J T.zS J T.FJ<|aZ (pv 0) T.cB lI aV (u.mono o6)<|aa (pv 1) af) af),?_}};dsimp only[bq];let upK:∀{j:Hp}{x dx:nt}{o:HO},j x=Z0->j dx=Z0->∀t o',j t=some o'->Z9 (Z9 j dx (.own x)) x o t=some o':=λg hd t o' e=>by rw[au<|aA e g,au<|aA e hd];exact e
 let⟨ta,sa,TL,SL,D⟩:=v.D;let⟨dx,y⟩:=D.ob;refine{2,p,dx,1,y,oR d7 d7 d7 d7,1,p,ta,sa,TL,SL,wd,C0,C1,day,J,D,λi t a b B=>?_,λh=>O h};obtain⟨d,rfl⟩:∃d:Z5,day =↥d:={day.toNat,by let:=i.1;omega};let c:=v.T a<|aml b;let s1:ao H (Z9 H t (.lst (a.map Z8))):=ao.new B;refine{t,1,X0.of aj,λr ts H2 L s2 n m q=>?_};let R:=enum_rows q n c.2;let l:=s1.trans s2;refine λx dx g hd U=>{x,dx,r,d,_,jX a,.non,1,aj,.inl<|upK g hd _ _ m,R.mono λt xs e=>upK g hd t _ e,by rw[qi,c.1];let:=D.w2;omega,.inl ⟨J,J⟩,λS z k5=>{J,?_}}
 exact q1 i x a S b z<|l.trans<|cA g hd k5
include T in
theorem Dp(F:Fun K "_law_cell" "_law_cell" qX f fd):⋯ 1 f fd ["_law_script","_law_k"] (AZ K):=by
 refine F.okY DE ?_;rintro vs H Q E ⟨a,ns,k,rfl,b,q⟩;refine⟨J,λc A outer s g=>⟨_,(aq (bU (aX j4 (pv 1) (bQ bP o8 T.fC amH<|aa (pv 0) af)<|aY _) (ak<|aT<|bG bw (pv 0) (pv 1) λ_ _=>rfl) bH)
   (ak<|aT<|aL cD (aL Kh aF<|pv 1) aF)),?_⟩⟩
 dsimp only[bq];exists 2,a,1,.inl b,3,1;refine MG (λh=>?_) λh=>?_
 .let h:k<ns.length:=⇑h
  exists 2,a,_,_,V.int<|ns.getD k 0,J,J,b,br ?_
  .simp[h]
  .let e:qg ns k=ns.getD k 0:=by unfold qg;rw[ama o5];rfl
   rwa[e] at q
 .let h:¬k<ns.length:=⇑h
  exists 1,3,.inl ⟨o4,o4⟩,3;let e:qg ns k=37*k+11:=by unfold qg;rw[al8 o5]
  rwa[e] at q
include T in
theorem yb(F:Fun K "writes_number" "writes_number" kZ f fd):⋯ 1 f fd ["word"] (vt):=by
 refine F.okY yo ?_;rintro vs H Q E ⟨z,rfl,r,q⟩;refine⟨J,λt A outer s u=>⟨_,(aq (bU (aX dB (pv 0) aC<|aY _) (ak<|aT lJ) bH)
   (aq (bU (PW.pt<|pw_or (aX j4 (bQ vz o8 T.fC amH<|aa (pv 0) af) aF<|aY _)<|pw_or (aX tO (bQ vz o8 T.fC amH<|aa (pv 0) af) (fu (v:=.int 20) J T.AE {1})<|aY _)<|pw_or1<|aX dB (bG afg (pv 0) aF λ_ _=>rfl) aC<|aY _) (ak<|aT lJ) bH)
   (ak<|aT<|bQ (Fz J) o8 T.aiA PyProof.Rows.boot_all<|aa (rE (N:=["sign"]) (k:=1) (cap:=[]) J J (aeW<|pv 0) (λ_ _ _ _=>(pgN 0 (show(["sign"]:mu Z6).Nodup from by decide +kernel)<|.inr J)) (λ_ _ _ _=>kR) λ_ _ _ _=>(gW Kp (pv 0) (fu (v:=.str<|PySem.Str.ofString "0123456789") J T.JJ {1}) (by with_unfolding_all rfl))) af))),?_⟩⟩
 dsimp only[bq];let b:z.length≤Z7:=amo r o6;exists 1,J,1;by_cases h0:z=Str.ofString "0"
 .subst h0;refine eO J ?_;let e:okW (Str.ofString "0")=Z1:=by decide +kernel
  rw[e] at q;exact q H<|ao.refl H
 refine cP (λh=>h0<|V.str.inj h) ?_;exists 1,z,J,b,3,1;by_cases h1:¬1≤z.length
 .refine eO o5 ?_;refine iz ?_;rw[WZ h1] at q;exact q H<|ao.refl H
 let h1:=apk.mp h1;refine cP o5 ?_;exists 1,z,J,b,3,1;by_cases h2:¬z.length≤20
 .refine eO o5 ?_;refine iz ?_;rw[Yw h2] at q;exact q H<|ao.refl H
 let h2:=apk.mp h2;refine cP o5 ?_;let⟨p,a⟩:=KA h1;exists 1,z,(0),p,J,J,b,br (j:=0) a,J,1;by_cases h3:p=48
 .subst h3;refine eO J ?_;rw[Mw (λh=>h0<|Mf h a) a] at q;exact q H<|ao.refl H
 refine cP (λh=>h3<|aaE.mp h) ?_;rw[Gs h1 h2 (.inr λh=>h3 (by rw[a] at h;exact amw h))] at q;refine{1,z,J,λl o=>?_};refine Mm l (x:=z) (λi σ m ys=>∃v:o9 V,σ=[v]/\m=Z9 H l (.lst ys)/\ys =((z.cps.toList.take i).map tV).map V.bl) ⟨Z0,J,J,J⟩ ?_ ?_
 .rintro i c σ m ys hi ⟨v,rfl,rfl,g⟩;let n:z.cps.toList[i]?=some c:=⇑hi
  exists 1,3,aj,?_,1,(by rw[gU])
  .rw[g,ame,ame,amX,str_len];exact bF o5
  .rw[g,amJ,n];simp[tV]
 .rintro σ m ys ⟨v,rfl,rfl,g⟩;exists l,(z.cps.toList.map tV),J,X0.of ?_
  .rw[aj,g,anj o7]
  .let e:(z.cps.toList.map tV).all id=isNum z:=by unfold isNum;rw[List.all_map];rfl
   rw[e];exact q _<|ao.new o
include T in
theorem AQ(F:Fun K "marks" "Store.marks" oj f fd):⋯ 1 f fd ["self"] (yg ah):=by refine F.okY zZ ?_;rintro vs H Q E ⟨p,j,i,nl,dl,n,l,sk,m,b,rfl,⟨dx,h1⟩,c,a,q⟩;refine{J,λg A outer s h=>{_,(ak<|aT<|bx nV o8 T.AS aou<|aa (bz (pv 0) J) af),?_}};dsimp only[bq];refine{1,p,ah,dx,_,1,h1,T.aR,T.gY,A5,dl,b,J,.inl {X0.of c,q}}
variable(qt:oO "NoShelf" aE 1 ["self","shelf"] (f9 aE "shelf"))
include T qt in
theorem vG(F:Fun K "ask_shelf" "Store.ask_shelf" jz f fd):⋯ 3 f fd ["self","shelf"] (qJ ah aE):=by
 refine F.okY wC ?_;rintro vs H Q E ⟨p,m,h,nl,dl,q,n,sk,o,SL,i,rfl,⟨dx,h1⟩,l,h3,q1,c⟩;refine{J,λj A outer s g=>{_,(ak<|bU (PW.pt<|pw_or (aX j4 (pv 1) aF<|aY _)<|pw_or1<|aX zl (pv 1) (bQ bP o8 T.fC amH<|aa (bz (pv 0) J) af)<|aY _) (ak<|dD J eU<|fT qt (g.mono o6) J<|aa (pv 1) af) bH),?_}};dsimp only[bq];exists 1,3,1;by_cases b:i<0
 .exact eO b {1,dH (E:=E) T.nL λe H' he hs=>c o5 e H' he hs}
 refine cP b ?_;exists 2,p,ah,dx,_,1,h1,T.aR,T.cz,gv,h,SL,J,.inl<|X0.of l,3,1;by_cases a:i≥↥SL.length
 .exact eO a {1,dH (E:=E) T.nL λe H' he hs=>c o5 e H' he hs}
 .exact cP a (q1 ⟨o5,o5⟩)
include T in
theorem Ay(F:Fun K "today" "Store.today" oB f fd):⋯ 1 f fd ["self"] (x9 ah aD):=by refine F.okY A7 ?_;rintro vs H Q E ⟨p,b,h,nl,dl,l,ta,sa,TL,SL,wd,C0,C1,i,sk,j,rfl,⟨dx,h1⟩,D,q⟩;refine{J,λc A outer s g=>{_,(ak<|aT<|bz (bz (pv 0) J) J),?_}};dsimp only[bq];let⟨dd,a⟩:=D.ob;exact{1,p,ah,dx,_,1,h1,T.aR,T.fj,sj,b,aD,dd,_,1,a,T.cB,T.eZ,rP,q}
variable(bh:bM ah "ask_shelf" 3 ["self","shelf"] (qJ ah aE))
include T cW bh in
theorem AR(F:Fun K "piece" "Store.piece" n9 f fd):⋯ 4 f fd ["self","shelf","number"] (wA ah aD ay av aB aE aN):=by
 refine F.okY Ag ?_;rintro vs H Q E ⟨Z,wd,C0,C1,us,M,i,m,rfl,h,q1,C,t⟩;refine⟨J,λB A outer s l=>⟨_,(aq (bL<|aZ (pv 0) T.aR bh aV (l.mono o6)<|aa (pv 1) af)
   (ak<|aT<|aZ (bG bw (bz (pv 0) J) (pv 1) λ_ _=>rfl) T.cF cW aV (l.mono o6)<|aa (pv 2) af)),?_⟩⟩
 dsimp only[bq];let⟨dx,h1⟩:=id h.st;refine{1,Z.p,dx,1,h1,bN d7,1,Z.p,Z.q,Z.sl,Z.nl,Z.dl,Z.se,Z.rl,Z.sk,Z.ea,_,i,J,⟨dx,h1⟩,h.sl,J,λhi=>?_,C};obtain⟨j,rfl,c⟩:∃j:Z5,i =↥j/\j<3:=⟨i.toNat,o5,o5⟩;let⟨X5,o,n,y⟩:=(h.sh j c).ex;let⟨L,z,O⟩:=id o;exists 1,Z.p,ah,dx,_,1,h1,T.aR,T.cz,gv,1,Z.sl,_,3,X0.of h.sl,vZ<|zQ c;refine{Z.x j,L,1,z,jb d7 d7,1,Z.x j,Z.d j,_,X5,m,J,o,λw g=>?_,λg e H' he hs=>?_}
 .let⟨u,r,a,rfl,v,b⟩:=n.has g;exact q1 j u a J c r ⟨a,J,v,b⟩
 .exact t j J c (VE n g) e H' he hs
variable(nk:bM ay "put" 2 ["self","piece"] (Ea ay))
include T nk in
theorem Hs(F:Fun K "do_deed" "do_deed" wc f fd):⋯ 5 f fd ["shelf","deed"] (vc ay):=by refine F.okY HG ?_;rintro vs H Q E ⟨x,d,t,a,fl,X5,rfl,h,⟨c,g,j⟩,b,q⟩;refine{J,λm A outer s i=>{_,(ak<|bU (aX dB (bG lW (pv 1) aF λ_ _=>rfl) aC<|aY _) (ak<|bL<|aZ (pv 0) T.cF nk aO (i.mono o6)<|aa (bG lW (pv 1) aF λ_ _=>rfl) af)<|ak ck),?_}};dsimp only[bq];refine gz (λo l=>{1,t,_,_,V.str _,J,J,X3.of h,J,J,1,by rwa[amA rfl]}) ?_;exact{1,x,c,1,g,jb d7 d7,1,t,_,_,V.ref a,J,J,X3.of h,J,x,d,fl,X5,a,J,⟨c,g,j⟩,b,λH' n k=>q H' n k}
variable(qB:bJ "reached" 6 ["shelf","good"] (jy ay av aB))
include T bh qB in
theorem zW(F:Fun K "reach" "Store.reach" oA f fd):⋯ 7 f fd ["self","shelf"] (vA ah aD ay av aB aE):=by
 refine F.okY AJ ?_;rintro vs H Q E ⟨Z,wd,C0,C1,us,M,i,rfl,h,q1,t⟩;refine⟨J,λr A outer s c=>⟨_,(aq (bL<|aZ (pv 0) T.aR bh aV (c.mono o6)<|aa (pv 1) af)
   (ak<|aT<|F0 J J T.zR (aa (pcS qB aO c<|aa (bG bw (bz (pv 0) J) (pv 1) λ_ _=>rfl)<|aa lJ af) af) gS)),?_⟩⟩
 dsimp only[bq];let⟨dx,h1⟩:=id h.st;refine{1,Z.p,dx,1,h1,bN d7,1,Z.p,Z.q,Z.sl,Z.nl,Z.dl,Z.se,Z.rl,Z.sk,Z.ea,_,i,J,⟨dx,h1⟩,h.sl,J,λhi=>?_,t};obtain⟨j,rfl,a⟩:∃j:Z5,i =↥j/\j<3:=⟨i.toNat,o5,o5⟩;let⟨X5,u,o,n⟩:=(h.sh j a).ex;exact{1,Z.p,ah,dx,_,1,h1,T.aR,T.cz,gv,1,Z.sl,_,3,X0.of h.sl,vZ<|zQ a,Z.x j,Z.d j,_,X5,lG<|M j,Z1,J,Lk u o,o5,λl ns H' m b g v s=>{l,ns,J,X0.of m,q1 j J a _ H' ((Gi ns).ext b.2) s}}
variable(jT:bM aB "harmed" 7 ["self","at","bits"] (wQ av aB aK))
variable(eF:bM ah "piece" 4 ["self","shelf","number"] (wA ah aD ay av aB aE aN))
variable(ji:bM av "harmed" 7 ["self","at","bits"] (wQ av aB aK))
include T gH jT eF ji in
theorem Cn(F:Fun K "harm" "Store.harm" pK f fd):⋯ 8 f fd ["self","shelf","number","at","bits"] (yy ah aD ay av aB aE aN aK):=by
 refine F.okY uh ?_;rintro vs H Q E ⟨Z,wd,C0,C1,us,M,i,m,ai,bt,rfl,h,q1,q2,q3,q4⟩;refine⟨J,λa5 A outer s hr=>⟨_,(aq (psS 5 uh.nd<|rO (aZ (aZ (pv 0) T.aR eF aV (hr.mono o6)<|aa (pv 1)<|aa (pv 2) af) T.dW ji aV (hr.mono o6)<|aa (pv 3)<|aa (pv 4) af)<|aZ (aZ (pv 0) T.aR eF aV (hr.mono o6)<|aa (pv 1)<|aa (pv 2) af) T.eB jT aV (hr.mono o6)<|aa (pv 3)<|aa (pv 4) af)
   (ak<|bL<|aZ (bG bw (bz (pv 0) J) (pv 1) λ_ _=>rfl) T.cF gH aO (hr.mono o6)<|aa (pv 2)<|aa (pv 5) af)),?_⟩⟩
 dsimp only[bq];let⟨dx,h1⟩:=id h.st;refine oq (λσ H'=>∃(p2:nt)(j x:Z5)(u:PcU),σ=[E1 Z.p,E2 i,E2 m,E2 ai,E2 ↥bt,E1 p2]/\i =↥j/\j<3/\M j m=some u/\ai =↥x/\x<u.rows.length/\cE av aB H' (.ref p2) (zV u x bt)/\ao H H') (λN hN=>?_) ?_
 .by_cases hi:0≤i/\i<3
  .obtain⟨j,rfl,l⟩:∃j:Z5,i =↥j/\j<3:=⟨i.toNat,o5,o5⟩;cases y:M j m with
   |none=>exact .inl {1,Z.p,dx,1,h1,bN d7,2,Z,wd,C0,C1,us,M,_,m,J,h,λB u a e _ q=>(by rw[show B=j by omega,y] at q;cases q),q2,λB e _ _=>q3 j J l y}
   |some u=>
    let⟨X5,hX,hR,a0⟩:=(h.sh j l).ex;let⟨v,hv,a,rfl,a6,a3⟩:=hR.eK m u y;let⟨wh,b,dn,rows,c⟩:=u;let L:∀(a:nt),PAt av aB H a wh b dn rows c->rows.length≤100->∀(x:Z5),ai =↥x->x<rows.length->∀p2 H1,PAt av aB H1 p2 wh b dn (ir rows x bt) c->ao H H1->N [E1 Z.p,E2 ↥j,E2 m,E2 ai,E2 ↥bt,E1 p2] H1:=λa _ g x e S p2 H1 t s1=>hN _ _ {p2,j,x,1,J,l,y,e,S,{p2,J,t,by show(ir rows x bt).length≤100;rwa[vO]},s1}
    cases wh with
    |true=>refine .inl {1,Z.p,dx,1,h1,bN d7,2,Z,wd,C0,C1,us,M,_,m,J,h,λB u a e _ q U=>?_,q2,λB e _ q=>(by rw[show B=j by omega,y] at q;cases q)};rw[show B=j by omega,y] at q;cases q;let⟨a',ea,O,g⟩:=U;cases ea;let⟨Y,r,Rr,g3,g4,g5⟩:=id O;exact{a,Y,1,g3,lZ (wh:=Z1) d7 d7 d7 d7,2,a,Z1,b,dn,rows,c,_,bt,J,O,g,λx e S p2 H1 t hn s1=>bf _<|L a O g x e S p2 H1 t s1,λz=>q4 j _ J l y z}
    |false=>refine .inr {1,Z.p,dx,1,h1,bN d7,2,Z,wd,C0,C1,us,M,_,m,J,h,λB u a e _ q U=>?_,q2,λB e _ q=>(by rw[show B=j by omega,y] at q;cases q)};rw[show B=j by omega,y] at q;cases q;let⟨a',ea,O,g⟩:=U;cases ea;let⟨Y,r,Rr,g3,g4,g5⟩:=id O;exact{a,Y,1,g3,lZ (wh:=Z2) d7 d7 d7 d7,2,a,Z2,b,dn,rows,c,_,bt,J,O,g,λx e S p2 H1 t hn s1=>bf _<|L a O g x e S p2 H1 t s1,λz=>q4 j _ J l y z}
  .exact .inl {1,Z.p,dx,1,h1,bN d7,2,Z,wd,C0,C1,us,M,_,m,J,h,λB u a e a4 q=>absurd ⟨o5,o5⟩ hi,q2,λB e a4 _=>absurd ⟨o5,o5⟩ hi}
 rintro σ H1 ⟨p2,j,x,u,rfl,rfl,l,y,rfl,S,t,s1⟩;let C:=h.same s1;let⟨X5,hX,hR,a0⟩:=(C.sh j l).ex;let⟨sx,g1,g2⟩:=id hX;let hd:=(h.dom j l m).mp (by rw[y];rfl);refine{1,Z.p,ah,dx,_,1,s1 _ _ h1,T.aR,T.cz,gv,1,Z.sl,_,3,X0.of C.sl,vZ<|zQ l,Z.x j,sx,1,g1,jb d7 d7,2,Z.x j,Z.d j,_,X5,m,p2,J,hX,o5,λH2 hS k=>?_};rw[al8 o5] at hS;let hF:=cH.sh hX;let⟨v,hv,_⟩:=hR.eK m u y;let a1:=C.pD C.sl l;let a2:=C.pD C.dl l;let e:=C.re l (x':=Z.x j) (d':=Z.d j) (n':=Z.n j) (M':=lD (M j) m<|some<|zV u x bt) k hF (λb hb=>by simp only[List.mem_cons,List.not_mem_nil,or_false] at hb;grind) (by rw[gZ];exact k _ _ C.sl (by simp[a1.1,a1.2.1])) (by rw[gZ];exact k _ _ C.dl (by simp[a2.1,a2.2.1])) {{_,hS,(hR.mono λv u z=>cE.dQ z k hF).put<|cE.dQ t k hF,by rwa[Ah,hv]},λm' u' e'=>?_} (λm'=>?_) (C.nle j l)<|.inl ⟨J,J⟩
 .rw[show Z.re j (Z.x j) (Z.d j) (Z.n j)=Z by unfold SAd.re;rw[gZ,gZ,gZ]] at e;exact q1 j u x J l y J S H2 e λb o eb hb=>k b o (s1 b o eb) hb
 .by_cases c:m'=m
  .rw[c];exact hd.2
  .rw[mR c] at e';exact((h.dom j l m').mp (by rw[e'];rfl)).2
 .by_cases c:m'=m
  .rw[c,sA];simp;exact hd
  .rw[mR c];exact h.dom j l m'
include T bh in
theorem xh(F:Fun K "together" "Store.together" ku f fd):⋯ 4 f fd ["self","some"] (iH ah aE):=by
 refine F.okY jC ?_;rintro vs H Q E ⟨p,y,O,nl,dl,L,a,S,sk,C,SL,xs,Y,rfl,⟨dx,h1⟩,U,h3,r,⟨i,k,n,h⟩,q⟩;refine⟨J,λB A outer s u=>⟨_,(aq (psS 2 jC.nd<|pH (aX uI (pv 1) gS<|aY _) Dq<|pv 1)
   (aq (gp amO J (dI<|pv 2) (pgN 3 jC.nd)
   (ak<|bL<|aZ (pv 0) T.aR bh aV (u.mono o6)<|aa (pv 3) af))
   (ak ck))),?_⟩⟩
 dsimp only[bq];refine{1,J,1,iK {1,?_}};refine bf [E1 p,E1 a,E1 a,Z0] ?_;dsimp only;let z:=(amc.mp n).1;refine{1,a,J,{_,X0.of r},fE (K:=K) (a:=a) (xs:=xs.map Z8) (λj σ H'=>∃m,σ=[E1 p,E1 a,E1 a,m]/\H'=H/\j≤k) {Z0,J,J,amE _} (λj σ H' _ t=>by let⟨_,_,rfl,_⟩:=t;exact X0.of r) ?_ ?_}
 .rintro j v σ H2 o ⟨m,rfl,rfl,b⟩;rw[amx] at o;let⟨x,g,rfl⟩:=ami.mp o;refine bf [E1 p,E1 a,E1 a,E2 x] ?_;dsimp only;refine{1,p,dx,1,h1,bN d7,1,p,y,O,nl,dl,L,S,sk,C,SL,x,J,⟨dx,h1⟩,U,h3,λc=>?_,λc=>?_}
  .refine{1,J,Nat.lt_of_le_of_ne b λe=>?_};rw[e,n] at g;cases g;exact i c
  .let e:j=k:=Nat.le_antisymm b (an7 λl=>c<|h j x l g);rw[e,n] at g;cases g;exact q c
 .rintro σ H2 ⟨m,rfl,rfl,b⟩;rw[ame] at b;omega
variable(qu:bJ "legs_of" 1 ["shelf","cost"] nA)
variable(iy:bM ah "together" 4 ["self","some"] (iH ah aE))
include T qu iy in
theorem BW{f:nt}{fd:qd}{v:nF}(F:qH K "legs" "Store.legs" gP f fd v):⋯ 5 f fd ["self","some"] (iH ah aE):=by
 refine F.okX BV (λvs H Q E h=>?_) λu A outer s H vs Q E c h=>?_
 .let⟨p,j,g,nl,dl,r,a,l,sk,n,SL,xs,t,rfl,h1,o,h3,m,i,q⟩:=h;rfl
 let⟨p,j,g,nl,dl,r,a,l,sk,n,SL,xs,t,rfl,h1,o,h3,m,i,q⟩:=h;exists _,(ak<|aT<|pcS qu aV c<|aa (aZ (pv 0) T.aR iy aV (c.mono o6)<|aa (pv 1) af)<|aa Dq af);let⟨dx,b⟩:=id h1;exact{1,p,dx,1,b,bN d7,1,p,j,g,nl,dl,r,a,l,sk,n,SL,xs,t,J,h1,o,h3,m,i,q}
include T in
theorem Jk(F:Fun K "legs_of" "legs_of" BC f fd):⋯ 1 f fd ["shelf","cost"] (nA):=by exact{λ_ _ _ _ h=>h.elim,λ_ _ _ _ _ _ _ _ _ _ _ _ _ h=>h.elim}
include T in
theorem LH(F:Fun K "answer" "answer" CY f fd):⋯ 1 f fd ["legs","day"] (nA):=by exact{λ_ _ _ _ h=>h.elim,λ_ _ _ _ _ _ _ _ _ _ _ _ _ h=>h.elim}
include T in
theorem KC(F:Fun K "prices" "prices" Dm f fd):⋯ 1 f fd ["legs"] (nA):=by exact{λ_ _ _ _ h=>h.elim,λ_ _ _ _ _ _ _ _ _ _ _ _ _ h=>h.elim}
include T in
theorem Ke(F:Fun K "way_of" "way_of" DW f fd):⋯ 1 f fd ["legs","day"] (nA):=by exact{λ_ _ _ _ h=>h.elim,λ_ _ _ _ _ _ _ _ _ _ _ _ _ h=>h.elim}
include T in
theorem HX(F:Fun K "line_of" "line_of" Bt f fd):⋯ 1 f fd ["piece"] (nA):=by exact{λ_ _ _ _ h=>h.elim,λ_ _ _ _ _ _ _ _ _ _ _ _ _ h=>h.elim}
variable(qA:bJ "do_deed" 5 ["shelf","deed"] (vc ay))
include T bh qA in
theorem AO(F:Fun K "carry" "Store.carry" nQ f fd):⋯ 6 f fd ["self","shelf","many"] (yr ah aD ay av aB aE):=by
 refine F.okY jo ?_;rintro vs H Q E ⟨Z,wd,C0,C1,us,M,iI,many,rfl,h,bc,q,qn⟩;refine⟨J,λbb A outer s hr=>⟨_,(aq (bL<|aZ (pv 0) T.aR bh aV (hr.mono o6)<|aa (pv 1) af)
   (aq (psS 3 jo.nd<|bG bw (bz (pv 0) J) (pv 1) λ_ _=>rfl)
   (aq (psS 4 jo.nd<|kc m6 (bz (pv 0) J) (jk<|pv 3)<|jk<|aL cD (pv 3)<|pv 2)
   (aq (gp amO J (dI<|pv 4) (pgN 5 jo.nd)
   (ak<|bL<|pcS qA aV hr<|aa (bG bw (bz (pv 0) J) (pv 1) λ_ _=>rfl)<|aa (pv 5) af))
   (aq (DV (aL cD (pv 3)<|bQ bP o8 T.fC amH<|aa (pv 4) af)<|DU (bz (pv 0) J) (pv 1) set_list)
   (ak<|aT<|bQ bP o8 T.fC amH<|aa (pv 4) af)))))),?_⟩⟩
 dsimp only[bq];let⟨dx,h1⟩:=id h.st;refine{1,Z.p,dx,1,h1,bN d7,1,Z.p,Z.q,Z.sl,Z.nl,Z.dl,Z.se,Z.rl,Z.sk,Z.ea,_,1,⟨dx,h1⟩,h.sl,J,λhI=>?_,qn};obtain⟨i,rfl,hi⟩:∃i:Z5,iI =↥i/\i<3:=⟨iI.toNat,o5,o5⟩;let a7:=h.nn;let ba:=h.n61;let ag:=h.nle i hi;obtain⟨n,B⟩:∃n,Z.n i=n:={1};rw[B] at ag;obtain⟨c,hc⟩:∃c,min many (us.length-n)=c:={1};let ac:n+c≤us.length:=by omega
 exists 1,Z.p,ah,dx,_,1,h1,T.aR,T.gY,A5,1,Z.dl,_,3,X0.of h.dl,vZ<|zQ hi;rw[B];refine bf [E1 Z.p,E2 ↥i,E2 ↥many,E2 ↥n,Z0,Z0] ?_;dsimp only;exists 1,Z.p,ah,dx,_,1,h1,T.aR,T.iB,D9;refine{2,2,3,1,Z.nl,1,X0.of h.nl,λl L=>?_};let a2:gg Z.NL (some ↥n) (some (↥n +↥many)) =(Z.NL.drop n).take c:=by unfold gg;rw[show(↥n +↥many) =((n+many:Z5):Z4) from J,HT.Gz,HT.Gz,a7,show min n us.length=n by omega];congr 1;omega
 rw[a2];refine bf [E1 Z.p,E2 ↥i,E2 ↥many,E2 ↥n,E1 l,Z0] ?_;dsimp only;generalize hH1:Z9 H l (.lst ((Z.NL.drop n).take c))=H1;let s1:ao H H1:=by rw[←hH1];exact ao.new L
 let C:H1 l=some (.lst ((Z.NL.drop n).take c)):=by rw[←hH1];exact aj
 let hB:=h.same s1;let a3:((Z.NL.drop n).take c).length=c:=by rw[amX,List.length_drop,a7];omega
 let⟨aS,ax,x1,x2⟩:=(h.sh i hi).at_;let a0:l≠Z.x i:=λe=>by rw[e,x1] at L;cases L
 let a5:l≠Z.d i:=λe=>by rw[e,x2] at L;cases L
 let O:=hB.sh i hi;rw[B] at O;let a6:cH H1 [Z.x i,Z.d i]:=by let⟨X5,z,_⟩:=O.ex;exact cH.sh z
 let hp:=h.Wj hi;let r:=h.pD h.sl hi;let y:=h.pD h.dl hi;refine oq (λσ H'=>∃S,σ=[E1 Z.p,E2 ↥i,E2 ↥many,E2 ↥n,E1 l,S]/\ShC ay av aB H' (Z.x i) (Z.d i) ((n+c:Z5):Z4) (iV us n c<|M i) 61/\bg [Z.x i,Z.d i] H1 H') (λN hN=>?_) ?_
 .refine{1,l,J,{_,X0.of C},fE (K:=K) (a:=l) (xs:=(Z.NL.drop n).take c) (λj σ H'=>∃S,σ=[E1 Z.p,E2 ↥i,E2 ↥many,E2 ↥n,E1 l,S]/\bg [Z.x i,Z.d i] H1 H'/\ShC ay av aB H' (Z.x i) (Z.d i) ((n+j:Z5):Z4) (iV us n j<|M i) 61) {Z0,J,bg.refl,by rwa[Jw]} (λj σ H' _ z0=>by let⟨_,_,k,_⟩:=z0;exact X0.of<|k l _ C (by simp[a0,a5])) ?_ ?_}
  .rintro j v σ H2 hj ⟨S,rfl,k2,hX⟩;let am:j<c:=by let:=(amc.mp hj).1;omega
   obtain⟨u,hu⟩:∃u,us[n+j]?=some u:={_,amg o5};let⟨t,a,e1,e2,e3⟩:=hB.no (n+j) u hu;rw[List.getElem?_take,ama am,ao7,e1] at hj;cases hj;refine bf [E1 Z.p,E2 ↥i,E2 ↥many,E2 ↥n,E1 l,E1 t] ?_;let⟨X5,a1,hR,aw⟩:=hX.ex;let as:Z.p∉[Z.x i,Z.d i]:=by simp[hp.1,hp.2]
   let ai:Z.sl∉[Z.x i,Z.d i]:=by simp[r.1,r.2.1]
   refine{1,Z.p,ah,dx,_,1,k2 _ _ (s1 _ _ h1) as,T.aR,T.cz,gv,1,Z.sl,_,3,X0.of<|k2 _ _ hB.sl ai,vZ<|zQ hi,1,Z.x i,Z.d i,t,a,_,X5,J,k2 _ _ e2<|a6.tup e2,a1,o5,λH' ar k'=>?_};let a9:cH H2 [Z.x i,Z.d i]:=cH.sh a1;let al:=cE.dQ e3 k2 a6;exists some<|.ref t,J,λb o e Y=>k' b o (k2 b o e Y) Y,{putK X5 (.inl ((n+j:Z5):Z4))<|.ref a,?_,?_,?_}
   .rw[show((n +(j+1):Z5):Z4) =((n+j:Z5):Z4)+1 by omega];exact ar
   .rw[Kr hu];exact(hR.mono λv u z=>cE.dQ z k' a9).put (cE.dQ al k' a9)
   .let:=K5 X5 (.inl ((n+j:Z5):Z4))<|.ref a;let:=Vd hR (N:=n+j) λm u e=>F2 (h.dom i hi) B e
    omega
   .intro m v e;let:=F2 (h.dom i hi) B e;omega
  .rintro σ H2 ⟨S,rfl,k2,hX⟩;rw[a3] at hX;exact hN _ _ ⟨S,J,hX,k2⟩
 rintro σ H2 ⟨S,rfl,an,k2⟩;let ae:Z.dl∉[Z.x i,Z.d i]:=by simp[y.1,y.2.1]
 let a4:=k2 _ _ hB.dl ae;let a8:=k2 l _ C (by simp[a0,a5]);exists 2,l,1,.inl<|X0.of a8,3;let h12:=k2 _ _ (s1 _ _ h1) (by simp[hp.1,hp.2]:Z.p∉[Z.x i,Z.d i]);exists 1,Z.p,ah,dx,_,1,h12,T.aR,T.gY,A5;exists 1,Z.dl,_,_,i,J,J,a4,aij hi;let ab:l≠Z.dl:=λe=>by rw[e,h.dl] at L;cases L
 exists 1,l,1,.inl<|X0.of (by rwa[au ab]);rw[a3];let kk:bg [Z.dl,Z.x i,Z.d i] H (Z9 H2 Z.dl (.lst ((l3 λi=>V.int (Z.n i:Z4)).set i (.int (↥n +↥c))))):=λb o e Y=>by
  let U:b≠Z.dl/\b≠Z.x i/\b≠Z.d i:=⇑Y
  rw[au U.1];exact k2 b o (s1 b o e) (by simp[U.2.1,U.2.2])
 let hF:cH H [Z.dl,Z.x i,Z.d i]:=cH.ls h.dl (by let⟨X5,z,_⟩:=(h.sh i hi).ex;exact cH.sh z)
 refine q i c _ J hi (by rw[B,hc]) ?_ kk;rw[B];refine h.re hi kk hF (λb Y=>by simp only[List.mem_cons,List.not_mem_nil,or_false] at Y;grind) ?_ ?_ ?_ (λm=>L8 (h.dom i hi) B ac m) ac<|.inl ⟨J,J⟩
 .rw[gZ];exact kk _ _ h.sl (by simp[r.1,r.2.1,h.nd.2.1])
 .rw[aj,YT hi];exact congrArg (λz=>some<|HO.lst z)<|af2 (f:=Z.n) (g:=λk:Nat=>V.int ↥k) (x:=n+c)
 .exact an.dQ (F:=[Z.dl]) (eL bg.refl<|.inl o7) (cH.ls a4 cH.nil) (by simp[y.1.symm]) (by simp[y.2.1.symm])
variable(fG:bM ah "carry" 6 ["self","shelf","many"] (yr ah aD ay av aB aE))
include T fG in
theorem B4(F:Fun K "note" "Store.note" qc f fd):⋯ 7 f fd ["self","deed"] (AU ah aD ay av aB):=by
 refine F.okY Co ?_;rintro vs H Q E ⟨Z,wd,C0,C1,us,M,t,a,u,rfl,h,g,v,ht,O,q⟩;refine⟨J,λS A outer s L=>⟨_,(aq (bL<|j6 am9 ans ant iU (bz (pv 0) J)<|aa (pv 1) af)
   (ak<|bL<|aZ (pv 0) T.aR fG aV (L.mono o6)<|aa aF<|aa aF af)),?_⟩⟩
 dsimp only[bq];let⟨dx,h1⟩:=id h.st;let Y:=h.nn;exists 1,Z.p,ah,dx,_,1,h1,T.aR,T.iB,D9,.inl {J,_,X0.of h.nl},1,Z.nl,3,h.nl,bF o5;let k1:bg [Z.nl] H (Z9 H Z.nl (.lst (Z.NL++[.ref t]))):=eL bg.refl<|.inl o7;let l:=h.app v O ht aj k1;generalize Z9 H Z.nl (.lst (Z.NL++[.ref t]))=H1 at k1 l ⊢;let⟨m,i⟩:=id l.st;refine{1,Z.p,m,1,i,bN d7,{Z with NL:=Z.NL++[.ref t]},wd,C0,C1,us++[u],M,(0),(1),J,l,o6,λj k H' ej hj y B U=>?_,λz=>absurd ⟨o5,o5⟩ z};obtain rfl:j=0:=by omega
 let r:k=1:=by let e:({Z with NL:=Z.NL++[V.ref t]}:SAd).n 0=us.length:=g;rw[e] at y;simp at y;omega
 subst r;let e:iV (us++[u]) (Z.n 0) 1 (M 0)=lD (M 0) ↥us.length (some u):=by let:=Kr (us:=us++[u]) (n:=us.length) (k:=0) (M:=M 0) (u:=u) o7;rw[Jw] at this;rwa[g]
 rw[show iV (us++[u]) (({Z with NL:=Z.NL++[V.ref t]}:SAd).n 0) 1 (M 0)=_ from e] at B;refine q H' B λb o e C=>?_
 let c:b≠Z.nl/\b≠Z.dl/\b≠Z.x 0/\b≠Z.d 0:=⇑C
 exact U b o (k1 b o e (by simp[c.1])) (by simp[c.2.1,c.2.2.1,c.2.2.2])
variable(jU:bM aD "passes" 4 ["self","changes"] (vL aD aK aP))
include T jU in
theorem zP(F:Fun K "passes" "Store.passes" mS f fd):⋯ 5 f fd ["self","changes"] (tP ah aD aK aP):=by refine F.okY y9 ?_;rintro vs H Q E ⟨p,i,t,nl,dl,x,ta,sa,a,TL,SL,wd,C0,C1,u,sk,v,L,h,rfl,⟨dx,h1⟩,D,r,q,c,b,g,q1,o,l⟩;refine{J,λn A outer s j=>{_,(ak<|aT<|aZ (bz (pv 0) J) T.cB jU aV (j.mono o6)<|aa (pv 1) af),?_}};dsimp only[bq];let⟨dd,m⟩:=D.ob;exact{1,p,ah,dx,_,1,h1,T.aR,T.fj,sj,i,dd,1,m,oR d7 d7 d7 d7,1,i,ta,sa,a,TL,SL,wd,C0,C1,L,h,J,D,r,q,c,b,g,q1,o,l}
variable(ny:bM aB "kind" 1 ["self"] yF)
variable(lX:bM av "kind" 1 ["self"] ym)
include T eN dX ny lX in
theorem uq(F:Fun K "last_whole" "Shelf.last_whole" iZ f fd):⋯ 4 f fd ["self"] (yp ay av aB):=by
 refine F.okY mF ?_;rintro vs H Q E ⟨p,d,fl,X5,M,rfl,hS,hR,a6,q⟩;refine⟨J,λa4 A outer s hr=>⟨_,(aq (UJ<|tQ (i:=1) mF.nd J (Or.inl J) (N:=["piece"]) (k:=1) (cap:=[]) J J (VB<|bz (pv 0) J) (λ_ _ _ _=>(pgN 0 (show(["piece"]:mu Z6).Nodup from by decide +kernel)<|.inr J)) (λ_ _ _ _=>(UK<|PW.pt<|pw_and (aX dB (rO (cT (pv 0) T.dW lX aO<|hr.mono o6)<|cT (pv 0) T.eB ny aO<|hr.mono o6) aC<|aY _)<|pw_and1<|nC<|rO (cT (pv 0) T.dW dX aO<|hr.mono o6)<|cT (pv 0) T.eB eN aO<|hr.mono o6)) λ_ _ _ _=>(VA (K:=K) J (pv 0) J))
   (ak<|aT<|F0 J J T.zR (aa (pv 1) af) gS)),?_⟩⟩
 dsimp only[bq];let⟨dx,h1,h2⟩:=id hS;refine{1,p,ay,dx,_,1,h1,T.cF,T.dG,nM,d,X5,J,h2,λo nf t c=>?_};let L:t≠d:=λe=>by rw[e,aj] at c;cases c
 let a3:H t=Z0:=by rwa[au L] at c
 refine KW t (d:=d) (o:=o) (X5:=X5) (λi σ H' ys=>∃(v:o9 V)(ds:mu Z4),σ=[v]/\ao (Z9 H d<|.frz o<|.dK X5) H'/\H' t=some (.lst ys)/\ys=ds.map Z8/\ds.length≤i/\∀x,x∈ds↔∃(j:Z5)(n:Z4)(u:PcU)(v:V),j<i/\X5[j]?=some ((Sum.inl n:Key),v)/\M n=some u/\u.wh=Z1/\u.good=Z1/\x =↥u.d) {Z0,[],J,ao.new c,aj,J,amd _,λx=>{nofun,λ⟨j,_,_,_,h,_⟩=>absurd h o5}} (λi σ H' ys _ z0=>by let⟨_,_,_,s',_⟩:=z0;exact s' _ _ aj) ?_ ?_
 .rintro i k v σ H1 ys hi ⟨v0,ds,rfl,s1,g,rfl,a0,C⟩;let⟨n,u,rfl,eM,⟨a,rfl,a2,S⟩,_⟩:=hR.at_ hi;let a5:=(amc.mp hi).1;let hP:=a2.HV (aif s1)<|sf.one h2;let step:∀(x:Z4),(∃(j:Z5)(n:Z4)(u:PcU)(v:V),j<i+1/\X5[j]?=some ((Sum.inl n:Key),v)/\M n=some u/\u.wh=Z1/\u.good=Z1/\x =↥u.d)↔(x∈ds∨(u.wh=Z1/\u.good=Z1/\x =↥u.d)):=λx=>by
   rw[C x];constructor
   .rintro⟨j,n',u',v',hj,y,B,hw,l,Y⟩;by_cases a1:j<i
    .exact .inl ⟨j,n',u',v',a1,y,B,hw,l,Y⟩
    .let:j=i:=by omega
     subst this;rw[hi] at y;cases y;rw[eM] at B;cases B;exact .inr ⟨hw,l,Y⟩
   .rintro(⟨j,n',u',v',hj,r⟩|⟨hw,l,Y⟩)
    .exact⟨j,n',u',v',o5,r⟩
    .exact{i,n,u,_,o5,hi,eM,hw,l,Y}
  let⟨wh,b,dn,rows,bn⟩:=u;let⟨m,r,Rr,g1,g2,g3⟩:=id hP;cases wh with
  |false=>refine .inr {1,a,m,1,g1,lZ (wh:=Z2) d7 d7 d7 d7,a,J,J,1,?_};refine cP (λz=>absurd (V.str.inj z) d7) ?_;refine iK {_,ds,J,s1,g,J,o5,λx=>(Iff.trans (step x) {λh=>h.elim id λh=>absurd h.1 nofun,Or.inl}).symm}
  |true=>
   refine .inl {1,a,m,1,g1,lZ (wh:=Z1) d7 d7 d7 d7,a,J,J,1,?_};refine eO J ?_;refine .inl {1,a,m,1,g1,lZ (wh:=Z1) d7 d7 d7 d7,a,Z1,b,dn,rows,1,hP,S,λH2 s2=>{1,?_}};rw[show decide (bn =((sY Z1 b dn rows:Z5):Z4))=PcU.good ⟨Z1,b,dn,rows,bn⟩ from rfl];let U:=s1.trans s2;by_cases l:PcU.good ⟨Z1,b,dn,rows,bn⟩=Z1
   .rw[l];refine iz {1,a,av,m,_,1,s2 _ _ g1,T.dW,T.iF,rR,s2 _ _ g,by rw[ame];exact bF o5,_,ds++[↥dn],J,λb' o' e=>?_,aj,o7,by simp;omega,λx=>?_}
    .rw[au<|aA e c];exact U b' o' e
    .rw[step x,amy,amr];exact{λh=>h.imp id λh=>⟨J,l,h⟩,λh=>h.imp id λh=>h.2.2}
   .rw[Bool.eq_false_iff.mpr l];exact iK {_,ds,J,U,s2 _ _ g,J,o5,λx=>(Iff.trans (step x) {λh=>h.elim id λh=>absurd h.2.1 l,Or.inl}).symm}
 .rintro σ H1 ys ⟨v0,ds,rfl,s1,g,rfl,a0,C⟩;refine bf [E1 p,E1 t] ?_;exists d,o,X5,s1 _ _ aj,nf;let s2:=KJ h2 s1;let O:Z9 H1 d (.dK X5) t=some (.lst (ds.map Z8)):=by rwa[au L]
  generalize Z9 H1 d (.dK X5)=H2 at s2 O ⊢;refine{1,t,ds,J,X0.of O,q _ H2 ((Gi ds).ext λx=>?_) s2};rw[C x];constructor
  .rintro⟨j,n,u,v,_,_,h3,h4,h5,h6⟩;exact⟨n,u,h3,h4,h5,h6⟩
  .rintro⟨n,u,h3,h4,h5,h6⟩;let⟨j,v,hj⟩:=hR.ix h3;exact{j,n,u,v,(amc.mp hj).1,hj,h3,h4,h5,h6}
variable(gq:bM ay "last_whole" 4 ["self"] (yp ay av aB))
variable(fF:bM ah "reach" 7 ["self","shelf"] (vA ah aD ay av aB aE))
variable(ko:oO "NoBase" aQ 1 ["self","base","day"] (Cq aQ "base" "day"))
variable(eG:bM ah "today" 1 ["self"] (x9 ah aD))
include T gq fF ko eG in
theorem xB(F:Fun K "base_for" "Store.base_for" kB f fd):⋯ 8 f fd ["self","word"] (sJ ah aD ay av aB aQ):=by
 refine F.okY jA ?_;rintro vs H Q E ⟨Z,wd,C0,C1,us,M,c,rfl,n,h,q1,C⟩;refine⟨J,λB A outer s l=>⟨_,(aq (bU (aX dB (pv 1) aC<|aY _) (ak<|psS 2 jA.nd<|cT (bG bw (bz (pv 0) J) aF λ_ _=>rfl) T.cF gq aO<|l.mono o6)<|ak<|bU (aX dB (pv 1) aC<|aY _) (ak<|psS 2 jA.nd<|aZ (pv 0) T.aR fF aV (l.mono o6)<|aa aF af)<|ak ck)
   (aq (bU (aX uI (pv 2) gS<|aY _) (ak<|dD J eU<|fT ko (l.mono o6) J<|aa (pv 2)<|aa (cT (pv 0) T.aR eG aO<|l.mono o6) af) bH)
   (ak<|aT<|pv 2))),?_⟩⟩
 dsimp only[bq];let⟨dx,h1⟩:=id h.st;let⟨X5,o,L,u⟩:=(h.sh 0 o6).ex;let⟨t,O,S⟩:=id o;let no:∀{x:Z6},c≠x->decide (V.str c=V.str x)=Z2:=λe=>amN λz=>e<|V.str.inj z
 refine oq (λσ H'=>∃v:V,σ=[E1 Z.p,some<|.str c,some v]/\ig (iQ (M 0) c) v/\ao H H') (λN r=>?_) ?_
 .by_cases i:c = "since"
  .refine gz (λm a=>{1,J,1,by rw[amA (by rw[i])];exact a}) ?_;refine{1,Z.p,ah,dx,_,1,h1,T.aR,T.cz,gv,Z.sl,_,_,.ref<|Z.x 0,J,J,X0.of h.sl,J,Z.x 0,t,1,O,jb d7 d7,Z.x 0,Z.d 0,_,X5,M 0,J,o,L,o5,λv H' g s=>bf [E1 Z.p,some<|.str c,some v]<|r _ _ {v,J,?_,s}};exact g.ext λx=>by unfold iQ;rw[ama i]
  .refine fX (λm a=>{1,J,1,by rwa[no i]}) ?_;let y:c = "last":=n.resolve_left i;refine gz (λm a=>{1,J,1,by rw[amA (by rw[y])];exact a}) ?_;refine{1,Z.p,dx,1,h1,bN d7,Z,wd,C0,C1,us,M,(0),J,h,λj U Y v H' g s=>bf [E1 Z.p,some<|.str c,some v]<|r _ _ {v,J,?_,s},λz=>absurd ⟨o5,o5⟩ z};obtain rfl:j=0:=by omega
   exact g.ext λx=>by unfold iQ;rw[al8 i]
 .rintro σ H1 ⟨v,rfl,g,s1⟩;rcases id g with⟨rfl,_⟩|⟨b,rfl,_⟩
  .refine gz (λm a=>{1,J,1,a}) ?_;exact{2,Z.p,dx,1,s1 _ _ h1,bN d7,Z.p,Z.q,Z.sl,Z.nl,Z.dl,Z.se,Z.ta,Z.sa,Z.TL,Z.SL,wd,C0,C1,Z.rl,Z.sk,Z.ea,J,{dx,s1 _ _ h1},h.D.same s1,LR (E:=E) T.kh λe H' he hs=>C g e H' he<|s1.trans hs}
  .refine fX (λm a=>{1,J,1,a}) ?_;unfold lV;dsimp only;exact{1,q1 b H1 g s1}
variable(jt:bM aD "written" 4 ["self","one","other"] (tT aD aU))
include T ko jt in
theorem HQ(F:Fun K "gain_of" "gain_of" uN f fd):⋯ 6 f fd ["days","base","day"] (rj aD aQ):=by
 refine F.okY zm ?_;rintro vs H Q E ⟨p,ta,sa,TL,SL,wd,C0,C1,d,rfl,D,l,j,h0,h1,q⟩;refine⟨J,λi A outer s a=>⟨_,(aq (psS 3 zm.nd<|aZ (pv 0) T.cB jt aV (a.mono o6)<|aa (pv 1)<|aa (pv 2) af)
   (aq (bU (aX zl (pv 1) (pv 2)<|aY _) (ak<|dD J eU<|fT ko (a.mono o6) J<|aa (pv 1)<|aa (pv 2) af) bH)
   (aq ck
   (ak ck)))),?_⟩⟩
 dsimp only[bq];let⟨dx,g⟩:=D.ob;refine{1,p,dx,1,g,oR d7 d7 d7 d7,2,p,ta,sa,TL,SL,wd,C0,C1,d,d,J,D,l,j,λ_ _ r ns H1 h t n o s1=>?_,λx b=>?_}
 .refine bf [E1 p,E2 d,E2 d,E1 r,Z0] ?_;dsimp only;refine gz (λm c=>?_) ?_
  .exists 2,3,1;rwa[amA (show d≥d by omega)]
  exact{2,LR (E:=E) T.kh λe H' he hs=>q e H' he<|s1.trans hs}
 .rcases b with⟨z,_⟩|⟨_,z,_⟩
  .exact absurd ⟨h0,h1⟩ z
  .exact absurd ⟨h0,h1⟩ z
variable(oG:bJ "whole_of" 6 ["days","day"] (tX aD av aB aU))
variable(qj:bJ "gain_of" 6 ["days","base","day"] (rj aD aQ))
variable(iu:bM ah "base_for" 8 ["self","word"] (sJ ah aD ay av aB aQ))
include T eG oG qj iu in
theorem uG(F:Fun K "new_piece" "Store.new_piece" jE f fd):⋯ 9 f fd ["self","word"] (qM ah aD ay av aB aQ):=by
 refine F.okY uF ?_;rintro vs H Q E ⟨Z,wd,C0,C1,us,M,x,rfl,t,h,q1,y⟩;refine⟨J,λO A outer s i=>⟨_,(aq (bU (aX dB (pv 1) aC<|aY _) (ak<|aT<|pcS oG aV i<|aa (bz (pv 0) J)<|aa (cT (pv 0) T.aR eG aO<|i.mono o6) af) bH)
   (ak<|aT<|pcS qj aV i<|aa (bz (pv 0) J)<|aa (aZ (pv 0) T.aR iu aV (i.mono o6)<|aa (pv 1) af)<|aa (cT (pv 0) T.aR eG aO<|i.mono o6) af)),?_⟩⟩
 dsimp only[bq];let⟨dx,h1⟩:=id h.st;let Y:C0.length≠0:=h.D.ne;let L:((↥C0.length-1).toNat)=C0.length-1:=by omega
 let ok:okD C0.length (↥C0.length-1):=⟨o5,o5⟩;let B:=h.D.w2;by_cases m:x = "whole"
 .refine gz (λU n=>{1,J,1,by rw[amA (by rw[m])];exact n}) ?_;refine{1,Z.p,ah,dx,_,1,h1,T.aR,T.fj,sj,1,Z.p,dx,1,h1,bN d7,Z.p,Z.q,Z.sl,Z.nl,Z.dl,Z.se,Z.ta,Z.sa,Z.TL,Z.SL,wd,C0,C1,Z.rl,Z.sk,Z.ea,J,⟨dx,h1⟩,h.D,Z.q,wd,C0,C1,1,h.alI,λ_ a c H' u v s=>?_,λz=>absurd ok z};rw[L] at u v;let j:=h.T c<|aml u;exact q1 m a _ H' ⟨c,u,J⟩ {a,J,v,by show(jX c).length≤100;rw[qi,j.1];omega} s
 .refine fX (λU n=>{1,J,1,by rwa[amN λz=>m<|V.str.inj z]}) ?_;let⟨g,r⟩:=t.resolve_left m;unfold lV;dsimp only;refine{1,Z.p,ah,dx,_,1,h1,T.aR,T.fj,sj,1,Z.p,dx,1,h1,bN d7,1,Z,wd,C0,C1,us,M,x,J,g,h,λb H1 l s1=>?_,λl e H' he hs=>y .non e H' g l he hs};let o:b =↥C0.length-1:=by
   rcases r _ l with z|z
   .cases z
   .exact V.int.inj z
  subst o;let C:=h.tn;exact{1,Z.p,dx,1,s1 _ _ h1,bN d7,Z.p,Z.q,Z.sl,Z.nl,Z.dl,Z.se,Z.ta,Z.sa,Z.TL,Z.SL,wd,C0,C1,Z.rl,Z.sk,Z.ea,J,{dx,s1 _ _ h1},h.D.same s1,Z.q,Z.ta,Z.sa,Z.TL,Z.SL,wd,C0,C1,1,h.D.same s1,h.S,o5,o5,o5,λe H' he hs=>y (.int _) e H' g l he<|s1.trans hs}
variable(gM:bM ah "new_piece" 9 ["self","word"] (qM ah aD ay av aB aQ))
variable(gK:bM ay "following" 1 ["self"] (pW ay))
variable(kW:bM ah "note" 7 ["self","deed"] (AU ah aD ay av aB))
include T gM gK kW in
theorem BY(F:Fun K "keep" "Store.keep" pV f fd):⋯ 10 f fd ["self","word"] (A0 ah aD ay av aB aQ):=by
 refine F.okY nU ?_;rintro vs H Q E ⟨Z,wd,C0,C1,us,M,j,rfl,l,h,c,m,q1,C⟩;refine⟨J,λB A outer s g=>⟨_,(aq (psS 2 nU.nd<|aZ (pv 0) T.aR gM aV (g.mono o6)<|aa (pv 1) af)
   (aq (psS 3 nU.nd<|cT (bG bw (bz (pv 0) J) aF λ_ _=>rfl) T.cF gK aO<|g.mono o6)
   (aq (bL<|aZ (pv 0) T.aR kW aV (g.mono o6)<|aa (aI<|aa aC<|aa (pv 2) af) af)
   (ak<|aT<|pv 3)))),?_⟩⟩
 dsimp only[bq];let⟨dx,h1⟩:=id h.st;refine{1,Z.p,dx,1,h1,bN d7,1,Z,wd,C0,C1,us,M,j,J,l,h,λy a u H1 z r s1=>?_,C};refine bf [E1 Z.p,some<|.str j,E1 a,Z0] ?_;dsimp only;let i:=h.same s1;let⟨X5,n,_⟩:=(i.sh 0 o6).ex;let⟨L,v,S⟩:=id n;exists 1,Z.p,ah,dx,_,1,s1 _ _ h1,T.aR,T.cz,gv,Z.sl,_,_,.ref<|Z.x 0,J,J,X0.of i.sl,J,Z.x 0,L,1,v,jb d7 d7,Z.x 0,Z.d 0,_,X5,J,n;rw[c];refine bf [E1 Z.p,some<|.str j,E1 a,E2 ↥us.length] ?_;dsimp only;refine{1,Z.p,dx,1,s1 _ _ h1,bN d7,1,E4,λt O=>?_};let s2:=ao.new O (o:=.tup [.str "put",.ref a]);exact{Z,wd,C0,C1,us,M,t,a,u,J,i.same s2,c,m,aj,r.keep s2,λH' h' k=>{1,q1 y t u H' z h' λb o e q=>k b o (s2 b o<|s1 b o e) q}}
include T bh in
theorem yz(F:Fun K "numbers" "Store.numbers" mw f fd):⋯ 4 f fd ["self","shelf"] (qR ah aE):=by
 refine F.okY ye ?_;rintro vs H Q E ⟨p,c,b,nl,dl,n,g,sk,l,SL,i,rfl,⟨dx,h1⟩,m,h3,j,q⟩;refine⟨J,λh A outer s a=>⟨_,(aq (bL<|aZ (pv 0) T.aR bh aV (a.mono o6)<|aa (pv 1) af)
   (ak ck)),?_⟩⟩
 exact{1,p,dx,1,h1,bN d7,1,p,c,b,nl,dl,n,g,sk,l,SL,i,J,⟨dx,h1⟩,m,h3,λhi=>absurd hi j,q}
include T bh in
theorem Ce(F:Fun K "heal" "Store.heal" pQ f fd):⋯ 7 f fd ["self","shelf","other"] (x8 ah aE):=by
 refine F.okY Ci ?_;rintro vs H Q E ⟨p,c,b,nl,dl,m,g,sk,h,SL,i,j,rfl,⟨dx,h1⟩,l,h3,q,q1,r⟩;refine⟨J,λo A outer s a=>⟨_,(aq (bL<|aZ (pv 0) T.aR bh aV (a.mono o6)<|aa (pv 1) af)
   (aq (bL<|aZ (pv 0) T.aR bh aV (a.mono o6)<|aa (pv 2) af)
   (aq ck
   (aq ck
   (ak ck))))),?_⟩⟩
 refine{1,p,dx,1,h1,bN d7,1,p,c,b,nl,dl,m,g,sk,h,SL,i,J,⟨dx,h1⟩,l,h3,λhi=>?_,q1};exact{1,p,dx,1,h1,bN d7,1,p,c,b,nl,dl,m,g,sk,h,SL,j,J,⟨dx,h1⟩,l,h3,λn=>absurd ⟨hi,n⟩ q,r hi}
include T in
theorem xj(F:Fun K "__init__" "AnyOf.__init__" kj f fd):⋯ 2 f fd ["self","rules"] (yw cZ):=by refine F.okY xm ?_;rintro vs H Q E ⟨p,dx,l,xs,rfl,c,g,a,q⟩;refine{J,λh A outer s i=>{_,(ak<|cI (pv 0) (bx nV o8 T.AS aou<|aa (pv 1) af) J),?_}};dsimp only[bq];refine{1,l,xs,J,.inl {X0.of g,λt b=>{1,p,cZ,dx,1,ao.new b p _ c,T.Mb,T.ou,(by show 0<1000;decide),?_}}};exact q t _ aj<|eL (bg.of_same<|ao.new b)<|.inl o7
variable(mC:Hv P w K mg base "reached" 6 ["shelf","good"] [Value.bool Z2] (jy ay av aB))
include T mV mC in
theorem Cg(F:Fun K "seal" "Store.seal" pA f fd):⋯ 7 f fd ["self","day"] (AG ah aD ay av aB aU):=by
 refine F.okY B7 ?_;rintro vs H Q E ⟨Z,wd,C0,C1,us,M,x,u,rfl,h,g,n,q1,r⟩;refine⟨J,λq A outer s c=>⟨_,(aq (bU (aX Dk (pv 1) (Lu (dvs:=[V.bl Z2]) mC (Paired.cons J Paired.nil) aO (c.mono o6) J<|aa (bG bw (bz (pv 0) J) aF λ_ _=>rfl) af) (by with_unfolding_all rfl)) (ak<|dD J eU<|fT mV (c.mono o6) J<|aa (pv 1) af) bH)
   (ak<|AA (sG c) (bz (pv 0) J) (pv 1) lJ J)),?_⟩⟩
 dsimp only[bq];let⟨dx,h1⟩:=id h.st;let⟨X5,t,o,m⟩:=(h.sh 0 o6).ex;refine{2,Z.p,ah,dx,_,1,h1,T.aR,T.cz,gv,Z.sl,_,_,.ref<|Z.x 0,J,J,X0.of h.sl,J,Z.x 0,Z.d 0,_,X5,lG<|M 0,Z2,J,Lk t o,o5,λl ns H1 j a i v s1=>?_};exists l,1,.inl<|X0.of j,J,(by simp[gb]);rw[GK];by_cases b:x∈ns
 .exists 1;rw[amA b];change if Z2=Z1 then _ else _
  refine iK ?_;unfold lV;dsimp only;exact{1,Z.p,ah,dx,_,1,s1 _ _ h1,T.aR,T.jQ,J,1,Z.se,1,yc.k (k:=Sum.inl x) (s1 _ _ g)<|bF o5,q1 ((a.2 x).mp b) _<|eL (bg.of_same s1)<|.inl o7}
 .exists 1;rw[amN b];change if Z1=Z1 then _ else _
  exact iz {1,dH (E:=E) T.oW λe H' he hs=>r (λz=>b<|(a.2 x).mpr z) e H' he<|s1.trans hs}
variable(zk:jc "Days" aD 4 ["self","wide"] (zX aD bE))
variable(oV:jc "Shelf" ay 1 ["self"] (yi ay))
include T zk oV in
theorem xA(F:Fun K "__init__" "Store.__init__" kD f fd):⋯ 6 f fd ["self","wide","rule","seek","each"] (uS ah aD ay bE):=by
 refine F.okY w9 ?_;rintro vs H Q E ⟨p,dx,wd,q,sk,r,rfl,hp,c0,q1⟩;refine⟨J,λc4 A outer s hr=>⟨_,(aq (cI (pv 0) (g9 zk aV (hr.mono o6) J<|aa (pv 1) af) J)
   (aq (cI (pv 0) (pv 2) J)
   (aq (cI (pv 0) (pv 3) J)
   (aq (cI (pv 0) (pv 4) J)
   (aq (cI (pv 0) (dZ<|aa (uW oV aO (hr.mono o6) J)<|aa (uW oV aO (hr.mono o6) J)<|aa (uW oV aO (hr.mono o6) J) af) J)
   (aq (cI (pv 0) (dZ af) J)
   (aq (cI (pv 0) (dZ<|aa aF<|aa aF<|aa aF af) J)
   (ak<|cI (pv 0) tK J)))))))),?_⟩⟩
 dsimp only[bq];refine{1,λc dq ba hdq cd=>{c,dq,wd,J,aj,λhw=>?_,λhw=>absurd c0 hw}};intro ta sa C L H1 D fr k1;let s1:ao H H1:=cA ba hdq k1;let a1:Alv (p::foot c ta sa [C] [L]) H1:=Alv.cons (λa ha=>by let⟨o,e⟩:=D.here a ha;rw[e];simp)<|s1 _ _ hp;let as:∀ b∈foot c ta sa [C] [L],H b=Z0:=λb B=>by
  simp only[foot,List.mem_cons,List.mem_append,List.not_mem_nil,or_false] at B;let z:b=c∨b∈[ta,sa,C,L]:=by simp only[List.mem_cons,List.not_mem_nil,or_false];grind
  rcases z with z|z
  .rw[z];exact ba
  .exact(bB (bB<|fr b z).1).1
 let n1:(p::foot c ta sa [C] [L]).Nodup:=amC.mpr {λz=>(by let:=as p z;rw[hp] at this;cases this),D.nd};exists J,1,p,ah,dx,1,s1 _ _ hp,T.aR,T.fj,(by show 0<1000;decide);exists 2,p,ah,dx,1,aj,T.aR,T.pX,(by show 1<1000;decide);exists 2,p,ah,dx,1,aj,T.aR,T.pU,(by show 2<1000;decide);exists 2,p,ah,dx,1,aj,T.aR,T.pN,(by show 3<1000;decide);rw[gU,gU,gU];let p2:Z9 H1 p (.ins ah dx [("days",.ref c),("rule",q),("seek",sk),("each",r)]) p=some (.ins ah dx [("days",.ref c),("rule",q),("seek",sk),("each",r)]):=aj;let r2:∀b o,H1 b=some o->b≠p->Z9 H1 p (.ins ah dx [("days",.ref c),("rule",q),("seek",sk),("each",r)]) b=some o:=λb o e n=>by rw[au n];exact e
 let a2:Alv _ (Z9 H1 p (.ins ah dx [("days",.ref c),("rule",q),("seek",sk),("each",r)])):=a1.mv Az;change Jq _ _ _ _ (Z9 H1 p<|.ins ah dx [("days",.ref c),("rule",q),("seek",sk),("each",r)]);generalize Z9 H1 p (.ins ah dx [("days",.ref c),("rule",q),("seek",sk),("each",r)])=H2 at p2 r2 a2 ⊢;refine λx c1 hx bh cc=>{x,c1,J,aj,λd H3 hX hd k3=>{J,?_}}
 let s3:ao H2 H3:=cA hx bh k3;let aw:=(bB (bB hd).1).1;let⟨sx,g1,g2⟩:=id hX;let n3:(d::x::p::foot c ta sa [C] [L]).Nodup:=amC.mpr {λz=>(amq.mp z).elim (λz=>(bB hd).2 z) λz=>a2.new aw z,amC.mpr {a2.new hx,n1}};let a3:=((a2.mv<|pO s3).cons g1).cons g2;refine λy bp hy bj ca=>{y,bp,J,aj,λS H4 hY bc k4=>{J,?_}}
 let s4:ao H3 H4:=cA hy bj k4;let ai:=(bB (bB bc).1).1;let⟨sy,g3,g4⟩:=id hY;let n4:(S::y::d::x::p::foot c ta sa [C] [L]).Nodup:=amC.mpr {λz=>(amq.mp z).elim (λz=>(bB bc).2 z) λz=>a3.new ai z,amC.mpr {a3.new hy,n3}};let a4:=((a3.mv<|pO s4).cons g3).cons g4;refine λz bt hz bb ce=>{z,bt,J,aj,λdz H5 hZ bn k5=>{J,?_}}
 let s5:ao H4 H5:=cA hz bb k5;let al:=(bB (bB bn).1).1;let⟨sz,g5,g6⟩:=id hZ;let n5:(dz::z::S::y::d::x::p::foot c ta sa [C] [L]).Nodup:=amC.mpr {λz=>(amq.mp z).elim (λz=>(bB bn).2 z) λz=>a4.new al z,amC.mpr {a4.new hz,n4}};let a5:=((a4.mv<|pO s5).cons g5).cons g6;refine{E5,λl U=>?_};let n6:(l::dz::z::S::y::d::x::p::foot c ta sa [C] [L]).Nodup:=amC.mpr {a5.new U,n5};let p5:=s5 _ _<|s4 _ _<|s3 _ _ p2;exists 1,p,ah,dx,1,ao.new U _ _ p5,T.aR,T.cz,(by show 4<1000;decide);let nb:∀{b:nt},b∈(l::dz::z::S::y::d::x::p::foot c ta sa [C] [L])->b∉[p]->b≠p:=λ_ h=>by simpa using h
 let r6:∀b o,H5 b=some o->b≠p->Z9 (Z9 H5 l (.lst [.ref x,.ref y,.ref z])) p (.ins ah dx [("days",.ref c),("rule",q),("seek",sk),("each",r),("shelves",.ref l)]) b=some o:=λb o e n=>by rw[au n];exact ao.new U _ _ e
 let bm:l≠p:=λz=>by rw[z,p5] at U;cases U
 let h6:Z9 (Z9 H5 l (.lst [.ref x,.ref y,.ref z])) p (.ins ah dx [("days",.ref c),("rule",q),("seek",sk),("each",r),("shelves",.ref l)]) l=some (.lst [.ref x,.ref y,.ref z]):=by rw[au bm,aj]
 let p6:Z9 (Z9 H5 l (.lst [.ref x,.ref y,.ref z])) p (.ins ah dx [("days",.ref c),("rule",q),("seek",sk),("each",r),("shelves",.ref l)]) p=some (.ins ah dx [("days",.ref c),("rule",q),("seek",sk),("each",r),("shelves",.ref l)]):=aj;let a6:=((a5.mv<|pO<|ao.new U (o:=.lst [.ref x,.ref y,.ref z])).mv<|Az (p:=p) (o:=.ins ah dx [("days",.ref c),("rule",q),("seek",sk),("each",r),("shelves",.ref l)])).cons h6;change Jq _ _ _ _ (Z9 (Z9 H5 l<|.lst [.ref x,.ref y,.ref z]) p<|.ins ah dx [("days",.ref c),("rule",q),("seek",sk),("each",r),("shelves",.ref l)]);generalize Z9 (Z9 H5 l (.lst [.ref x,.ref y,.ref z])) p (.ins ah dx [("days",.ref c),("rule",q),("seek",sk),("each",r),("shelves",.ref l)])=H6 at r6 h6 p6 a6 ⊢;refine{amE _,λnl Y=>{1,p,ah,dx,1,ao.new Y _ _ p6,T.aR,T.iB,(by show 5<1000;decide),?_}};let n7:(nl::l::dz::z::S::y::d::x::p::foot c ta sa [C] [L]).Nodup:=amC.mpr {a6.new Y,n6};let s7:ao H6 (Z9 H6 nl (.lst [])):=ao.new Y;let h7:Z9 H6 nl (.lst []) nl=some (.lst []):=aj;let bd:nl≠p:=λz=>by rw[z,p6] at Y;cases Y
 let a7:=(a6.mv<|pO s7).cons h7;let p7:=s7 _ _ p6;generalize Z9 H6 nl (.lst [])=H7 at s7 h7 a7 p7 ⊢;let a8:=a7.mv<|Az (p:=p) (o:=.ins ah dx [("days",.ref c),("rule",q),("seek",sk),("each",r),("shelves",.ref l),("noted",.ref nl)]);refine{E5,λdl ac=>{1,p,ah,dx,1,ao.new ac _ _ aj,T.aR,T.gY,(by show 6<1000;decide),?_}};let n8:(dl::nl::l::dz::z::S::y::d::x::p::foot c ta sa [C] [L]).Nodup:=amC.mpr {a8.new ac,n7};let ag:=(bB ac).1;let bo:=(bB ac).2;dsimp only;let r9:∀b o,H7 b=some o->b≠p->Z9 (Z9 (Z9 H7 p (.ins ah dx [("days",.ref c),("rule",q),("seek",sk),("each",r),("shelves",.ref l),("noted",.ref nl)])) dl (.lst [.int 0,.int 0,.int 0])) p (.ins ah dx [("days",.ref c),("rule",q),("seek",sk),("each",r),("shelves",.ref l),("noted",.ref nl),("done",.ref dl)]) b=some o:=λb o e n=>by rw[au n,au<|aA e ag,au n];exact e
 let p9:Z9 (Z9 (Z9 H7 p (.ins ah dx [("days",.ref c),("rule",q),("seek",sk),("each",r),("shelves",.ref l),("noted",.ref nl)])) dl (.lst [.int 0,.int 0,.int 0])) p (.ins ah dx [("days",.ref c),("rule",q),("seek",sk),("each",r),("shelves",.ref l),("noted",.ref nl),("done",.ref dl)]) p=some (.ins ah dx [("days",.ref c),("rule",q),("seek",sk),("each",r),("shelves",.ref l),("noted",.ref nl),("done",.ref dl)]):=aj;let h9:Z9 (Z9 (Z9 H7 p (.ins ah dx [("days",.ref c),("rule",q),("seek",sk),("each",r),("shelves",.ref l),("noted",.ref nl)])) dl (.lst [.int 0,.int 0,.int 0])) p (.ins ah dx [("days",.ref c),("rule",q),("seek",sk),("each",r),("shelves",.ref l),("noted",.ref nl),("done",.ref dl)]) dl=some (.lst [.int 0,.int 0,.int 0]):=by rw[au bo,aj]
 change aey _ _ _ _ _ _ (Z9 (Z9 (Z9 H7 p<|.ins ah dx [("days",.ref c),("rule",q),("seek",sk),("each",r),("shelves",.ref l),("noted",.ref nl)]) dl<|.lst [.int 0,.int 0,.int 0]) p<|.ins ah dx [("days",.ref c),("rule",q),("seek",sk),("each",r),("shelves",.ref l),("noted",.ref nl),("done",.ref dl)]);generalize Z9 (Z9 (Z9 H7 p (.ins ah dx [("days",.ref c),("rule",q),("seek",sk),("each",r),("shelves",.ref l),("noted",.ref nl)])) dl (.lst [.int 0,.int 0,.int 0])) p (.ins ah dx [("days",.ref c),("rule",q),("seek",sk),("each",r),("shelves",.ref l),("noted",.ref nl),("done",.ref dl)])=H9 at r9 p9 h9 ⊢;refine λg a9=>{1,p,ah,dx,1,ao.new a9 _ _ p9,T.aR,T.jQ,(by show 7<1000;decide),?_}
 let ae:∀b o,H9 b=some o->b≠p->Z9 (Z9 H9 g (.dK [])) p (.ins ah dx (stF c l nl dl g q sk r)) b=some o:=λb o e n=>by rw[au n];exact ao.new a9 _ _ e
 let aS:Z9 (Z9 H9 g (.dK [])) p (.ins ah dx (stF c l nl dl g q sk r)) p=some (.ins ah dx (stF c l nl dl g q sk r)):=aj;let c2:g∉dl::nl::l::dz::z::S::y::d::x::p::foot c ta sa [C] [L]:=λB=>by
  let an:∀o,H9 g=some o->False:=λo e=>by rw[a9] at e;cases e
  rcases amq.mp B with e|B
  .exact an _ (by rwa[e])
  .by_cases ep:g=p
   .exact an _ (by rwa[ep])
   .cases e7:H7 g with
    |none=>exact a7 g B e7
    |some o=>exact an _<|r9 _ _ e7 ep
 let ab:g≠p:=λz=>by rw[z,p9] at a9;cases a9
 let ax:Z9 (Z9 H9 g (.dK [])) p (.ins ah dx (stF c l nl dl g q sk r)) g=some (.dK []):=by rw[au ab,aj]
 let be:H g=Z0:=by
  cases e:H g with
  |none=>rfl
  |some o=>have:=r9 _ _ (s7 _ _<|r6 _ _ (s5 _ _<|s4 _ _<|s3 _ _<|r2 _ _ (s1 _ _ e) ab) ab) ab;rw[a9] at this;cases this
 show Q .non (Z9 (Z9 H9 g<|.dK []) p<|.ins ah dx<|stF c l nl dl g q sk r);generalize Z9 (Z9 H9 g (.dK [])) p (.ins ah dx (stF c l nl dl g q sk r))=a0 at ae aS ax ⊢;clear nb;let bi:a0 g=some (.dK []):=ax;let r7:∀b o,H6 b=some o->b≠p->a0 b=some o:=λb o e n=>ae _ _ (r9 _ _ (s7 _ _ e) n) n
 let r5:∀b o,H5 b=some o->b≠p->a0 b=some o:=λb o e n=>r7 _ _ (r6 _ _ e n) n
 let r1:∀b o,H1 b=some o->b≠p->a0 b=some o:=λb o e n=>r5 _ _ (s5 _ _<|s4 _ _<|s3 _ _<|r2 _ _ e n) n
 let bv:bX aD a0 c ta sa [C] [L] wd.toNat [List.replicate wd.toNat 0] [[]]:=D.mono λb B o e=>r1 b o e λz=>by let:=as b B;rw[z,hp] at this;cases this
 let am:∀ b∈[dl,nl,l,dz,z,S,y,d,x,p],b∉foot c ta sa [C] [L]:=λb B hf=>by let:=(apj.mp (show([dl,nl,l,dz,z,S,y,d,x,p]++foot c ta sa [C] [L]).Nodup from n8)).2.2 b B b hf;exact this J
 let ar:[dl,nl,l,dz,z,S,y,d,x,p].Nodup:=(apj.mp (show([dl,nl,l,dz,z,S,y,d,x,p]++foot c ta sa [C] [L]).Nodup from n8)).1;clear n8 n7 n6 n5 n4 n3;let O:∀ b∈[dl,nl,l,dz,z,S,y,d,x],b≠p:=λb B e=>Y7 ar 9 B (by simp[e])
 let bl:∀ b∈[p,l,y,S,z,dz,nl,dl,x,d]++foot c ta sa [C] [L],b=p∨H b=Z0:=λb B=>by
  rcases amy.mp B with B|B
  .by_cases e:b=p
   .exact .inl e
   refine .inr ?_;let f1:∀b,b≠p->H2 b=Z0->H b=Z0:=λb n h=>by
    cases e:H b with
    |none=>rfl
    |some o=>rw[r2 _ _ (s1 _ _ e) n] at h;cases h
   let f5:∀b,b≠p->H5 b=Z0->H b=Z0:=λb n h=>f1 b n<|(s3.trans<|s4.trans s5).free h
   let f7:∀b,b≠p->H7 b=Z0->H b=Z0:=λb n h=>f5 b n (by
    cases e:H5 b with
    |none=>rfl
    |some o=>rw[s7 _ _<|r6 _ _ e n] at h;cases h)
   simp only[List.mem_cons,List.not_mem_nil,or_false] at B;rcases B with rfl|rfl|rfl|rfl|rfl|rfl|rfl|rfl|rfl|rfl
   .exact absurd J e
   .exact f5 _ e U
   .exact f1 _ e (s3.free hy)
   .exact f1 _ e (s3.free ai)
   .exact f1 _ e ((s3.trans s4).free hz)
   .exact f1 _ e ((s3.trans s4).free al)
   .exact f5 _ e (by cases e2:H5 b with
    |none=>rfl
    |some o=>rw[r6 _ _ e2 e] at Y;cases Y)
   .exact f7 _ e ag
   .exact f1 _ e hx
   .exact f1 _ e aw
  .exact .inr (as b B)
 refine q1 {p,c,l,nl,dl,g,λi=>if i=0 then x else if i=1 then y else z,λi=>if i=0 then d else if i=1 then S else dz,ta,sa,[C],[L],q,sk,r,[],λ_=>0} a0 J (λ_=>rfl) (λCW CG=>{⟨dx,aS⟩,r7 _ _ h6<|O _ o7,bv,ae _ _ (r9 _ _ h7 bd) bd,J,(λk u e=>by simp at e),ae _ _ h9 bo,λi hi=>{{[],?_,gf.nil,amE _},λm u e=>by cases e},λi hi m=>{(λe=>by cases e),λe=>by let:=e.1;let:=e.2;simp at this;omega},λi hi=>amd _,amE _,(by show 1≤100;omega),?_,?_,?_,?_,?_}) bi (λB=>?_) (λb B=>?_) λb o e B=>r1 b o (s1 b o e) (⇑B)
 .exact CM (P:=λi=>fS ay a0 (if i=0 then x else if i=1 then y else z) (if i=0 then d else if i=1 then S else dz) ((0:Z5):Z4) []) {sx,r5 _ _ (s5 _ _<|s4 _ _ g1)<|O _ o7,r5 _ _ (s5 _ _<|s4 _ _ g2)<|O _ o7} {sy,r5 _ _ (s5 _ _ g3)<|O _ o7,r5 _ _ (s5 _ _ g4)<|O _ o7} {sz,r5 _ _ g5<|O _ o7,r5 _ _ g6<|O _ o7} hi
 .exact{D.w2,λxs hx=>by rw[amr.mp hx];exact{o7,λx h=>by cases h}}
 .intro t ht;rw[amr.mp ht];exact{anb,λv hv=>by rw[(List.mem_replicate.mp hv).2];exact aoB _}
 .simp only[List.nodup_cons,List.mem_cons,not_or,List.not_mem_nil,not_false_eq_true,List.nodup_nil,and_true] at ar;grind
 .simp only[List.nodup_cons,List.mem_cons,not_or,List.not_mem_nil,not_false_eq_true,List.nodup_nil,and_true] at ar;intro i j hi hj c3;grind
 .intro b B;refine am b ?_;simp[SAd.sm] at B ⊢;grind
 .refine c2 ?_;simp[SAd.sm,SAd.ft] at B ⊢;grind
 .rcases amq.mp B with z|B
  .exact .inr (by rwa[z])
  .refine bl b ?_;simp[SAd.sm,SAd.ft] at B ⊢;grind
variable(dc:bJ "writes_number" 1 ["word"] vt)
include T dc in
theorem D3(F:Fun K "number_of" "number_of" qP f fd):⋯ 2 f fd ["word"] (uP):=by
 refine F.okY CC ?_;rintro vs H Q E ⟨z,rfl,a,q⟩;refine⟨J,λc A outer s b=>⟨_,(aq (bU (rJ<|nC<|pcS dc aO b<|aa (pv 0) af) (ak ck) bH)
   (ak<|aT<|bx gQ o8 T.wL ano<|aa (pv 0) af)),?_⟩⟩
 refine{1,z,J,(by let:=qz a;omega),λH1 s1=>{1,?_}};rw[a];refine iK ?_;exact{1,z,intOf z,J,As a,(by let:=qz a;omega),q H1 s1}
include T dc in
theorem Em(F:Fun K "change_of" "change_of" qE f fd):⋯ 2 f fd ["word"] (wj):=by
 refine F.okY vm ?_;rintro vs H Q E ⟨z,c,rfl,L,i,q⟩;refine⟨J,λO A outer s r=>⟨_,(aq (psS 1 vm.nd<|j6 anB an0 an1 tR (pv 0)<|aa aC af)
   (aq (bU (PW.pt<|pw_or (aX ah0 (bQ bP o8 T.fC amH<|aa (pv 1) af) aF<|aY _)<|pw_or (rJ<|nC<|pcS dc aO r<|aa (bG bw (pv 1) aF λ_ _=>rfl) af)<|pw_or1<|rJ<|nC<|pcS dc aO r<|aa (bG bw (pv 1) aF λ_ _=>rfl) af) (ak ck) bH)
   (ak<|aT<|aI<|aa (bx gQ o8 T.wL ano<|aa (bG bw (pv 1) aF λ_ _=>rfl) af)<|aa (bx gQ o8 T.wL ano<|aa (bG bw (pv 1) aF λ_ _=>rfl) af) af))),?_⟩⟩
 dsimp only[bq];refine{1,J,z,Str.ofString "=",J,J,d7,o5,λp u=>?_};let em:∀ y∈Txt.split z (Str.ofString "="),y.length≤4900:=λy h=>by rw[ZU] at h;exact amo (split_le h) L
 let m:chg z=Jm (Txt.split z (Str.ofString "=")):=rfl;generalize Txt.split z (Str.ofString "=")=ps at em m u ⊢;rw[m] at i;let g:Z9 H p (.lst (ps.map V.str)) p=some (.lst (ps.map V.str)):=aj;let x:ao H (Z9 H p (.lst (ps.map V.str))):=ao.new u;generalize Z9 H p (.lst (ps.map V.str))=H0 at g x;obtain⟨a,b,rfl,o,n,rfl⟩:∃a b,ps=[a,b]/\okW a=Z1/\okW b=Z1/\c =(intOf a,intOf b):=by
  by_cases h2:ps.length=2
  .obtain⟨a,b,rfl⟩:∃a b,ps=[a,b]:=by
    match ps,h2 with
    |[a,b],_=>exact⟨a,b,J⟩
   simp only[Jm] at i;split at i
   .rename_i v;exact{a,b,J,v.1,v.2,(amw i).symm}
   .cases i
  .rw[Ka h2] at i;cases i
 exists 1,p,1,.inl<|X0.of g,J,1;refine R9 J ?_;let B:=em a o7;let C:=em b o7;refine{1,p,_,_,V.str a,J,J,X0.of g,br (j:=0) J,a,J,B,λH1 s1=>{1,?_}};rw[o];refine iK ?_;refine{1,p,_,_,V.str b,J,J,X0.of<|s1 p _ g,br (j:=1) J,b,J,C,λH2 s2=>{1,?_}};rw[n];refine iK ?_;let l:=s2 p _<|s1 p _ g;let l1:=qz o;let l2:=qz n;refine{1,p,_,_,V.str a,J,J,X0.of l,br (j:=0) J,a,intOf a,J,As o,o5,1,p,_,_,V.str b,J,J,X0.of l,br (j:=1) J,b,intOf b,J,As n,o5,E4,λt S=>?_};exact q t _ aj<|((x.trans s1).trans s2).trans<|ao.new S
include T in
theorem FF(F:Fun K "ask_form" "ask_form" tE f fd):⋯ 1 f fd ["word","fits"] (sR):=by refine F.okY FW ?_;rintro vs H Q E ⟨z,rfl,q⟩;refine{J,λa A outer s b=>{_,(ak<|bU (rJ<|nC<|pv 1) (ak ck) bH),?_}};exact{2,iK q}
include T in
theorem Cj(F:Fun K "is_as_many" "is_as_many" oX f fd):⋯ 1 f fd ["many","form"] (AL K):=by
 refine F.okY Cd ?_;rintro vs H Q E ⟨n,lo,hi,a,rfl,c,q⟩;refine{J,λg A outer s h=>{_,(ak<|aT<|zB (gW zl (pv 0) (bG lW (pv 1) aF λ_ _=>rfl)<|aY _)<|wu<|ai7 (gW uI (bG lW (pv 1) aF λ_ _=>rfl) gS<|aY _)<|wu<|gW IV (pv 0) (bG lW (pv 1) aF λ_ _=>rfl)<|aY _),?_}};dsimp only[bq];exists 2,a,_,_,V.int ↥lo,J,J,c,J,3,1;by_cases b:lo≤n
 .refine eO o5 ?_;exists 1,a,_,_,hiV hi,J,J,c,J,J;cases hi with
  |none=>
   refine{1,iz ?_};let e:iW n (lo,Z0)=Z1:=by simp[iW,b]
   rwa[e] at q
  |some m=>
   refine{1,iK {2,a,_,_,V.int ↥m,J,J,c,J,3,?_}};let e:iW n (lo,some m)=decide (↥n≤↥m):=by simp[iW,b]
   rwa[e] at q
 .refine cP o5 ?_;let e:iW n (lo,hi)=Z2:=by simp[iW,b]
  rwa[e] at q
include T in
theorem Eb(F:Fun K "is_within" "is_within" qK f fd):⋯ 1 f fd ["word","numbers"] (wz):=by
 refine F.okY Ex ?_;rintro vs H Q E ⟨z,a,ns,rfl,o,c,h4,h2,n,q⟩;refine⟨J,λy A outer s B=>⟨_,(aq (bU (aX dB (pv 0) aC<|aY _) (ak<|aT<|gW IV (bG bw (pv 1) aF λ_ _=>rfl) (fu (v:=.int 18446744073709551615) J T.m_W {1})<|aY _) bH)
   (aq (bU (aX dB (pv 0) aC<|aY _) (ak<|aT<|gW IV (bQ (JC J) o8 T.zR aoJ<|aa (kc m6 (pv 1) (jk aF) rZ) af) (fu (v:=.int 1000000000000) J T.Fe {1})<|aY _) bH)
   (ak<|aT lJ))),?_⟩⟩
 dsimp only[bq];let no:∀{x:Z6},z≠x->decide (V.str z=V.str x)=Z2:=λe=>amN λz=>e<|V.str.inj z
 by_cases g:z = "harm"
 .refine gz (λi b=>{1,J,1,by rw[amA (by rw[g])];exact b}) ?_;let h4:=h4 g;let p:=c.1 g _<|amg (show 3<ns.length by omega);exists 1,a,_,_,V.int ns[3],J,J,X0.of o,br (j:=3) (by rw[amx,amg (show 3<ns.length by omega)];rfl),3;rw[amA p];exact q H<|ao.refl H
 refine fX (λi b=>{1,J,1,by rwa[no g]}) ?_;unfold lV;dsimp only;by_cases h:z = "plan"
 .refine gz (λi b=>{1,J,1,by rw[amA (by rw[h])];exact b}) ?_;let h2:=h2 h;refine{2,a,1,X0.of o,λl t=>?_};let r:gg (ns.map Z8) (some 1) Z0=ns.tail.map Z8:=by
   cases ns with
   |nil=>simp at h2
   |cons x xs=>simp[gg,HT.sIx];exact anj o7
  rw[r];refine{l,ns.tail,J,X0.of aj,λe=>by let:=congrArg List.length e;simp at this;omega,λm u _=>{3,?_}};rw[amA<|c.2 h m u];exact q _<|ao.new t
 .refine fX (λi b=>{1,J,1,by rwa[no h]}) ?_;exact q H<|ao.refl H
variable(ni:bJ "change_of" 2 ["word"] wj)
variable(jl:bJ "ask_form" 1 ["word","fits"] sR)
variable(mz:bJ "is_as_many" 1 ["many","form"] (AL K))
variable(lB:GDT P w K eE zI)
variable(gF:bJ "number_of" 2 ["word"] uP)
variable(nu:bJ "is_within" 1 ["word","numbers"] wz)
include T ni jl mz lB gF nu in
theorem AH(F:Fun K "told_behind" "told_behind" oh f fd):⋯ 3 f fd ["word","rest"] (yM):=by
 refine F.okY rW ?_;rintro vs H Q E ⟨hd,r,ws,td,rfl,g,a4,a6,hW,q⟩;refine⟨J,λa7 A outer s O=>⟨_,(aq (bU (aX dB (pv 0) aC<|aY _) (ak<|aT<|rE (N:=["change"]) (k:=1) (cap:=[]) J J (dI<|pv 1) (λ_ _ _ _=>(pgN 0 (show(["change"]:mu Z6).Nodup from by decide +kernel)<|.inr J)) (λ_ _ _ _=>kR) λ_ _ _ _=>(pcS ni aO O<|aa (pv 0) af)) bH)
   (aq (bU (aX dB (pv 0) aC<|aY _) (aq (bL<|pcS jl aO O<|aa (pv 0)<|aa (zB (gW dB (bQ bP o8 T.fC amH<|aa (pv 1) af) aF<|aY _)<|wu<|gW Kv (bG bw (pv 1) aF λ_ _=>rfl) (fu (v:=.ref gB) J T.Vm J) (by with_unfolding_all rfl)) af)
   (ak<|aT<|pv 1)) bH)
   (aq (bL<|pcS jl aO O<|aa (pv 0)<|aa (zB (WT<|ad7 lB (pv 0)<|fu (v:=.ref eE) J T.CU J)<|wu<|pcS mz aO O<|aa (bQ bP o8 T.fC amH<|aa (pv 1) af)<|aa (aiX lB (fu (v:=.ref eE) J T.CU J) (pv 0) λ_ _=>rfl) af) af)
   (aq (tQ (i:=2) rW.nd J (Or.inl J) (N:=["number"]) (k:=1) (cap:=[]) J J (dI<|pv 1) (λ_ _ _ _=>(pgN 0 (show(["number"]:mu Z6).Nodup from by decide +kernel)<|.inr J)) (λ_ _ _ _=>kR) λ_ _ _ _=>(pcS gF aO O<|aa (pv 0) af))
   (aq (bL<|pcS jl aO O<|aa (pv 0)<|aa (pcS nu aO O<|aa (pv 0)<|aa (pv 2) af) af)
   (ak<|aT<|pv 2)))))),?_⟩⟩
 dsimp only[bq];let no:∀{x:Z6},hd≠x->decide (V.str hd=V.str x)=Z2:=λe=>amN λz=>e<|V.str.inj z
 cases td with
 |chs cs=>
  let⟨Y,a0⟩:=hW;refine gz (λQb B=>{1,J,1,by rw[amA (by rw[Y])];exact B}) ?_;refine{1,r,J,{_,X0.of g},λD U=>?_};refine kM D (K:=K) (a:=r) (xs:=ws.map V.str) (λi σ n ys=>∃(v:o9 V)(u:mu (Z4×Z4)),σ=[v]/\ao H n/\n D=some (.lst ys)/\mU n ys u/\(ws.take i).map chg=u.map some) {Z0,[],J,ao.new U,aj,mU.nil,o7} (λi σ n ys _ z0=>by let⟨_,_,_,s5,_⟩:=z0;exact X0.of<|s5 r _ g) ?_ ?_
  .rintro i x σ n ys hi ⟨v,u,rfl,s5,C,R,m⟩;obtain⟨y,p,rfl⟩:∃y,ws[i]?=some y/\V.str y=x:=by rw[amx] at hi;let⟨c,h1,h2⟩:=ami.mp hi;exact⟨c,h1,h2⟩
   obtain⟨c,hc⟩:∃c,chg y=some c:=by let hm:chg y∈ws.map chg:=anz<|aml p;rw[a0] at hm;let⟨c,_,e⟩:=amS.mp hm;exact⟨c,e.symm⟩
   refine{1,y,c,J,a4 y<|aml p,hc,λt H6 ht s6=>?_};let a3:=s6 D _ C;refine{a3,?_,_,u++[c],J,λb o e=>?_,aj,?_,IL m p hc}
   .let e:=congrArg List.length m;simp only[List.length_map,List.length_take] at e;rw[R.len,←e];exact bF o5
   .rw[au<|aA e U];exact s6 b _<|s5 b _ e
   .refine(R.mono λb xs e=>?_).snoc ?_
    .rw[au<|c9 e C nofun];exact s6 b _ e
    .rw[au<|c9 ht a3 nofun];exact ht
  .rintro σ n ys ⟨v,u,rfl,s5,C,R,m⟩;rw[ame,amT,a0] at m;let e:=(aqz λa b h=>amw h).mp m;subst e;exact q D n ⟨ys,C,R⟩ (.inr U) s5
 |wrd w=>
  let⟨Y,rfl,hw⟩:=hW;refine fX (λQb B=>{1,J,1,by rw[no (by rw[Y];decide +kernel)];exact B}) ?_;unfold lV;dsimp only;refine gz (λQb B=>{1,J,1,by rw[amA (by rw[Y])];exact B}) ?_;let a5:inV (V.str w) [V.str "whole",V.str "since",V.str "last"]=Z1:=by simp only[Cv,List.mem_cons,List.not_mem_nil,or_false] at hw;rcases hw with rfl|rfl|rfl <;> decide +kernel
  refine{2,r,1,.inl<|X0.of g,J,1,eO J {1,r,_,_,V.str w,J,J,X0.of g,br (j:=0) J,gB,1,.inr<|Kw T.Jo,J,J,hd,by rw[al8 o6,a5],1,q r H g (.inl J)<|ao.refl H}}
 |nums ns=>
  let⟨Y,w2,hN⟩:=hW;refine fX (λQb B=>{1,J,1,by rwa[no Y]}) ?_;unfold lV;dsimp only;refine fX (λQb B=>{1,J,1,by rwa[no w2]}) ?_;dsimp only;let⟨⟨lo,hi⟩,hf,S⟩:=hN.fm;let a1:=Kg hf;refine{2,hd,1,a1,1,iz {1,r,1,.inl<|X0.of g,1,hd,1,a1,λb hb=>?_}};exists ws.length,lo,hi,b,o7,hb _;rw[S];exists hd,J;dsimp only;refine{1,r,J,{_,X0.of g},λD U=>?_};refine kM D (K:=K) (a:=r) (xs:=ws.map V.str) (λi σ n ys=>∃(v:o9 V),σ=[v]/\ao H n/\n D=some (.lst ys)/\ys =(ws.take i).map λw=>V.int<|intOf w) {Z0,J,ao.new U,aj,o7} (λi σ n ys _ z0=>by let⟨_,_,s5,_⟩:=z0;exact X0.of<|s5 r _ g) ?_ ?_
  .rintro i x σ n ys hi ⟨v,rfl,s5,C,rfl⟩;obtain⟨y,p,rfl⟩:∃y,ws[i]?=some y/\V.str y=x:=by rw[amx] at hi;let⟨c,h1,h2⟩:=ami.mp hi;exact⟨c,h1,h2⟩
   refine{1,y,J,hN.ok y<|aml p,λH6 s6=>?_};exists s6 D _ C,by rw[ame,amX];exact bF o5,1,λb o e=>?_,aj
   .rw[au<|aA e U];exact s6 b _<|s5 b _ e
   .rw[amJ,p];simp
  .rintro σ n ys ⟨v,rfl,s5,C,rfl⟩;rw[ame,amT] at C;refine bf [some<|.str hd,E1 r,E1 D] ?_;dsimp only;let a8:ns.length=ws.length:=by rw[hN.en];simp
   let a2:n D=some (.lst (ns.map Z8)):=by rw[C,hN.en,aoq];rfl
   let L:∀(x:Z6)(l:Z5)(h:o9 Z5),hd=x->jL.lookup x=some (l,h)->l≤ws.length:=λx l h ex el=>by let:=zw hf<|ex ▸ el;cases this;simp only[iW,Bool.and_eq_true,decide_eq_true_eq] at S;exact S.1
   refine{2,1,hd,D,ns,J,a2,hN.wi,λe=>by let:=L "harm" 4 (some 4) e d7;omega,λe=>by let:=L "plan" 6 Z0 e d7;omega,o5,λH6 s6=>{hd,J,?_}};exact{1,q D H6 (s6 _ _ a2) (.inr U)<|s5.trans s6}
variable(jR:bJ "told_behind" 3 ["word","rest"] yM)
include T jR in
theorem Fp(F:Fun K "read_row" "read_row" tG f fd):⋯ 4 f fd ["row"] (Ai):=by
 refine F.okY rq ?_;rintro vs H Q E ⟨z,hd,td,rfl,Y,⟨ws,m,L⟩,q⟩;refine⟨J,λO A outer s v=>⟨_,(aq (psS 1 rq.nd<|j6 anB an0 an1 tR (pv 0)<|aa aC af)
   (aq (zh (λpn xe E U=>(ak<|psS 2 rq.nd<|pcS jR aO v<|aa (bG bw (pv 1) aF λ_ _=>rfl)<|aa (kc m6 (pv 1) (jk aF) rZ) af)) DP J J)
   (ak<|aT<|aI<|aa (bG bw (pv 1) aF λ_ _=>rfl)<|aa (pv 2) af))),?_⟩⟩
 dsimp only[bq];refine{1,J,z,Str.ofString " ",J,J,d7,o5,λp C=>?_};let em:∀ y∈Txt.split z (Str.ofString " "),y.length≤4900:=λy h=>by rw[spS] at h;exact amo (split_le h) o5
 let o:(Txt.split z (Str.ofString " ")).length≤401:=by rw[spS];exact amo Hz o5
 rw[m] at em o ⊢;let a:Z9 H p (.lst ((hd::ws).map V.str)) p=some (.lst ((hd::ws).map V.str)):=aj;let g:ao H (Z9 H p (.lst ((hd::ws).map V.str))):=ao.new C;generalize Z9 H p (.lst ((hd::ws).map V.str))=H0 at a g ⊢;refine bf [some<|.str z,E1 p,Z0] ?_;dsimp only;intro pn xe;exists 1,p,_,_,V.str hd,J,J,X0.of a,br (j:=0) J;refine{2,p,1,X0.of a,λr c=>?_};let x:gg ((hd::ws).map V.str) (some 1) Z0=ws.map V.str:=by simp[gg,HT.sIx];exact anj o7
 rw[x];let s1:ao H0 (Z9 H0 r (.lst (ws.map V.str))):=ao.new c;let b:Z9 H0 r (.lst (ws.map V.str)) r=some (.lst (ws.map V.str)):=aj;generalize Z9 H0 r (.lst (ws.map V.str))=H1 at s1 b ⊢;rw[anM] at o;refine{hd,r,ws,td,J,b,λw S=>em w<|amj _ S,o5,L,λl H2 B i s2=>?_};refine bf [some<|.str z,E1 p,E1 l] ?_;dsimp only;let n:=g.trans<|s1.trans s2;refine{1,p,_,_,V.str hd,J,J,X0.of<|s2 _ _<|s1 _ _ a,br (j:=0) J,1,E4,λt u=>?_};refine q t l _ aj (B.same<|ao.new u) ?_<|n.trans<|ao.new u;rcases i with rfl|i
 .exact g.free c
 .exact g.free (s1.free i)
variable(fH:oO "NoRule" bD 1 ["self","found"] (f9 bD "found"))
include T fH in
theorem kT{f:nt}{fd:qd}{c:nF}(F:qH K "__init__" "OneOfEach.__init__" c6 f fd c):⋯ 3 f fd ["self","step","many"] (pC bA):=by
 refine F.okX rD (λvs H Q E h=>?_) λg A outer s H vs Q E a h=>?_
 .let⟨p,dx,m,rfl,b,h1,q⟩:=h;rfl
 let⟨p,dx,m,rfl,b,h1,q⟩:=h;refine⟨_,(aq (bU (aX j4 (pv 1) aF<|aY _) (ak<|dD J eU<|fT fH (a.mono o6) J<|aa (pv 1) af) bH)
   (aq (bU (PW.pt<|pw_and (aX UP (pv 2) gS<|aY _)<|pw_and1<|aX j4 (pv 2) aF<|aY _) (ak<|dD J eU<|fT fH (a.mono o6) J<|aa (pv 2) af) bH)
   (aq (cI (pv 0) (pv 1) J)
   (ak<|cI (pv 0) (pv 2) J)))),?_⟩
 dsimp only[bq];exists 1,3,1;refine cP o5 ?_;exists 1,J,1;refine R9 J ?_;refine iK ?_;exists 2,p,bA,dx,[],J,b,T.vh,T.kq,(by show 0<1000;decide);exists 2,p,bA,dx,1,aj,T.vh,T.kE,(by show 1<1000;decide);rw[gU];exact q _ (eL bg.refl<|.inl o7) {_,aj}
include T fH in
theorem xx(F:Fun K "__init__" "Apart.__init__" j9 f fd):⋯ 3 f fd ["self","gap"] (yO dh bD):=by
 refine F.okY xu ?_;rintro vs H Q E ⟨p,dx,rfl,h,q⟩;refine⟨J,λc A outer s a=>⟨_,(aq (bU (aX j4 (pv 1) aF<|aY _) (ak<|dD J eU<|fT fH (a.mono o6) J<|aa (pv 1) af) bH)
   (ak<|cI (pv 0) (pv 1) J)),?_⟩⟩
 dsimp only[bq];refine gz (λg b=>{1,3,1,b}) ?_;exact{1,dH (E:=E) T.mJ λe H' he hs=>q e H' he hs}
variable(jj:rN "OneOfEach" bA 3 ["self","step","many"] [Value.none] (pC bA))
variable(w5:jc "Apart" dh 3 ["self","gap"] (yO dh bD))
include T gF fH jj w5 in
theorem zy(F:Fun K "rule_of_part" "rule_of_part" mX f fd):⋯ 5 f fd ["part"] (AM bD):=by
 refine F.okY lT ?_;rintro vs H Q E ⟨z,rfl,q⟩;refine⟨J,λa4 A outer s Y=>⟨_,(aq (psS 1 lT.nd<|j6 anB an0 an1 tR (pv 0)<|aa aC af)
   (aq (zh (λpn xe E U=>(ak<|tQ (i:=2) lT.nd J (Or.inl J) (N:=["word"]) (k:=1) (cap:=[]) J J (dI<|kc m6 (pv 1) (jk aF) rZ) (λ_ _ _ _=>(pgN 0 (show(["word"]:mu Z6).Nodup from by decide +kernel)<|.inr J)) (λ_ _ _ _=>kR) λ_ _ _ _=>(pcS gF aO Y<|aa (pv 0) af))) DP J J)
   (aq (bU (PW.pt<|pw_and (aX dB (bG bw (pv 1) aF λ_ _=>rfl) aC<|aY _)<|pw_and1<|aX dB (bQ bP o8 T.fC amH<|aa (pv 2) af) aF<|aY _) (ak ck) bH)
   (aq (bU (PW.pt<|pw_and (aX dB (bG bw (pv 1) aF λ_ _=>rfl) aC<|aY _)<|pw_and1<|aX dB (bQ bP o8 T.fC amH<|aa (pv 2) af) aF<|aY _) (ak<|aT<|Bb (dvs:=[V.non]) jj (Paired.cons J Paired.nil) aV (Y.mono o6) J<|aa (bG bw (pv 2) aF λ_ _=>rfl) af) bH)
   (aq (bU (PW.pt<|pw_and (aX dB (bG bw (pv 1) aF λ_ _=>rfl) aC<|aY _)<|pw_and1<|aX dB (bQ bP o8 T.fC amH<|aa (pv 2) af) aF<|aY _) (ak ck) bH)
   (aq (bU (PW.pt<|pw_and (aX dB (bG bw (pv 1) aF λ_ _=>rfl) aC<|aY _)<|pw_and1<|aX dB (bQ bP o8 T.fC amH<|aa (pv 2) af) aF<|aY _) (ak<|aT<|g9 w5 aV (Y.mono o6) J<|aa (bG bw (pv 2) aF λ_ _=>rfl) af) bH)
   (aq (bU (PW.pt<|pw_and (aX dB (bG bw (pv 1) aF λ_ _=>rfl) aC<|aY _)<|pw_and1<|aX tO (bQ bP o8 T.fC amH<|aa (pv 2) af) aF<|aY _) (ak ck) bH)
   (ak<|dD J eU<|fT fH (Y.mono o6) J<|aa (pv 0) af)))))))),?_⟩⟩
 dsimp only[bq];refine{1,J,z,Str.ofString " ",J,J,d7,?_,λp hp=>?_}
 .rcases q with⟨rfl,_⟩|⟨rfl,_⟩|⟨rfl,_⟩ <;> decide +kernel
 obtain⟨hd,ws,a3,O,a1⟩:∃(hd:Z6)(ws:mu Z6),Txt.split z (Str.ofString " ")=hd::ws/\(z = "each 3"/\hd = "each"/\ws=[Str.ofString "3"]∨z = "last"/\hd = "last"/\ws=[]∨z = "apart 0"/\hd = "apart"/\ws=[Str.ofString "0"])/\∀ w∈ws,okW w=Z1:=by
  rcases q with⟨rfl,_⟩|⟨rfl,_⟩|⟨rfl,_⟩
  .exact{"each",["3"],d7,.inl ⟨J,J,J⟩,d7}
  .exact{"last",[],d7,.inr<|.inl ⟨J,J,J⟩,d7}
  .exact{"apart",["0"],d7,.inr<|.inr ⟨J,J,J⟩,d7}
 let a5:ws.length≤1:=by rcases O with⟨_,_,rfl⟩|⟨_,_,rfl⟩|⟨_,_,rfl⟩ <;> decide
 rw[a3];let C:Z9 H p (.lst ((hd::ws).map V.str)) p=some (.lst ((hd::ws).map V.str)):=aj;let s0:ao H (Z9 H p (.lst ((hd::ws).map V.str))):=ao.new hp;generalize Z9 H p (.lst ((hd::ws).map V.str))=H0 at C s0 ⊢;refine bf [some<|.str z,E1 p,Z0] ?_;dsimp only;intro pn xe;refine{2,p,1,X0.of C,λr a0=>?_};let hc:gg ((hd::ws).map V.str) (some 1) Z0=ws.map V.str:=by simp[gg,HT.sIx];exact anj o7
 rw[hc];let s1:ao H0 (Z9 H0 r (.lst (ws.map V.str))):=ao.new a0;let B:Z9 H0 r (.lst (ws.map V.str)) r=some (.lst (ws.map V.str)):=aj;generalize Z9 H0 r (.lst (ws.map V.str))=H1 at s1 B ⊢;refine{r,J,{_,X0.of B},λD hD=>?_};refine kM D (K:=K) (a:=r) (xs:=ws.map V.str) (λi σ L ys=>∃(v:o9 V),σ=[v]/\ao H1 L/\L D=some (.lst ys)/\ys =(ws.take i).map λw=>V.int<|intOf w) {Z0,J,ao.new hD,aj,o7} (λi σ L ys _ z0=>by let⟨_,_,s5,_⟩:=z0;exact X0.of<|s5 r _ B) ?_ ?_
 .rintro i x σ L ys hi ⟨v,rfl,s5,n,rfl⟩;obtain⟨y,S,rfl⟩:∃y,ws[i]?=some y/\V.str y=x:=by rw[amx] at hi;let⟨c,h1,h2⟩:=ami.mp hi;exact⟨c,h1,h2⟩
  refine{1,y,J,a1 y<|aml S,λH6 s6=>?_};exists s6 D _ n,by rw[ame,amX];exact bF o5,1,λb o e=>?_,aj
  .rw[au<|aA e hD];exact s6 b _<|s5 b _ e
  .rw[amJ,S];simp
 rintro σ L ys ⟨v,rfl,s5,n,rfl⟩;rw[ame,amT] at n;refine bf [some<|.str z,E1 p,E1 D] ?_;dsimp only;let u:=s0.trans<|s1.trans s5;let g:=s5 _ _<|s1 _ _ C;rcases O with⟨rfl,rfl,rfl⟩|⟨rfl,rfl,rfl⟩|⟨rfl,rfl,rfl⟩
 .refine fX (λm l=>{1,p,_,_,V.str _,J,J,X0.of g,br (j:=0) J,J,1,cP (λh=>absurd (V.str.inj h) d7) l}) ?_;unfold lV;dsimp only;refine gz (λm l=>{1,p,_,_,V.str _,J,J,X0.of g,br (j:=0) J,J,1,eO J {1,D,1,.inl<|X0.of n,J,1,l}}) ?_;let q1:∀a H',ao H H'->Q (.ref a) H':=by
   rcases q with⟨_,q⟩|⟨e,_⟩|⟨e,_⟩
   .exact q
   .exact absurd e d7
   .exact absurd e d7
  refine{1,D,_,_,V.int<|intOf<|Str.ofString "3",J,J,X0.of n,br (j:=0) J,λx dx U t a2=>{x,dx,1,aj,d7,λH' k a6=>{J,?_}}};exact q1 x H'<|u.trans<|cA U t k
 .refine fX (λm l=>{1,p,_,_,V.str _,J,J,X0.of g,br (j:=0) J,J,1,eO J {1,D,1,.inl<|X0.of n,J,1,l}}) ?_;unfold lV;dsimp only;refine fX (λm l=>{1,p,_,_,V.str _,J,J,X0.of g,br (j:=0) J,J,1,cP (λh=>absurd (V.str.inj h) d7) l}) ?_;dsimp only;refine fX (λm l=>{1,p,_,_,V.str _,J,J,X0.of g,br (j:=0) J,J,1,cP (λh=>absurd (V.str.inj h) d7) l}) ?_;dsimp only;refine fX (λm l=>{1,p,_,_,V.str _,J,J,X0.of g,br (j:=0) J,J,1,cP (λh=>absurd (V.str.inj h) d7) l}) ?_;dsimp only;refine fX (λm l=>{1,p,_,_,V.str _,J,J,X0.of g,br (j:=0) J,J,1,cP (λh=>absurd (V.str.inj h) d7) l}) ?_;dsimp only;let q1:vU bD H E (.str "last"):=by
   rcases q with⟨e,_⟩|⟨_,q⟩|⟨e,_⟩
   .exact absurd e d7
   .exact q
   .exact absurd e d7
  exact{1,dH (E:=E) T.mJ λe H' he hs=>q1 e H' he<|u.trans hs}
 .refine fX (λm l=>{1,p,_,_,V.str _,J,J,X0.of g,br (j:=0) J,J,1,cP (λh=>absurd (V.str.inj h) d7) l}) ?_;unfold lV;dsimp only;refine fX (λm l=>{1,p,_,_,V.str _,J,J,X0.of g,br (j:=0) J,J,1,cP (λh=>absurd (V.str.inj h) d7) l}) ?_;dsimp only;refine fX (λm l=>{1,p,_,_,V.str _,J,J,X0.of g,br (j:=0) J,J,1,cP (λh=>absurd (V.str.inj h) d7) l}) ?_;dsimp only;refine gz (λm l=>{1,p,_,_,V.str _,J,J,X0.of g,br (j:=0) J,J,1,eO J {1,D,1,.inl<|X0.of n,J,1,l}}) ?_;let q1:vU bD H E (.int 0):=by
   rcases q with⟨e,_⟩|⟨e,_⟩|⟨_,q⟩
   .exact absurd e d7
   .exact absurd e d7
   .exact q
  refine{1,D,_,_,V.int 0,J,J,X0.of n,br (j:=0) (by show some (V.int<|intOf<|Str.ofString "0")=_;decide +kernel),λx dx U t a2=>{x,dx,J,aj,λe H' he hs=>q1 e H' he<|u.trans<|cA U t<|bg.of_same hs}}
variable(rB:jc "AnyOf" cZ 2 ["self","rules"] (yw cZ))
variable(jq:bJ "rule_of_part" 5 ["part"] (AM bD))
include T rB jq in
theorem IE(F:Fun K "rule_of" "rule_of" wH f fd):⋯ 6 f fd ["text"] (we bD):=by
 refine F.okY Jr ?_;rintro vs H Q E ⟨z,rfl,q⟩;refine⟨J,λa0 A outer s B=>⟨_,(aq (bU (aX dB (pv 0) aC<|aY _) (ak<|aT<|g9 rB aO (B.mono o6) J<|aa (dZ af) af) bH)
   (ak<|aT<|g9 rB aO (B.mono o6) J<|aa (L5 (N:=["part"]) (k:=1) (cap:=[]) UT J J J J (dI<|j6 anB an0 an1 tR (pv 0)<|aa aC af) (λ_ _ _ _=>(pgN 0 (show(["part"]:mu Z6).Nodup from by decide +kernel)<|.inr J)) (λ_ _ _ _=>kR) λ_ _ _ _ xe j=>(pcS jq j B<|aa (pv 0) af)) af)),?_⟩⟩
 dsimp only[bq];by_cases h0:z=Str.ofString ""
 .refine gz (λQb y=>{1,J,1,by rw[amA (by rw[h0])];exact y}) ?_;let q1:∀a H',ao H H'->Q (.ref a) H':=by
   rcases q with⟨_,q⟩|⟨e,_⟩|⟨e,_⟩
   .exact q
   .rw[h0] at e;exact absurd e d7
   .rw[h0] at e;exact absurd e d7
  refine{amE _,λl hl=>?_};let s1:ao H (Z9 H l (.lst [])):=ao.new hl;let r:Z9 H l (.lst []) l=some (.lst []):=aj;generalize Z9 H l (.lst [])=H1 at s1 r ⊢;refine λx dx j c L=>{x,dx,l,[],J,aj,cA j c bg.refl _ _ r,o6,λt H' _ k=>{J,q1 x H'<|s1.trans<|cA j c k}}
 refine fX (λQb y=>{1,J,1,by rwa[amN λh=>h0<|V.str.inj h]}) ?_;unfold lV;dsimp only;let S:Txt.split z (Str.ofString ", ")=[z]/\z.length≤100:=by
  rcases q with⟨e|rfl,_⟩|⟨rfl,_⟩|⟨rfl,_⟩
  .exact absurd e h0
  .decide +kernel
  .decide +kernel
  .decide +kernel
 refine{1,J,z,Str.ofString ", ",J,J,d7,o5,λp hp=>?_};rw[S.1];let m:Z9 H p (.lst ([z].map V.str)) p=some (.lst ([z].map V.str)):=aj;let u:ao H (Z9 H p (.lst ([z].map V.str))):=ao.new hp;generalize Z9 H p (.lst ([z].map V.str))=H0 at m u ⊢;refine{p,J,{_,X0.of m},λD Y=>?_};refine kM D (K:=K) (a:=p) (xs:=[z].map V.str) (λi σ n ys=>∃(v:o9 V),σ=[v]/\ao H0 n/\n D=some (.lst ys)/\ys.length=i/\(i=1->z = "each 3")) {Z0,J,ao.new Y,aj,J,λh=>by cases h} (λi σ n ys _ z0=>by let⟨_,_,s5,_⟩:=z0;exact X0.of<|s5 p _ m) ?_ ?_
 .rintro i x σ n ys hi ⟨v,rfl,s5,C,g,_⟩;cases i with
  |succ i=>simp at hi
  |zero=>
   simp at hi;subst hi;exists 1,z,J;rcases q with⟨e|e,q⟩|⟨e,q⟩|⟨e,q⟩
   .exact absurd e h0
   .refine .inl {e,λa H6 s6=>{s6 D _ C,by rw[g];decide,1,λb o eb=>?_,aj,by simp[g],λ_=>e}};rw[au<|aA eb Y];exact s6 b _<|s5 b _ eb
   .exact .inr (.inl {e,λx H' he hs=>q x H' he<|u.trans<|s5.trans hs})
   .exact .inr (.inr {e,λx H' he hs=>q x H' he<|u.trans<|s5.trans hs})
 .rintro σ n ys ⟨v,rfl,s5,C,g,O⟩;let U:=O rfl;let q1:∀a H',ao H H'->Q (.ref a) H':=by
   rcases q with⟨_,q⟩|⟨e,_⟩|⟨e,_⟩
   .exact q
   .rw[U] at e;exact absurd e d7
   .rw[U] at e;exact absurd e d7
  refine λx dx j c L=>{x,dx,D,ys,J,aj,cA j c bg.refl _ _ C,by simp[g],λt H' _ k=>{J,q1 x H'<|u.trans<|s5.trans<|cA j c k}}
variable(tZ:oO "NoPlan" aW 1 ["self","many"] (f9 aW "many"))
include T tZ in
theorem FN(F:Fun K "ask_many" "ask_many" tW f fd):⋯ 3 f fd ["many"] (uc aW):=by
 refine F.okY ES ?_;rintro vs H Q E ⟨n,rfl,q1,c⟩;refine{J,λh A outer s g=>{_,(ak<|bU (PW.pt<|pw_or (aX j4 (pv 0) aF<|aY _)<|pw_or1<|aX tO (pv 0) (fu (v:=.int 7) J T.Ac {1})<|aY _) (ak<|dD J eU<|fT tZ (g.mono o6) J<|aa (pv 0) af) bH),?_}};dsimp only[bq];exists 1,3,1;by_cases b:n<1
 .exact eO b {1,dH (E:=E) T.oZ λe H' he hs=>c o5 e H' he hs}
 refine cP b ?_;exists 1,3,1;by_cases a:n>7
 .exact eO a {1,dH (E:=E) T.oZ λe H' he hs=>c o5 e H' he hs}
 .exact cP a (q1 ⟨o5,o5⟩)
variable(oQ:bJ "ask_many" 3 ["many"] (uc aW))
include T cC oQ in
theorem HK(F:Fun K "task_of" "task_of" wB f fd):⋯ 4 f fd ["days","begin","weights","rates"] (uV aD aW aU):=by
 refine F.okY zH ?_;rintro vs H Q E ⟨p,ta,sa,g,y,TL,SL,wd,C0,C1,b,ws,rfl,D,z,U,Y,r,q⟩;refine⟨J,λS A outer s x=>⟨_,(aq (bL<|pcS oQ aV x<|aa (bQ bP o8 T.fC amH<|aa (pv 2) af) af)
   (aq (gp amO J (Kl J T.AV<|aa (pv 1)<|aa (aL cD (pv 1)<|bQ bP o8 T.fC amH<|aa (pv 2) af) af) (pgN 4 zH.nd)
   (ak<|bL<|aZ (pv 0) T.cB cC aV (x.mono o6)<|aa (pv 4) af))
   (ak ck))),?_⟩⟩
 dsimp only[bq];refine{1,g,1,.inl<|X0.of z,1,λh7=>?_,λh7=>?_}
 .dsimp only;obtain⟨O,_⟩|⟨_,d,B,L,j,a,v⟩:=q
  .omega
  let⟨dx,C⟩:=D.ob;let c:(-(2 ^ 62)≤b/\b<2 ^ 62/\-(2 ^ 62)≤b +↥ws.length/\b +↥ws.length<2 ^ 62)∨2 ^ 63≤b:=r;exists 2,1,g,1,.inl<|X0.of z,3,b,b +↥ws.length,J,c;rw[show(b +↥ws.length-b).toNat=ws.length by omega];refine vV (lo:=b) (n:=ws.length) (λi σ H'=>∃t,σ=[E1 p,E2 b,E1 g,E1 y,t]/\H'=H/\b +↥i≤d) ⟨Z0,J,J,o5⟩ ?_ ?_
  .rintro i σ H' hi ⟨t,rfl,rfl,u⟩;refine bf [E1 p,E2 b,E1 g,E1 y,E2<|b +↥i] ?_;refine{1,p,dx,1,C,oR d7 d7 d7 d7,1,p,ta,sa,TL,SL,wd,C0,C1,b +↥i,J,D,λl=>{1,J,?_},λm e H' he hs=>?_}
   .let:b +↥i≠d:=λe=>j (by rwa[←e])
    omega
   .let:b +↥i=d:=by
     by_cases o:b +↥i<d
     .exact absurd (a _ o5 o) m
     .omega
    rw[this] at he;exact v e H' he hs
  .rintro σ H' ⟨t,rfl,rfl,u⟩;omega
 .rcases q with⟨_,v⟩|⟨h,_⟩
  .exact v
  .omega
include T in
theorem Jt(F:Fun K "listed" "listed" xW f fd):⋯ 1 f fd ["things"] (vg):=by
 refine F.okY Kf ?_;rintro vs H Q E ⟨t,ns,rfl,u,r,h10,p,q⟩;refine{J,λO A outer s U=>{_,(ak<|aT<|pH (aX dB (bQ bP o8 T.fC amH<|aa (pv 0) af) aF<|aY _) aC<|j6 anB PySem.F.slot_str_join PySem.F.type_str_join UM aC<|aa (rE (N:=["thing"]) (k:=1) (cap:=[]) J J (En<|pv 0) (λ_ _ _ _=>(pgN 0 (show(["thing"]:mu Z6).Nodup from by decide +kernel)<|.inr J)) (λ_ _ _ _=>kR) λ_ _ _ _=>(bx bC o8 T.dR amk<|aa (pv 0) af)) af),?_}};dsimp only[bq];refine{1,t,1,.inr<|X3.of u,J,1,cP (λh=>r (by let:=V.int.inj h;simpa using this)) ?_};refine{J,1,t,J,{_,X3.of u},λD z=>?_};refine DX D (K:=K) (a:=t) (xs:=ns.map Z8) (λi σ g ys=>∃(v:o9 V),σ=[v]/\ao H g/\g D=some (.lst ys)/\ys =((ns.take i).map bY).map V.str) {Z0,J,ao.new z,aj,o7} (λi σ g ys _ S=>by let⟨_,_,s5,_⟩:=S;exact X3.of<|s5 t _ u) ?_ ?_
 .rintro i x σ g ys hi ⟨v,rfl,s5,l,rfl⟩;obtain⟨y,j,rfl⟩:∃y,ns[i]?=some y/\V.int y=x:=by rw[amx] at hi;let⟨c,h1,h2⟩:=ami.mp hi;exact⟨c,h1,h2⟩
  let m:=p y<|aml j;exists 1,y,J,dJ m.1 o5,l,by rw[ame,ame,amX];exact bF o5,1,λb o e=>?_,aj
  .rw[au<|aA e z];exact s5 b _ e
  .rw[amJ,j];simp[bY]
 .rintro σ g ys ⟨v,rfl,s5,l,rfl⟩;rw[ame,amT] at l;refine{_,D,ns.map bY,J,J,X0.of l,?_,q g s5};let C:=DQ (n:=20) (ws:=ns.map bY) λw L=>by let⟨n,B,rfl⟩:=amS.mp L;exact pI (p n B).1 (by let:=(p n B).2;omega)
  rw[ame] at C ⊢;let:(Str.ofString " ").length=1:=by decide +kernel
  rw[this];omega
include T in
theorem Ho(F:Fun K "some_of" "some_of" vE f fd):⋯ 1 f fd ["numbers"] (vS):=by
 refine F.okY HU ?_;rintro vs H Q E ⟨a,ns,rfl,c,h2,b,q⟩;refine{J,λj A outer s m=>{_,(ak<|aT<|pH (aX dB (bQ bP o8 T.fC amH<|aa (pv 0) af) aF<|aY _) gS<|kc m6 (pv 0) (jk aF) rZ),?_}};dsimp only[bq];refine{1,a,1,.inl<|X0.of c,J,1,cP (λh=>by let:=V.int.inj h;simp at this;omega) {2,a,1,X0.of c,λl i=>?_}};let g:gg (ns.map Z8) (some 1) Z0=ns.tail.map Z8:=by
  cases ns with
  |nil=>simp at h2
  |cons x xs=>simp[gg,HT.sIx];exact anj o7
 rw[g];exact q l i
variable(jx:bM ah "passes" 5 ["self","changes"] (tP ah aD aK aP))
include T jx in
theorem Lw(F:Fun K "on_day" "on_day" yL f fd):⋯ 11 f fd ["store","changes"] (m5 ah aD ay av aB aK aP):=by
 refine F.okY KS ?_;rintro vs H Q E ⟨Z,wd,C0,C1,us,M,l,j,rfl,h,⟨L,hL,hC⟩,v,U,z,q1,O,Y⟩;refine{J,λC A outer s y=>{_,(ak<|aT<|bx bC o8 T.dR amk<|aa (aZ (pv 0) T.aR jx aV (y.mono o6)<|aa (pv 1) af) af),?_}};let⟨dx,h1⟩:=id h.st;refine{1,Z.p,dx,1,h1,bN d7,1,Z.p,Z.q,Z.sl,Z.nl,Z.dl,Z.se,Z.ta,Z.sa,l,Z.TL,Z.SL,wd,C0,C1,Z.rl,Z.sk,Z.ea,L,j,J,⟨dx,h1⟩,h.D,hL,hC,o5,o5,z,λr m d H' i a hD nm u k=>?_,O,Y};exists ↥C0.length,J,dJ o5 o5;let o:=ug r;let B:=h.T i<|aml a;let g:∀ c∈j,0≤c.1/\c.1 <↥wd/\0≤c.2:=λc g=>by
  let:=o c g;unfold dj at this;split at this
  .cases this
  .split at this
   .cases this
   .omega
 refine q1 r m d H' i a (h.day hD k nm u o5 ?_ λt a=>?_) nm u k
 .exact⟨h.S.most,λxs b=>by
   rcases amy.mp b with b|b
   .exact h.S.day xs b
   .rw[amr.mp b];refine{by simp;omega,λx b=>?_};let⟨c,n,rfl⟩:=amS.mp b;exact{(g c n).1,(g c n).2.1}⟩
 .rcases amy.mp a with a|a
  .exact h.T t a
  .rw[amr.mp a];exact Gj B λc n=>(g c n).2.2
variable(mD:bM ah "keep" 10 ["self","word"] (A0 ah aD ay av aB aQ))
include T mD in
theorem Jg(F:Fun K "on_keep" "on_keep" wI f fd):⋯ 11 f fd ["store","words"] (kI ah aD ay av aB aQ):=by refine F.okY IY ?_;rintro vs H Q E ⟨Z,wd,C0,C1,us,M,l,w,rfl,i,a,h,c,b,q1,q⟩;refine{J,λo A outer s g=>{_,(ak<|aT<|bx bC o8 T.dR amk<|aa (aZ (pv 0) T.aR mD aV (g.mono o6)<|aa (bG bw (pv 1) aF λ_ _=>rfl) af) af),?_}};dsimp only[bq];let⟨dx,h1⟩:=id h.st;exact{1,Z.p,dx,1,h1,bN d7,1,l,_,_,V.str w,J,J,X0.of i,br (j:=0) J,Z,wd,C0,C1,us,M,w,J,a,h,c,b,λm t u H' n r k=>{↥us.length,J,dJ o5 o5,q1 m t u H' n r k},q}
variable(lF:bM ah "seal" 7 ["self","day"] (AG ah aD ay av aB aU))
include T lF in
theorem HE(F:Fun K "on_seal" "on_seal" vv f fd):⋯ 11 f fd ["store","numbers"] (kJ ah aD ay av aB aU):=by
 refine F.okY Ij ?_;rintro vs H Q E ⟨Z,wd,C0,C1,us,M,l,x,m,rfl,i,h,a,b,q1,o⟩;refine⟨J,λn A outer s g=>⟨_,(aq (bL<|aZ (pv 0) T.aR lF aV (g.mono o6)<|aa (bG bw (pv 1) aF λ_ _=>rfl) af)
   (ak<|aT aC)),?_⟩⟩
 dsimp only[bq];let⟨dx,h1⟩:=id h.st;exact{1,Z.p,dx,1,h1,bN d7,1,l,_,_,V.int x,J,J,X0.of i,br (j:=0) J,Z,wd,C0,C1,us,M,x,m,J,h,a,b,λc H' k=>q1 c H' k,o}
include T fG in
theorem Fl(F:Fun K "on_carry" "on_carry" sI f fd):⋯ 11 f fd ["store","numbers"] (jh ah aD ay av aB aE):=by refine F.okY FD ?_;rintro vs H Q E ⟨Z,wd,C0,C1,us,M,l,i,many,rfl,b,h,a,q1,o⟩;refine{J,λn A outer s c=>{_,(ak<|aT<|bx bC o8 T.dR amk<|aa (aZ (pv 0) T.aR fG aV (c.mono o6)<|aa (bG bw (pv 1) aF λ_ _=>rfl)<|aa (bG bw (pv 1) aF λ_ _=>rfl) af) af),?_}};dsimp only[bq];let⟨dx,h1⟩:=id h.st;let g:=h.n61;exact{1,Z.p,dx,1,h1,bN d7,1,l,_,_,V.int i,J,J,X0.of b,br (j:=0) J,1,l,_,_,V.int ↥many,J,J,X0.of b,br (j:=1) J,Z,wd,C0,C1,us,M,i,many,J,h,a,λj k H' r m t q u=>{↥k,J,dJ o5 o5,q1 j k H' r m t q u},o}
variable(lO:bM ah "harm" 8 ["self","shelf","number","at","bits"] (yy ah aD ay av aB aE aN aK))
include T lO in
theorem HR(F:Fun K "on_harm" "on_harm" uR f fd):⋯ 11 f fd ["store","numbers"] (kO ah aD ay av aB aE aN aK):=by
 refine F.okY Je ?_;rintro vs H Q E ⟨Z,wd,C0,C1,us,M,l,i,m,b,bt,rfl,a,h,q1,q,g,n⟩;refine⟨J,λo A outer s c=>⟨_,(aq (bL<|aZ (pv 0) T.aR lO aV (c.mono o6)<|aa (bG bw (pv 1) aF λ_ _=>rfl)<|aa (bG bw (pv 1) aF λ_ _=>rfl)<|aa (bG bw (pv 1) aF λ_ _=>rfl)<|aa (bG bw (pv 1) aF λ_ _=>rfl) af)
   (ak<|aT aC)),?_⟩⟩
 dsimp only[bq];let⟨dx,h1⟩:=id h.st;exact{1,Z.p,dx,1,h1,bN d7,1,l,_,_,V.int i,J,J,X0.of a,br (j:=0) J,1,l,_,_,V.int m,J,J,X0.of a,br (j:=1) J,1,l,_,_,V.int b,J,J,X0.of a,br (j:=2) J,1,l,_,_,V.int ↥bt,J,J,X0.of a,br (j:=3) J,Z,wd,C0,C1,us,M,i,m,b,bt,J,h,q1,q,g,n}
variable(gC:bJ "listed" 1 ["things"] vg)
variable(lQ:bM ah "heal" 7 ["self","shelf","other"] (x8 ah aE))
include T gC lQ in
theorem HF(F:Fun K "on_heal" "on_heal" vF f fd):⋯ 11 f fd ["store","numbers"] (kK ah aE):=by refine F.okY HJ ?_;rintro vs H Q E ⟨p,g,c,nl,dl,t,h,sk,o,SL,l,i,j,rfl,b,⟨dx,h1⟩,r,h3,n,q1,q⟩;refine{J,λm A outer s a=>{_,(ak<|aT<|pcS gC aO a<|aa (aZ (pv 0) T.aR lQ aV (a.mono o6)<|aa (bG bw (pv 1) aF λ_ _=>rfl)<|aa (bG bw (pv 1) aF λ_ _=>rfl) af) af),?_}};dsimp only[bq];exact{1,p,dx,1,h1,bN d7,1,l,_,_,V.int i,J,J,X0.of b,br (j:=0) J,1,l,_,_,V.int j,J,J,X0.of b,br (j:=1) J,p,g,c,nl,dl,t,h,sk,o,SL,i,j,J,⟨dx,h1⟩,r,h3,n,q1,q}
variable(j5:bM ah "marks" 1 ["self"] (yg ah))
include T gC j5 in
theorem Fv(F:Fun K "on_marks" "on_marks" ue f fd):⋯ 11 f fd ["store","numbers"] (ie ah aD ay av aB):=by refine F.okY EZ ?_;rintro vs H Q E ⟨Z,wd,C0,C1,us,M,l,rfl,h,q⟩;refine{J,λg A outer s a=>{_,(ak<|aT<|pcS gC aO a<|aa (cT (pv 0) T.aR j5 aO<|a.mono o6) af),?_}};let⟨dx,h1⟩:=id h.st;let c:=h.n61;refine{1,Z.p,dx,1,h1,bN d7,Z.p,Z.q,Z.sl,Z.nl,Z.dl,Z.se,Z.rl,Z.sk,Z.ea,1,⟨dx,h1⟩,h.dl,by show 3≤1000;decide,λt j=>?_};refine{t,l3 λi=>(Z.n i:Z4),J,aj,by simp[l3],by show 3≤10;decide,λn b=>?_,λH' s=>q H'<|(ao.new j).trans s};let o:=h.nle 0 o6;let r:=h.nle 1 o6;let m:=h.nle 2 o6;simp only[l3,List.mem_cons,List.not_mem_nil,or_false] at b;rcases b with rfl|rfl|rfl <;> omega
variable(iO:bM ah "numbers" 4 ["self","shelf"] (qR ah aE))
include T gC iO in
theorem Ik(F:Fun K "on_lies" "on_lies" vj f fd):⋯ 11 f fd ["store","numbers"] (kQ ah aE):=by refine F.okY IA ?_;rintro vs H Q E ⟨p,g,b,nl,dl,t,h,sk,o,SL,l,i,rfl,c,⟨dx,h1⟩,r,h3,n,q⟩;refine{J,λm A outer s a=>{_,(ak<|aT<|pcS gC aO a<|aa (aZ (pv 0) T.aR iO aV (a.mono o6)<|aa (bG bw (pv 1) aF λ_ _=>rfl) af) af),?_}};dsimp only[bq];exact{1,p,dx,1,h1,bN d7,1,l,_,_,V.int i,J,J,X0.of c,br (j:=0) J,p,g,b,nl,dl,t,h,sk,o,SL,i,J,⟨dx,h1⟩,r,h3,n,q}
variable(qC:bJ "line_of" 1 ["piece"] nA)
include T eF qC in
theorem Ic(F:Fun K "on_line" "on_line" uL f fd):⋯ 11 f fd ["store","numbers"] (kF ah aD ay av aB aE aN):=by refine F.okY Jh ?_;rintro vs H Q E ⟨Z,wd,C0,C1,us,M,l,i,m,rfl,g,h,q,q1,t⟩;refine{J,λr A outer s b=>{_,(ak<|aT<|pcS qC aV b<|aa (aZ (pv 0) T.aR eF aV (b.mono o6)<|aa (bG bw (pv 1) aF λ_ _=>rfl)<|aa (bG bw (pv 1) aF λ_ _=>rfl) af) af),?_}};dsimp only[bq];let⟨dx,h1⟩:=id h.st;exact{1,Z.p,dx,1,h1,bN d7,1,l,_,_,V.int i,J,J,X0.of g,br (j:=0) J,1,l,_,_,V.int m,J,J,X0.of g,br (j:=1) J,Z,wd,C0,C1,us,M,i,m,J,h,λj u a o n c _=>(by rw[q j o n] at c;cases c),q1,λj o n _ e H' he hs=>t ⟨o5,o5⟩ e H' he hs}
include T fF in
theorem Fg(F:Fun K "on_reach" "on_reach" sN f fd):⋯ 11 f fd ["store","numbers"] (jg ah aD ay av aB aE):=by
 refine F.okY xM ?_;rintro vs H Q E ⟨Z,wd,C0,C1,us,M,l,i,rfl,m,h,q1,n,q⟩;refine⟨J,λo A outer s g=>⟨_,(aq (psS 2 xM.nd<|aZ (pv 0) T.aR fF aV (g.mono o6)<|aa (bG bw (pv 1) aF λ_ _=>rfl) af)
   (ak<|aT<|pH (aX uI (pv 2) gS<|aY _) aC<|bx bC o8 T.dR amk<|aa (pv 2) af)),?_⟩⟩
 dsimp only[bq];let⟨dx,h1⟩:=id h.st;refine{1,Z.p,dx,1,h1,bN d7,1,l,_,_,V.int i,J,J,X0.of m,br (j:=0) J,Z,wd,C0,C1,us,M,i,J,h,λj c b v H' a s=>?_,q};refine bf [E1 Z.p,E1 l,some v] ?_;dsimp only;rcases id a with⟨rfl,_⟩|⟨d,rfl,_⟩
 .exact{1,J,1,iz<|q1 j c b _ H' a (λd e=>by cases e) s}
 .let hd:=n j c b d a;exact{1,J,1,iK {1,d,J,dJ hd.1 hd.2,q1 j c b _ H' a (λd' e=>by cases e;exact dJ hd.1 hd.2) s}}
variable(fN:bJ "some_of" 1 ["numbers"] vS)
variable(tD:bJ "answer" 1 ["legs","day"] nA)
variable(dw:bM ah "legs" 5 ["self","some"] (iH ah aE))
include T fN tD dw in
theorem EV(F:Fun K "on_fetch" "on_fetch" tu f fd):⋯ 11 f fd ["store","numbers"] (dg ah aE):=by
 refine F.okY qT ?_;rintro vs H Q E ⟨p,n,i,nl,dl,y,o,sk,u,SL,l,x,xs,z,rfl,m,h,⟨dx,h1⟩,v,h3,g,q⟩;refine⟨J,λr A outer s c=>⟨_,(aq (psS 2 qT.nd<|pcS fN aO c<|aa (pv 1) af)
   (aq (psS 3 qT.nd<|pcS tD aV c<|aa (aZ (pv 0) T.aR dw aV (c.mono o6)<|aa (pv 2) af)<|aa (bG bw (pv 1) aF λ_ _=>rfl) af)
   (aq ck
   (aq ck
   (ak ck))))),?_⟩⟩
 dsimp only[bq];let h2:2≤(x::xs).length:=by let⟨_,k,j,_⟩:=g;let:=(amc.mp j).1;simp;omega
 refine{1,l,x::xs,J,m,h2,by simp;omega,λa b=>?_};refine bf [E1 p,E1 l,E1 a,Z0] ?_;dsimp only;exact{1,p,dx,1,ao.new b _ _ h1,bN d7,1,p,n,i,nl,dl,y,a,o,sk,u,SL,xs,z,J,{dx,ao.new b _ _ h1},ao.new b _ _ v,h3,aj,g,λt e H' he hs=>q t e H' he<|(ao.new b).trans hs}
variable(sX:bJ "prices" 1 ["legs"] nA)
include T fN dw sX in
theorem FU(F:Fun K "on_price" "on_price" uf f fd):⋯ 11 f fd ["store","numbers"] (dg ah aE):=by
 refine F.okY xH ?_;rintro vs H Q E ⟨p,n,i,nl,dl,y,o,sk,u,SL,l,x,xs,z,rfl,m,h,⟨dx,h1⟩,v,h3,g,q⟩;refine⟨J,λr A outer s b=>⟨_,(aq (psS 2 xH.nd<|Vy<|pcS sX aV b<|aa (aZ (pv 0) T.aR dw aV (b.mono o6)<|aa (pcS fN aO b<|aa (pv 1) af) af) af)
   (ak ck)),?_⟩⟩
 let h2:2≤(x::xs).length:=by let⟨_,k,j,_⟩:=g;let:=(amc.mp j).1;simp;omega
 exact{1,p,dx,1,h1,bN d7,1,l,x::xs,J,m,h2,by simp;omega,λa c=>{p,n,i,nl,dl,y,a,o,sk,u,SL,xs,z,J,{dx,ao.new c _ _ h1},ao.new c _ _ v,h3,aj,g,λt e H' he hs=>q t e H' he<|(ao.new c).trans hs}}
variable(sW:bJ "way_of" 1 ["legs","day"] nA)
include T fN dw sW in
theorem Ko(F:Fun K "on_way" "on_way" yt f fd):⋯ 11 f fd ["store","numbers"] (dg ah aE):=by
 refine F.okY By ?_;rintro vs H Q E ⟨p,n,i,nl,dl,y,o,sk,u,SL,l,x,xs,z,rfl,m,h,⟨dx,h1⟩,v,h3,g,q⟩;refine⟨J,λr A outer s b=>⟨_,(aq (psS 2 By.nd<|pcS sW aV b<|aa (aZ (pv 0) T.aR dw aV (b.mono o6)<|aa (pcS fN aO b<|aa (pv 1) af) af)<|aa (bG bw (pv 1) aF λ_ _=>rfl) af)
   (ak ck)),?_⟩⟩
 dsimp only[bq];let h2:2≤(x::xs).length:=by let⟨_,k,j,_⟩:=g;let:=(amc.mp j).1;simp;omega
 exact{1,p,dx,1,h1,bN d7,1,l,x::xs,J,m,h2,by simp;omega,λa c=>{p,n,i,nl,dl,y,a,o,sk,u,SL,xs,z,J,{dx,ao.new c _ _ h1},ao.new c _ _ v,h3,aj,g,λt e H' he hs=>q t e H' he<|(ao.new c).trans hs}}
variable(qh:bJ "task_of" 4 ["days","begin","weights","rates"] (uV aD aW aU))
include T qh in
theorem Il(F:Fun K "on_plan" "on_plan" vp f fd):⋯ 11 f fd ["store","numbers"] (kL ah aD aW aU):=by
 refine F.okY zv ?_;rintro vs H Q E ⟨p,x,U,nl,dl,S,ta,sa,TL,SL,wd,C0,C1,Y,sk,O,l,b,r,rfl,m,h5,t,c,⟨dx,h1⟩,D,q⟩;refine⟨J,λz A outer s u=>⟨_,(aq (psS 2 zv.nd<|pcS qh aV u<|aa (bz (pv 0) J)<|aa (bG bw (pv 1) aF λ_ _=>rfl)<|aa (kc m6 (pv 1) (jk aF) rZ)<|aa (kc m6 (pv 1) (jk aF)<|jk aF) af)
   (aq ck
   (ak ck))),?_⟩⟩
 dsimp only[bq];refine{1,p,ah,dx,_,1,h1,T.aR,T.fj,sj,1,l,_,_,V.int b,J,J,X0.of m,br (j:=0) J,2,l,1,X0.of m,λg n=>?_};let s1:=ao.new n (o:=.lst<|gg ((b::r).map Z8) (some 5) Z0);let i:Z9 H g (.lst (gg ((b::r).map Z8) (some 5) Z0)) g=some (.lst (gg ((b::r).map Z8) (some 5) Z0)):=aj;generalize Z9 H g (.lst (gg ((b::r).map Z8) (some 5) Z0))=H1 at s1 i ⊢;let h:(gg ((b::r).map Z8) (some 5) Z0).length=r.length-4:=by simp[gg,HT.sIx];omega
 generalize gg ((b::r).map Z8) (some 5) Z0=W at i h;refine{2,1,l,1,X0.of<|s1 _ _ m,λv a=>?_};let s2:=s1.trans<|ao.new a (o:=.lst<|gg ((b::r).map Z8) (some 1)<|some 5);exists x,ta,sa,g,v,TL,SL,wd,C0,C1,b,W,J,D.same s2,ao.new a _ _ i,o5,o5,?_
 .rcases c with c|c
  .exact .inl ⟨o5,o5,o5,o5⟩
  .exact .inr c
 .rw[show((W.length:Z5):Z4) =↥r.length-4 by omega];rcases q with⟨h7,q⟩|⟨h7,d,C,B,y,L,q⟩
  .exact .inl {h7,λe H' he hs=>q e H' he<|s2.trans hs}
  .exact .inr {h7,d,C,B,y,L,λe H' he hs=>q e H' he<|s2.trans hs}
variable(wR:jc "Store" ah 6 ["self","wide","rule","seek","each"] (uS ah aD ay bE))
variable(qm:bJ "rule_of" 6 ["text"] (we bD))
include T iw wR qm in
theorem yC(F:Fun K "__init__" "Desk.__init__" kX f fd):⋯ 8 f fd ["self","wide","seek","each","rules"] (yJ bR ah aD ay av aB bE bD):=by
 refine F.okY yP ?_;rintro vs H Q E ⟨k,dx,wd,sk,U,z,rfl,l,q1,Y⟩;refine⟨J,λS A outer s r=>⟨_,(aq (bL<|pcS iw aV r<|aa (pv 1) af)
   (ak<|cI (pv 0) (g9 wR aV (r.mono o6) J<|aa (pv 1)<|aa (pcS qm aV r<|aa (pv 4) af)<|aa (pv 2)<|aa (pv 3) af) J)),?_⟩⟩
 dsimp only[bq];refine{1,wd,J,λB=>?_,Y};dsimp only;exists 2,z,J;rcases q1 B with⟨h,q⟩|⟨h,q⟩|⟨h,q⟩
 .refine .inl {h,λa H1 s1=>{2,λx v j n a0=>{x,v,wd,.ref a,sk,U,J,aj,B,λA H2 O C p t u m kk=>{J,?_}}}};let s2:ao H1 H2:=cA j n kk;let a1:x≠k:=λe=>by rw[e,s1 _ _ l] at j;cases j
  exists 1,k,bR,dx,[],J,s2 _ _<|s1 _ _ l,T.rH,T.lU,(by show 0<1000;decide);let g:∀ b∈A.se ::(A.sm++A.ft),H b=Z0:=λb c=>by
   rcases m b c with e|e
   .rw[e];exact s1.free j
   .exact s1.free (bB (bB e).1).1
  let i:∀ b∈A.se ::(A.sm++A.ft),b∉[k]:=λb c y=>by let:=g b c;rw[amr.mp y,l] at this;cases this
  let k3:bg [k] H2 (Z9 H2 k (.ins bR dx [("store",.ref x)])):=eL bg.refl<|.inl o7;let L:cH H2 [k]:=λb c=>by rw[amr.mp c];exact .inr<|.inr {_,_,_,s2 _ _<|s1 _ _ l,J}
  refine q A _ (by rw[aj,O];rfl) C ((p av aB).dQ k3 L λb c=>i b<|amj _ c) (k3 _ _ t<|i _ o7) u g λb o e c=>k3 b o (s2 _ _<|s1 _ _ e) c
 .exact .inr (.inl ⟨h,q⟩)
 .exact .inr (.inr ⟨h,q⟩)
variable(oK:bJ "read_row" 4 ["row"] Ai)
variable(mh:GDF P w K mg cV cK)
variable(lg:∀z,KnR z->∃n ps,(z,n)∈cK/\bJ n 11 ps (bK ah aD ay av aB aK aP aQ aU aE aN aW z))
include T oK mh lg in
theorem Fj(F:Fun K "say" "Desk.say" sL f fd):⋯ 12 f fd ["self","row"] (zM bR ah aD ay av aB aK aP aQ aU aE aN aW):=by
 refine F.okY xR ?_;rintro vs H Q E ⟨k,p,z,hd,td,rfl,⟨dx,c⟩,g,i,m,q⟩;refine⟨J,λj A outer s a=>⟨_,(aq (psS 2 xR.nd<|pcS oK aO a<|aa (pv 1) af)
   (ak<|aT<|MJ mh lg aV (a.mono o6) (fu (v:=.ref cV) J T.Ie J) (bG lW (pv 2) aF λ_ _=>rfl) (λ_ _=>rfl)<|aa (bz (pv 0) J)<|aa (bG lW (pv 2) aF λ_ _=>rfl) af)),?_⟩⟩
 dsimp only[bq];refine{1,z,hd,td,J,g,i,λt l H1 b h nl s1=>?_};refine bf [E1 k,some<|.str z,E1 t] ?_;dsimp only;exact{1,t,_,_,V.str hd,J,J,X3.of b,J,hd,J,m,1,k,bR,dx,_,1,s1 _ _ c,T.rH,T.lU,J,1,t,_,_,.ref l,J,J,X3.of b,J,q l H1 h nl s1}
def ae0(q:bJ "on_day" 11 ["store","changes"] (m5 ah aD ay av aB aK aP))(o:bJ "on_keep" 11 ["store","words"] (kI ah aD ay av aB aQ))(h:bJ "on_seal" 11 ["store","numbers"] (kJ ah aD ay av aB aU))(g:bJ "on_carry" 11 ["store","numbers"] (jh ah aD ay av aB aE))(p:bJ "on_harm" 11 ["store","numbers"] (kO ah aD ay av aB aE aN aK))(m:bJ "on_heal" 11 ["store","numbers"] (kK ah aE))(f:bJ "on_marks" 11 ["store","numbers"] (ie ah aD ay av aB))(i:bJ "on_lies" 11 ["store","numbers"] (kQ ah aE))(j:bJ "on_line" 11 ["store","numbers"] (kF ah aD ay av aB aE aN))(b:bJ "on_reach" 11 ["store","numbers"] (jg ah aD ay av aB aE))(a:bJ "on_fetch" 11 ["store","numbers"] (dg ah aE))(c:bJ "on_price" 11 ["store","numbers"] (dg ah aE))(r:bJ "on_way" 11 ["store","numbers"] (dg ah aE))(l:bJ "on_plan" 11 ["store","numbers"] (kL ah aD aW aU)):∀z,KnR z->∃n ps,(z,n)∈cK/\bJ n 11 ps (bK ah aD ay av aB aK aP aQ aU aE aN aW z):=by
 intro z s;unfold KnR at s;rcases s with rfl|rfl|rfl|rfl|rfl|rfl|rfl|rfl|rfl|rfl|rfl|rfl|rfl|rfl
 .exists "on_day",["store","changes"],(by simp[cK]);rw[show bK ah aD ay av aB aK aP aQ aU aE aN aW "day" = m5 ah aD ay av aB aK aP by unfold bK;repeat (first|rw[ama rfl]|rw[al8 d7])];exact q
 .exists "on_keep",["store","words"],(by simp[cK]);rw[show bK ah aD ay av aB aK aP aQ aU aE aN aW "keep" = kI ah aD ay av aB aQ by unfold bK;repeat (first|rw[ama rfl]|rw[al8 d7])];exact o
 .exists "on_seal",["store","numbers"],(by simp[cK]);rw[show bK ah aD ay av aB aK aP aQ aU aE aN aW "seal" = kJ ah aD ay av aB aU by unfold bK;repeat (first|rw[ama rfl]|rw[al8 d7])];exact h
 .exists "on_carry",["store","numbers"],(by simp[cK]);rw[show bK ah aD ay av aB aK aP aQ aU aE aN aW "carry" = jh ah aD ay av aB aE by unfold bK;repeat (first|rw[ama rfl]|rw[al8 d7])];exact g
 .exists "on_harm",["store","numbers"],(by simp[cK]);rw[show bK ah aD ay av aB aK aP aQ aU aE aN aW "harm" = kO ah aD ay av aB aE aN aK by unfold bK;repeat (first|rw[ama rfl]|rw[al8 d7])];exact p
 .exists "on_heal",["store","numbers"],(by simp[cK]);rw[show bK ah aD ay av aB aK aP aQ aU aE aN aW "heal" = kK ah aE by unfold bK;repeat (first|rw[ama rfl]|rw[al8 d7])];exact m
 .exists "on_marks",["store","numbers"],(by simp[cK]);rw[show bK ah aD ay av aB aK aP aQ aU aE aN aW "marks" = ie ah aD ay av aB by unfold bK;repeat (first|rw[ama rfl]|rw[al8 d7])];exact f
 .exists "on_lies",["store","numbers"],(by simp[cK]);rw[show bK ah aD ay av aB aK aP aQ aU aE aN aW "lies" = kQ ah aE by unfold bK;repeat (first|rw[ama rfl]|rw[al8 d7])];exact i
 .exists "on_line",["store","numbers"],(by simp[cK]);rw[show bK ah aD ay av aB aK aP aQ aU aE aN aW "line" = kF ah aD ay av aB aE aN by unfold bK;repeat (first|rw[ama rfl]|rw[al8 d7])];exact j
 .exists "on_reach",["store","numbers"],(by simp[cK]);rw[show bK ah aD ay av aB aK aP aQ aU aE aN aW "reach" = jg ah aD ay av aB aE by unfold bK;repeat (first|rw[ama rfl]|rw[al8 d7])];exact b
 .exists "on_fetch",["store","numbers"],(by simp[cK]);rw[show bK ah aD ay av aB aK aP aQ aU aE aN aW "fetch" = dg ah aE by unfold bK;repeat (first|rw[ama rfl]|rw[al8 d7])];exact a
 .exists "on_price",["store","numbers"],(by simp[cK]);rw[show bK ah aD ay av aB aK aP aQ aU aE aN aW "price" = dg ah aE by unfold bK;repeat (first|rw[ama rfl]|rw[al8 d7])];exact c
 .exists "on_way",["store","numbers"],(by simp[cK]);rw[show bK ah aD ay av aB aK aP aQ aU aE aN aW "way" = dg ah aE by unfold bK;repeat (first|rw[ama rfl]|rw[al8 d7])];exact r
 .exists "on_plan",["store","numbers"],(by simp[cK]);rw[show bK ah aD ay av aB aK aP aQ aU aE aN aW "plan" = kL ah aD aW aU by unfold bK;repeat (first|rw[ama rfl]|rw[al8 d7])];exact l
variable(eY:bM bR "say" 12 ["self","row"] (zM bR ah aD ay av aB aK aP aQ aU aE aN aW))
include T eY in
theorem EF(F:Fun K "_law_told" "_law_told" qS f fd):⋯ 13 f fd ["_law_desk","_law_row"] (di bR ah aD ay av aB aK aP aQ aU aE aN aW):=by
 refine F.okY bS ?_;rintro vs H Q E ⟨k,p,z,hd,td,rfl,⟨dx,j⟩,u,L,S,q⟩;refine⟨J,λO A outer s r=>⟨_,(aq (psS 2 bS.nd gS)
   (aq (zh (λpn xe E o=>(ak<|psS 2 bS.nd<|aI<|aa aC<|aa (aZ (pv 0) T.rH eY o (r.mono o6)<|aa (pv 1) af) af)) (oJ (i:=3) J T.Hu T.gA bS.nd J J (λ_ _=>(ak<|psS 2 bS.nd<|aI<|aa aC<|aa (iD (pv 3) J) af))<|oJ (i:=3) J T.Hx T.nE bS.nd J J (λ_ _=>(ak<|psS 2 bS.nd<|aI<|aa aC<|aa (iD (pv 3) J) af))<|oJ (i:=3) J T.JW T.kh bS.nd J J (λ_ _=>(ak<|psS 2 bS.nd<|aI<|aa aC<|aa (iD (pv 3) J)<|aa (iD (pv 3) J) af))<|oJ (i:=3) J T.MQ T.oW bS.nd J J (λ_ _=>(ak<|psS 2 bS.nd<|aI<|aa aC<|aa (iD (pv 3) J) af))<|oJ (i:=3) J T.Iv T.nL bS.nd J J (λ_ _=>(ak<|psS 2 bS.nd<|aI<|aa aC<|aa (iD (pv 3) J) af))<|oJ (i:=3) J T.HD T.qw bS.nd J J (λ_ _=>(ak<|psS 2 bS.nd<|aI<|aa aC<|aa (iD (pv 3) J) af))<|oJ (i:=3) J T.LO T.oZ bS.nd J J (λ_ _=>(ak<|psS 2 bS.nd<|aI<|aa aC<|aa (iD (pv 3) J) af)) KG) J J)
   (ak<|aT<|pv 2))),?_⟩⟩
 dsimp only[bq];refine bf [E1 k,some<|.str z,some .non,Z0] ?_;dsimp only;refine oq (λσ H'=>∃(f:nt)(n:o9 V),σ=[E1 k,some<|.str z,E1 f,n]/\Q (.ref f) H') (λN h=>?_) ?_
 .intro pn xe;refine{1,k,dx,1,j,J,1,k,p,z,hd,td,J,⟨dx,j⟩,u,L,S,λl H1 B nl s1=>q l H1 _ _ B nl s1 (λv H2 C=>?_) λc oe H2 due m g=>?_}
  .let⟨s,rfl,g⟩:=C;exact{E4,λf a=>bf [E1 k,some<|.str z,E1 f,Z0]<|h _ _ {f,Z0,J,g f a}}
  .let⟨e,rfl,t⟩:=m;rcases t with⟨rfl,x,he,rfl⟩|⟨rfl,x,he,rfl⟩|⟨rfl,x,y,he,rfl⟩|⟨rfl,x,he,rfl⟩|⟨rfl,x,he,rfl⟩|⟨rfl,x,he,rfl⟩|⟨rfl,x,he,rfl⟩
   .exists e,aK,J,J,_,bW T.mt 0 0 J J;rw[ama o6];intro b;refine{1,e,aK,_,1,he,T.gA,T.iN,eW,E4,λf a=>?_};exact bf [E1 k,some<|.str z,E1 f,E1 e]<|h _ _ {f,Z0,J,g f a}
   .exists e,aP,J,J,_,bW T.mt 1 0 J J;rw[al8 o6];exists _,bW T.mt 1 1 J J;rw[ama o6];intro b;refine{1,e,aP,_,1,he,T.nE,T.iM,eW,E4,λf a=>?_};exact bf [E1 k,some<|.str z,E1 f,E1 e]<|h _ _ {f,Z0,J,g f a}
   .exists e,aQ,J,J,_,bW T.mt 2 0 J J;rw[al8 o6];exists _,bW T.mt 2 1 J J;rw[al8 o6];exists _,bW T.mt 2 2 J J;rw[ama o6];intro b;refine{1,e,aQ,_,1,he,T.kh,T.jZ,eW,1,e,aQ,_,1,he,T.kh,T.lR,(by rw[mW d7,eW]),E5,λf a=>?_};exact bf [E1 k,some<|.str z,E1 f,E1 e]<|h _ _ {f,Z0,J,g f a}
   .exists e,aU,J,J,_,bW T.mt 3 0 J J;rw[al8 o6];exists _,bW T.mt 3 1 J J;rw[al8 o6];exists _,bW T.mt 3 2 J J;rw[al8 o6];exists _,bW T.mt 3 3 J J;rw[ama o6];intro b;refine{1,e,aU,_,1,he,T.oW,T.nc,eW,E4,λf a=>?_};exact bf [E1 k,some<|.str z,E1 f,E1 e]<|h _ _ {f,Z0,J,g f a}
   .exists e,aE,J,J,_,bW T.mt 4 0 J J;rw[al8 o6];exists _,bW T.mt 4 1 J J;rw[al8 o6];exists _,bW T.mt 4 2 J J;rw[al8 o6];exists _,bW T.mt 4 3 J J;rw[al8 o6];exists _,bW T.mt 4 4 J J;rw[ama o6];intro b;refine{1,e,aE,_,1,he,T.nL,T.iP,eW,E4,λf a=>?_};exact bf [E1 k,some<|.str z,E1 f,E1 e]<|h _ _ {f,Z0,J,g f a}
   .exists e,aN,J,J,_,bW T.mt 5 0 J J;rw[al8 o6];exists _,bW T.mt 5 1 J J;rw[al8 o6];exists _,bW T.mt 5 2 J J;rw[al8 o6];exists _,bW T.mt 5 3 J J;rw[al8 o6];exists _,bW T.mt 5 4 J J;rw[al8 o6];exists _,bW T.mt 5 5 J J;rw[ama o6];intro b;refine{1,e,aN,_,1,he,T.qw,T.ic,eW,E4,λf a=>?_};exact bf [E1 k,some<|.str z,E1 f,E1 e]<|h _ _ {f,Z0,J,g f a}
   .exists e,aW,J,J,_,bW T.mt 6 0 J J;rw[al8 o6];exists _,bW T.mt 6 1 J J;rw[al8 o6];exists _,bW T.mt 6 2 J J;rw[al8 o6];exists _,bW T.mt 6 3 J J;rw[al8 o6];exists _,bW T.mt 6 4 J J;rw[al8 o6];exists _,bW T.mt 6 5 J J;rw[al8 o6];exists _,bW T.mt 6 6 J J;rw[ama o6];intro b;refine{1,e,aW,_,1,he,T.oZ,T.j3,eW,E4,λf a=>?_};exact bf [E1 k,some<|.str z,E1 f,E1 e]<|h _ _ {f,Z0,J,g f a}
 .rintro σ H1 ⟨f,n,rfl,g⟩;exact{1,g}
variable(p8:jc "Desk" bR 8 ["self","wide","seek","each","rules"] (yJ bR ah aD ay av aB bE bD))
include T eY p8 in
theorem DI(F:Fun K "_law_made" "_law_made" qY f fd):⋯ 13 f fd ["_law_wide","_law_rules"] (Ak):=by
 refine F.okY fW ?_;rintro vs H Q E ⟨wd,z,due,rfl,m,q⟩;refine⟨J,λS A outer s B=>⟨_,(aq (psS 2 fW.nd gS)
   (aq (zh (λpn xe E g=>(ak<|psS 2 fW.nd<|aI<|aa aC<|aa (aZ (g9 p8 g (B.mono o6) J<|aa (pv 0)<|aa aF<|aa aF<|aa (pv 1) af) T.rH eY g (B.mono o6)<|aa aC af) af)) (oJ (i:=3) J T.IF T.nN fW.nd J J (λ_ _=>(ak<|psS 2 fW.nd<|aI<|aa aC<|aa (iD (pv 3) J) af))<|oJ (i:=3) J T.Lo T.mJ fW.nd J J (λ_ _=>(ak<|psS 2 fW.nd<|aI<|aa aC<|aa (iD (pv 3) J) af)) KG) J J)
   (ak<|aT<|pv 2))),?_⟩⟩
 dsimp only[bq];refine bf [E2 wd,some<|.str z,some .non,Z0] ?_;dsimp only;refine oq (λσ H'=>∃(f:nt)(C:o9 V),σ=[E2 wd,some<|.str z,E1 f,C]/\H' f=some (.tup due)/\ao H H') (λN o=>?_) ?_
 .intro pn xe;refine{2,λx dx g a U=>{x,dx,wd,.int 1,.int 1,z,J,aj,λy=>?_,λy e H' he hs=>?_}}
  .rcases m with⟨_,m⟩|⟨t,_⟩
   .rcases m with⟨h,rfl⟩|⟨h,rfl⟩|⟨h,rfl⟩
    .refine .inr (.inl {h,λe H' he hs=>?_});exists e,bD,J,J,_,bW T.mt 8 7 J J;rw[al8 o6];exists _,bW T.mt 8 8 J J;rw[ama o6];intro j;refine{1,e,bD,_,1,he,T.mJ,T.g7,eW,E4,λf b=>?_};exact bf [E2 wd,some<|.str z,E1 f,E1 e]<|o _ _ {f,Z0,J,aj,(cA g a<|bg.of_same hs).trans<|ao.new b}
    .refine .inr (.inr {h,λe H' he hs=>?_});exists e,bD,J,J,_,bW T.mt 8 7 J J;rw[al8 o6];exists _,bW T.mt 8 8 J J;rw[ama o6];intro j;refine{1,e,bD,_,1,he,T.mJ,T.g7,eW,E4,λf b=>?_};exact bf [E2 wd,some<|.str z,E1 f,E1 e]<|o _ _ {f,Z0,J,aj,(cA g a<|bg.of_same hs).trans<|ao.new b}
    .refine .inl {.inr h,λA H1 r t v O Y L kk=>{J,?_}};let s1:ao H H1:=cA g a kk;refine{x,dx,1,r,J,x,A.p,"marks","marks",.nums [],J,⟨dx,r⟩,d7,?_,by simp[KnR],λl H2 hl nl s2=>?_}
     .exact Cw (as:=[.c "marks"]) (λk r=>by simp at r) (by kernel_rfl)
     .rw[show bK ah aD ay av aB aK aP aQ aU aE aN aW "marks" = ie ah aD ay av aB by unfold bK;repeat (first|rw[ama rfl]|rw[al8 d7])];refine{A,_,_,_,_,_,l,rfl,v.same s2,λH3 s3=>?_};refine{E4,λf b=>?_};refine bf [E2 wd,some<|.str z,E1 f,Z0]<|o _ _ {f,Z0,J,?_,s1.trans<|s2.trans<|s3.trans<|ao.new b};rw[aj];let e:jnT (l3 λi=>(A.n i:Z4)) = "0 0 0":=by rw[show(l3 λi=>(A.n i:Z4))=[0,0,0] by simp[l3,t]];decide +kernel
      rw[e]
   .exact absurd y t
  .rcases m with⟨u,_⟩|⟨_,h,rfl⟩
   .exact absurd u y
   .exists e,bE,J,J,_,bW T.mt 7 7 J J;rw[ama o6];intro j;refine{1,e,bE,_,1,he,T.nN,T.ju,eW,E4,λf b=>?_};exact bf [E2 wd,some<|.str z,E1 f,E1 e]<|o _ _ {f,Z0,J,aj,(cA g a<|bg.of_same hs).trans<|ao.new b}
 .rintro σ H1 ⟨f,C,rfl,b,s1⟩;exact{1,q f H1 b s1}
include T in
theorem zF(F:Fun K "_law_of_days" "_law_of_days" mL f fd):⋯ 1 f fd ["_law_wide","_law_many","_law_cell_here"] (wm):=by
 refine F.okY gr ?_;rintro vs H Q E ⟨wd,n,c,rfl,B,a4,a2,y,q⟩;refine⟨J,λa1 A outer s hr=>⟨_,(aq (psS 3 gr.nd<|bx bC o8 T.dR amk<|aa (aL cD (pv 0)<|aL gy (pv 2)<|iG (n:=1000000)) af)
   (aq (psS 4 gr.nd<|aL cD (iG (n:=18446744073709551616))<|aL gy (pv 2)<|iG (n:=1000000000000000000))
   (aq (psS 5 gr.nd<|bx bC o8 T.dR amk<|aa (aL gy (pv 2)<|aL cD (pv 1) aF) af)
   (aq (psS 6 gr.nd aC)
   (ak<|aT<|dZ<|aa (aI<|aa (aL aH (aL aH aC<|pv 3) aC)<|aa (aI<|aa aC<|aa (bx gQ o8 T.wL ano<|aa (pv 3) af) af) af)<|aa (aI<|aa (aL aH aC<|bx bC o8 T.dR amk<|aa (pv 4) af)<|aa (aI<|aa aC<|aa (pv 4) af) af)<|aa (aI<|aa (aL aH (aL aH (aL aH (aL aH (aL aH aC<|pv 3) aC)<|bx bC o8 T.dR amk<|aa (pv 4) af) aC)<|bx bC o8 T.dR amk<|aa (pv 4) af)<|aa (aI<|aa aC<|aa (bx gQ o8 T.wL ano<|aa (pv 3) af) af) af)<|aa (aI<|aa (aL aH (aL aH (aL aH (aL aH aC<|bx bC o8 T.dR amk<|aa (pv 4) af) aC)<|pv 3) aC)<|aa (aI<|aa aC<|aa (pv 4) af) af)<|aa (aI<|aa aC<|aa (aI<|aa aC<|aa gS<|aa (pv 1) af) af)<|aa (aI<|aa aC<|aa (aI<|aa aC<|aa gS<|aa (pv 1) af) af)<|aa (aI<|aa (aL aH aC<|pv 5)<|aa (aI<|aa aC<|aa (bx gQ o8 T.wL ano<|aa (pv 5) af) af) af)<|aa (aI<|aa (aL aH aC<|pv 6)<|aa (aI<|aa aC<|aa aF af) af)<|aa (aI<|aa (aL aH (aL aH aC<|pv 3)<|pv 6)<|aa (aI<|aa aC<|aa aF af) af)<|aa (aI<|aa (aL aH (aL aH aC<|bx bC o8 T.dR amk<|aa (pv 1) af) aC)<|aa (aI<|aa aC<|aa (aL cD (pv 1) aF) af) af)<|aa (aI<|aa (aL aH (aL aH aC<|bx bC o8 T.dR amk<|aa (pv 1) af) aC)<|aa (aI<|aa aC<|aa (aL cD (pv 1) aF) af) af)<|aa (aI<|aa (aL aH (aL aH aC<|bx bC o8 T.dR amk<|aa (pv 4) af) aC)<|aa (aI<|aa aC<|aa (pv 4) af) af) af))))),?_⟩⟩
 obtain⟨far,h⟩:∃far:Z4,↥wd+c % 1000000=far:={1};obtain⟨great,S⟩:∃great:Z4,18446744073709551616+c % 1000000000000000000=great:={1};obtain⟨lone,g⟩:∃lone:Z4,c % (↥n+3)=lone:={1};let hf:↥wd≤far:=by omega
 let O:far<2000000:=by omega
 let hg:18446744073709551616≤great:=by omega
 let x:great<20000000000000000000:=by omega
 let hl:0≤lone/\lone<100:=by rw[←g];exact{apN _ o5,by let:=ao9 c (show↥0 <↥n+3 by omega);omega}
 exists 2,3,o6,3,1,dJ o5 o5;refine bf [E2 ↥wd,E2 ↥n,E2 c,some<|.str<|bY far,Z0,Z0,Z0] ?_ (by rw[←h];rfl);dsimp only;exists 1,3,o6,3;refine bf [E2 ↥wd,E2 ↥n,E2 c,some<|.str<|bY far,E2 great,Z0,Z0] ?_ (by rw[←S];rfl);dsimp only;exists 2,3,3,o5,1,(by rw[g];exact dJ hl.1 o5);refine bf [E2 ↥wd,E2 ↥n,E2 c,some<|.str<|bY far,E2 great,some<|.str<|bY lone,Z0] ?_ (by rw[←g];rfl);dsimp only;refine bf [E2 ↥wd,E2 ↥n,E2 c,some<|.str<|bY far,E2 great,some<|.str<|bY lone,some<|.str<|Str.ofString " 1 1 1 1 0 1 0 1 0 1 0 1"] ?_;dsimp only;let F:mZ wd n far great lone:=⟨B,hf,O,hg,x,y,hl⟩;let R:=ae6 F;refine{1,3,R.lc 1,3,R.lc 2,1,bY far,far,J,sQ o5 o5,sV o5 o5,E4,λd hd=>{E4,λt0 a=>?_}};refine iC (T:=λG=>bV _ _ _ G _) R hd a λG0 r0 s0=>?_
 clear R hd a;let R:=aew F;refine{1,great,J,dJ o5 o5,3,R.lc 1,1,E4,λd hd=>{E4,λt1 a=>?_}};refine iC (T:=λG=>bV _ _ _ G _) R hd a λG1 r1 s1=>?_
 clear R hd a;let R:=afP F;refine{1,3,R.lc 1,3,R.lc 2,1,great,J,dJ o5 o5,3,R.lc 3,3,R.lc 4,1,great,J,dJ o5 o5,3,R.lc 5,1,bY far,far,J,sQ o5 o5,sV o5 o5,E4,λd hd=>{E4,λt2 a=>?_}};refine iC (T:=λG=>bV _ _ _ G _) R hd a λG2 r2 s2=>?_
 clear R hd a;let R:=abS F;refine{1,great,J,dJ o5 o5,3,R.lc 1,3,R.lc 2,1,3,R.lc 3,3,R.lc 4,1,E4,λd hd=>{E4,λt3 a=>?_}};refine iC (T:=λG=>bV _ _ _ G _) R hd a λG3 r3 s3=>?_
 clear R hd a;let R:=abG F;refine{1,E5,λd hd=>{E4,λt4 a=>?_}};refine iC (T:=λG=>bV _ _ _ G _) R hd a λG4 r4 s4=>?_
 clear R hd a;let R:=acR F;refine{1,E5,λd hd=>{E4,λt5 a=>?_}};refine iC (T:=λG=>bV _ _ _ G _) R hd a λG5 r5 s5=>?_
 clear R hd a;let R:=Wv F;refine{1,3,R.lc 1,1,bY lone,lone,J,sQ o5 o5,sV o5 o5,E4,λd hd=>{E4,λt6 a=>?_}};refine iC (T:=λG=>bV _ _ _ G _) R hd a λG6 r6 s6=>?_
 clear R hd a;let R:=adp F;refine{1,3,vB [.c "plan 0"] (.c " 1 1 1 1 0 1 0 1 0 1 0 1") (λk U=>by simp at U <;> omega) (by kernel_rfl),E4,λd hd=>{E4,λt7 a=>?_}};change bV _ _ _ (Z9 (Z9 _ d<|.tup [.str "plan",.int 8]) t7<|.tup [.str<|dn [.c "plan 0",.c " 1 1 1 1 0 1 0 1 0 1 0 1"],.ref d]) _;refine iC (T:=λG=>bV _ _ _ G _) R hd a λG7 r7 s7=>?_
 clear R hd a;let R:=agM F;refine{1,3,R.lc 1,1,3,vB [.c "plan ",.n far] (.c " 1 1 1 1 0 1 0 1 0 1 0 1") (λk U=>by simp at U <;> omega) (by kernel_rfl),E4,λd hd=>{E4,λt8 a=>?_}};change bV _ _ _ (Z9 (Z9 _ d<|.tup [.str "plan",.int 8]) t8<|.tup [.str<|dn [.c "plan ",.n far,.c " 1 1 1 1 0 1 0 1 0 1 0 1"],.ref d]) _;refine iC (T:=λG=>bV _ _ _ G _) R hd a λG8 r8 s8=>?_
 clear R hd a;let R:=Xi F;refine{1,↥n,J,dJ o5 o5,3,R.lc 1,3,R.lc 2,1,3,E4,λd hd=>{E4,λt9 a=>?_}};change bV _ _ _ (Z9 (Z9 _ d<|.tup [.str "day",.int<|↥n+1]) t9<|.tup [.str<|dn [.c "plan ",.n ↥n,.c " 1 1 1 1 0 0 1"],.ref d]) _;refine iC (T:=λG=>bV _ _ _ G _) R hd a λG9 r9 s9=>?_
 clear R hd a;let R:=Va F;refine{1,↥n,J,dJ o5 o5,3,R.lc 1,3,R.lc 2,1,3,E4,λd hd=>{E4,λp a=>?_}};change bV _ _ _ (Z9 (Z9 _ d<|.tup [.str "day",.int<|↥n+1]) p<|.tup [.str<|dn [.c "plan ",.n ↥n,.c " 1 1 1 1 0 0 1 0 0 0 2"],.ref d]) _;refine iC (T:=λG=>bV _ _ _ G _) R hd a λa0 C z=>?_
 clear R hd a;let R:=UN F;refine{1,great,J,dJ o5 o5,3,R.lc 1,3,R.lc 2,1,E4,λd hd=>{E4,λr a=>?_}};change xT _ (Z9 (Z9 _ d<|.tup [.str "day",.int great]) r<|.tup [.str<|dn [.c "plan ",.n great,.c " 1 1 1 1 0 0"],.ref d]) _;refine iC (T:=λG=>xT _ G _) R hd a λa3 L u=>?_
 clear R hd a;refine{(by show 12≤Z7;decide),λl t=>?_};let sl:=ao.new t (o:=.lst [.ref t0,.ref t1,.ref t2,.ref t3,.ref t4,.ref t5,.ref t6,.ref t7,.ref t8,.ref t9,.ref p,.ref r]);let j:=sl;let m:=u.trans j;let e9:=z.trans m;let e8:=s9.trans e9;let e7:=s8.trans e8;let e6:=s7.trans e7;let e5:=s6.trans e6;let e4:=s5.trans e5;let Y:=s4.trans e4;let e2:=s3.trans Y;let e1:=s2.trans e2;let e0:=s1.trans e1;refine q l _ _ aj {by show 12≤20;decide,λi v b=>?_}<|s0.trans e0
 match i,b with
 |0,b=>cases b;exact r0.same e0
 |1,b=>cases b;exact r1.same e1
 |2,b=>cases b;exact r2.same e2
 |3,b=>cases b;exact r3.same Y
 |4,b=>cases b;exact r4.same e4
 |5,b=>cases b;exact r5.same e5
 |6,b=>cases b;exact r6.same e6
 |7,b=>cases b;exact r7.same e7
 |8,b=>cases b;exact r8.same e8
 |9,b=>cases b;exact r9.same e9
 |10,b=>cases b;exact C.same m
 |11,b=>cases b;exact L.same j
 |k+12,b=>simp at b
include T in
theorem vo(F:Fun K "_law_of_shelves" "_law_of_shelves" jJ f fd):⋯ 1 f fd ["_law_cell_here","_law_other"] (qa):=by
 refine F.okY fq ?_;rintro vs H Q E ⟨c,o,rfl,q⟩;refine⟨J,λa8 A outer s hr=>⟨_,(aq (psS 2 fq.nd<|aL cD aF<|aL gy (pv 0)<|iG (n:=1000000000000000000))
   (aq (psS 3 fq.nd<|bx bC o8 T.dR amk<|aa (pv 2) af)
   (aq (psS 4 fq.nd<|aL gy (pv 1)<|iG (n:=1000000000000000000))
   (aq (psS 5 fq.nd<|bx bC o8 T.dR amk<|aa (pv 4) af)
   (ak<|aT<|dZ<|aa (aI<|aa (aL aH (aL aH aC<|pv 3) aC)<|aa (aI<|aa aC<|aa (pv 2) af) af)<|aa (aI<|aa (aL aH (aL aH aC<|pv 3) aC)<|aa (aI<|aa aC<|aa (pv 2) af) af)<|aa (aI<|aa (aL aH aC<|pv 3)<|aa (aI<|aa aC<|aa (pv 2) af) af)<|aa (aI<|aa (aL aH (aL aH (aL aH aC<|pv 3) aC)<|bx bC o8 T.dR amk<|aa (aL cD (pv 2) aF) af)<|aa (aI<|aa aC<|aa (pv 2) af) af)<|aa (aI<|aa (aL aH aC<|pv 3)<|aa (aI<|aa aC<|aa (pv 2) af) af)<|aa (aI<|aa (aL aH aC<|pv 3)<|aa (aI<|aa aC<|aa (pv 2) af) af)<|aa (aI<|aa (aL aH (aL aH (aL aH aC<|pv 3) aC)<|pv 5)<|aa (aI<|aa aC<|aa (pv 2) af) af)<|aa (aI<|aa (aL aH (aL aH (aL aH (aL aH aC<|pv 3) aC)<|pv 5) aC)<|aa (aI<|aa aC<|aa (pv 2) af) af)<|aa (aI<|aa (aL aH aC<|pv 3)<|aa (aI<|aa aC<|aa (pv 2) af) af)<|aa (aI<|aa (aL aH (aL aH (aL aH (aL aH (aL aH aC<|pv 5) aC)<|pv 3) aC)<|bx bC o8 T.dR amk<|aa (aL cD (pv 2) aF) af)<|aa (aI<|aa aC<|aa (pv 2) af) af)<|aa (aI<|aa (aL aH aC<|pv 3)<|aa (aI<|aa aC<|aa (pv 2) af) af)<|aa (aI<|aa (aL aH (aL aH aC<|pv 3) aC)<|aa (aI<|aa aC<|aa (pv 2) af) af)<|aa (aI<|aa (aL aH aC<|pv 5)<|aa (aI<|aa aC<|aa (pv 4) af) af)<|aa (aI<|aa (aL aH (aL aH aC<|pv 5) aC)<|aa (aI<|aa aC<|aa (pv 4) af) af)<|aa (aI<|aa (aL aH (aL aH aC<|pv 5) aC)<|aa (aI<|aa aC<|aa (pv 4) af) af) af))))),?_⟩⟩
 obtain⟨no,z⟩:∃no:Z4,3+c % 1000000000000000000=no:={1};obtain⟨lone,Y⟩:∃lone:Z4,o % 1000000000000000000=lone:={1};let F:ShH no lone:=⟨o5,o5,o5⟩;exists 1,3,o6,3;refine bf [E2 c,E2 o,E2 no,Z0,Z0,Z0] ?_ (by rw[←z];rfl);dsimp only;exists 1,no,J,dJ o5 o5;refine bf [E2 c,E2 o,E2 no,some<|.str<|bY no,Z0,Z0] ?_;dsimp only;exists 1,3,o6;refine bf [E2 c,E2 o,E2 no,some<|.str<|bY no,E2 lone,Z0] ?_ (by rw[←Y];rfl);dsimp only;exists 1,lone,J,dJ o5 o5;refine bf [E2 c,E2 o,E2 no,some<|.str<|bY no,E2 lone,some<|.str<|bY lone] ?_;dsimp only;let R:=λ(wd n:Z5)=>ag0 (wd:=wd) (n:=n) F
 refine{1,3,(R 0 0).lc 1,3,(R 0 0).lc 2,1,E4,λd hd=>{E4,λt0 a=>?_}};refine eT (T:=λG=>bV _ _ _ G _) R hd a λG0 r0 s0=>?_
 clear R hd a;let R:=λ(wd n:Z5)=>adM (wd:=wd) (n:=n) F
 refine{1,3,(R 0 0).lc 1,3,(R 0 0).lc 2,1,E4,λd hd=>{E4,λt1 a=>?_}};refine eT (T:=λG=>bV _ _ _ G _) R hd a λG1 r1 s1=>?_
 clear R hd a;let R:=λ(wd n:Z5)=>aby (wd:=wd) (n:=n) F
 refine{1,3,(R 0 0).lc 1,1,E4,λd hd=>{E4,λt2 a=>?_}};refine eT (T:=λG=>bV _ _ _ G _) R hd a λG2 r2 s2=>?_
 clear R hd a;let R:=λ(wd n:Z5)=>agi (wd:=wd) (n:=n) F
 refine{1,3,(R 0 0).lc 1,3,(R 0 0).lc 2,1,3,no+1,J,dJ o5 o5,3,(R 0 0).lc 3,1,E4,λd hd=>{E4,λt3 a=>?_}};refine eT (T:=λG=>bV _ _ _ G _) R hd a λG3 r3 s3=>?_
 clear R hd a;let R:=λ(wd n:Z5)=>afK (wd:=wd) (n:=n) F
 refine{1,3,(R 0 0).lc 1,1,E4,λd hd=>{E4,λt4 a=>?_}};refine eT (T:=λG=>bV _ _ _ G _) R hd a λG4 r4 s4=>?_
 clear R hd a;let R:=λ(wd n:Z5)=>W4 (wd:=wd) (n:=n) F
 refine{1,3,(R 0 0).lc 1,1,E4,λd hd=>{E4,λt5 a=>?_}};refine eT (T:=λG=>bV _ _ _ G _) R hd a λG5 r5 s5=>?_
 clear R hd a;let R:=λ(wd n:Z5)=>V5 (wd:=wd) (n:=n) F
 refine{1,3,(R 0 0).lc 1,3,(R 0 0).lc 2,1,3,(R 0 0).lc 3,1,E4,λd hd=>{E4,λt6 a=>?_}};refine eT (T:=λG=>bV _ _ _ G _) R hd a λG6 r6 s6=>?_
 clear R hd a;let R:=λ(wd n:Z5)=>adV (wd:=wd) (n:=n) F
 refine{1,3,(R 0 0).lc 1,3,(R 0 0).lc 2,1,3,(R 0 0).lc 3,3,(R 0 0).lc 4,1,E4,λd hd=>{E4,λt7 a=>?_}};refine eT (T:=λG=>bV _ _ _ G _) R hd a λG7 r7 s7=>?_
 clear R hd a;let R:=λ(wd n:Z5)=>adE (wd:=wd) (n:=n) F
 refine{1,3,(R 0 0).lc 1,1,E4,λd hd=>{E4,λt8 a=>?_}};refine eT (T:=λG=>bV _ _ _ G _) R hd a λG8 r8 s8=>?_
 clear R hd a;let R:=λ(wd n:Z5)=>Wu (wd:=wd) (n:=n) F
 refine{1,3,(R 0 0).lc 1,3,(R 0 0).lc 2,1,3,(R 0 0).lc 3,3,(R 0 0).lc 4,1,3,no+1,J,dJ o5 o5,3,(R 0 0).lc 5,1,E4,λd hd=>{E4,λt9 a=>?_}};refine eT (T:=λG=>bV _ _ _ G _) R hd a λG9 r9 s9=>?_
 clear R hd a;let R:=λ(wd n:Z5)=>Vi (wd:=wd) (n:=n) F
 refine{1,3,(R 0 0).lc 1,1,E4,λd hd=>{E4,λC a=>?_}};refine eT (T:=λG=>bV _ _ _ G _) R hd a λa7 S a2=>?_
 clear R hd a;let R:=λ(wd n:Z5)=>Vf (wd:=wd) (n:=n) F
 refine{1,3,(R 0 0).lc 1,3,(R 0 0).lc 2,1,E4,λd hd=>{E4,λa3 a=>?_}};refine eT (T:=λG=>bV _ _ _ G _) R hd a λa6 y t=>?_
 clear R hd a;let R:=λ(wd n:Z5)=>Vo (wd:=wd) (n:=n) F
 refine{1,3,(R 0 0).lc 1,1,E4,λd hd=>{E4,λu a=>?_}};refine eT (T:=λG=>bV _ _ _ G _) R hd a λab B a4=>?_
 clear R hd a;let R:=λ(wd n:Z5)=>Vw (wd:=wd) (n:=n) F
 refine{1,3,(R 0 0).lc 1,3,(R 0 0).lc 2,1,E4,λd hd=>{E4,λx a=>?_}};refine eT (T:=λG=>bV _ _ _ G _) R hd a λa9 O U=>?_
 clear R hd a;let R:=λ(wd n:Z5)=>Vb (wd:=wd) (n:=n) F
 refine{1,3,(R 0 0).lc 1,3,(R 0 0).lc 2,1,E4,λd hd=>{E4,λa1 a=>?_}};refine eT (T:=λG=>xT _ G _) R hd a λa5 L r=>?_
 clear R hd a;refine{(by show 15≤Z7;decide),λl a0=>?_};let sl:=ao.new a0 (o:=.lst [.ref t0,.ref t1,.ref t2,.ref t3,.ref t4,.ref t5,.ref t6,.ref t7,.ref t8,.ref t9,.ref C,.ref a3,.ref u,.ref x,.ref a1]);let h:=sl;let m:=r.trans h;let g:=U.trans m;let j:=a4.trans g;let p:=t.trans j;let e9:=a2.trans p;let e8:=s9.trans e9;let e7:=s8.trans e8;let e6:=s7.trans e7;let e5:=s6.trans e6;let e4:=s5.trans e5;let e3:=s4.trans e4;let e2:=s3.trans e3;let e1:=s2.trans e2;let e0:=s1.trans e1;refine q l _ _ aj (λwd n=>{by show 15≤20;decide,λi v b=>?_})<|s0.trans e0
 match i,b with
 |0,b=>cases b;exact(r0 wd n).same e0
 |1,b=>cases b;exact(r1 wd n).same e1
 |2,b=>cases b;exact(r2 wd n).same e2
 |3,b=>cases b;exact(r3 wd n).same e3
 |4,b=>cases b;exact(r4 wd n).same e4
 |5,b=>cases b;exact(r5 wd n).same e5
 |6,b=>cases b;exact(r6 wd n).same e6
 |7,b=>cases b;exact(r7 wd n).same e7
 |8,b=>cases b;exact(r8 wd n).same e8
 |9,b=>cases b;exact(r9 wd n).same e9
 |10,b=>cases b;exact(S wd n).same p
 |11,b=>cases b;exact(y wd n).same j
 |12,b=>cases b;exact(B wd n).same g
 |13,b=>cases b;exact(O wd n).same m
 |14,b=>cases b;exact(L wd n).same h
 |k+15,b=>simp at b
variable(eX:bJ "_law_told" 13 ["_law_desk","_law_row"] (di bR ah aD ay av aB aK aP aQ aU aE aN aW))
include T eX in
theorem AF(F:Fun K "_law_behind" "_law_behind" nY f fd):⋯ 14 f fd ["_law_desk","_law_wide","_law_many","_law_cell_here"] (vf bR ah aD ay av aB):=by
 refine F.okY fP ?_;rintro vs H Q E ⟨k,Z,wd,C0,C1,c,rfl,h,bc,a2,u,q⟩;refine⟨J,λbh A outer s hr=>⟨_,(aq (psS 4 fP.nd<|bx bC o8 T.dR amk<|aa (pv 2) af)
   (aq (psS 5 fP.nd<|aL cD (pv 1)<|aL gy (pv 3)<|iG (n:=1000000000000000000))
   (aq (psS 6 fP.nd<|dZ<|aa (aI<|aa aC<|aa (aI<|aa aC<|aa aC af) af)<|aa (aI<|aa aC<|aa (aI<|aa aC<|aa (pv 2)<|aa (pv 2) af) af)<|aa (aI<|aa aC<|aa (aI<|aa aC<|aa (pv 2)<|aa (pv 2) af) af)<|aa (aI<|aa (aL aH aC<|pv 4)<|aa (aI<|aa aC<|aa aC af) af)<|aa (aI<|aa aC<|aa (aI<|aa aC<|aa aF af) af)<|aa (aI<|aa aC<|aa (aI<|aa aC<|aa aF af) af)<|aa (aI<|aa aC<|aa (aI<|aa aC<|aa aC af) af)<|aa (aI<|aa (aL aH (aL aH aC<|bx bC o8 T.dR amk<|aa (pv 5) af) aC)<|aa (aI<|aa aC<|aa (pv 5) af) af)<|aa (aI<|aa aC<|aa (aI<|aa aC<|aa aC af) af)<|aa (aI<|aa aC<|aa (aI<|aa aC<|aa (pv 4) af) af)<|aa (aI<|aa aC<|aa (aI<|aa aC<|aa aC af) af) af)
   (aq (gp amO J (dI<|pv 6) (su J<|dS (pgN 7 fP.nd)<|dS (pgN 8 fP.nd) mY)
   (ak<|bU (aX (kU hr.units) (pcS eX aO hr<|aa (pv 0)<|aa (pv 7) af) (pv 8)<|aY _) (ak<|aT lJ) bH))
   (ak<|aT lJ))))),?_⟩⟩
 dsimp only[bq];let bl:=h.st.D.w1;let bj:=h.st.D.w2;obtain⟨far,U⟩:∃far:Z4,↥wd+c % 1000000000000000000=far:={1};let ag:↥wd≤far:=by omega
 let bd:far<10 ^ 20:=by omega
 exists 1,(↥C0.length-1),J,dJ o5 o5;refine bf [E1 k,E2 ↥wd,E2<|↥C0.length-1,E2 c,some<|.str<|bY<|↥C0.length-1,Z0,Z0,Z0,Z0] ?_;dsimp only;exists 2,3,o6,3;refine bf [E1 k,E2 ↥wd,E2<|↥C0.length-1,E2 c,some<|.str<|bY<|↥C0.length-1,E2 far,Z0,Z0,Z0] ?_ (by rw[←U];rfl);dsimp only;refine{E4,λd0 am=>{E4,λY a6=>?_}};refine gV (T:=λG=>bV _ _ _ G _) [.c "keep whole"]  am a6 λG0 r0 s0=>?_
 refine{2,E5,λd1 ai=>{E4,λt1 a8=>?_}};refine gV (T:=λG=>bV _ _ _ G _) [.c "keep since"]  ai a8 λG1 r1 s1=>?_
 refine{2,E5,λd2 a4=>{E4,λz a2=>?_}};refine gV (T:=λG=>bV _ _ _ G _) [.c "keep last"]  a4 a2 λG2 r2 s2=>?_
 refine{1,3,vB [.c "seal "] (.n<|↥C0.length-1) (λk y=>by simp at y <;> omega) (by kernel_rfl),E4,λd3 ba=>{E4,λx al=>?_}};refine gV (T:=λG=>bV _ _ _ G _) [.c "seal ",.n<|↥C0.length-1]  ba al λG3 r3 s3=>?_
 refine{E4,λd4 aR=>{E4,λL a9=>?_}};refine gV (T:=λG=>bV _ _ _ G _) [.c "line 1 0"]  aR a9 λG4 r4 s4=>?_
 refine{E4,λd5 ab=>{E4,λt5 ax=>?_}};refine gV (T:=λG=>bV _ _ _ G _) [.c "harm 1 0 0 1"]  ab ax λG5 r5 s5=>?_
 refine{E4,λd6 ae=>{E4,λt6 an=>?_}};refine gV (T:=λG=>bV _ _ _ G _) [.c "carry 1 1"]  ae an λG6 r6 s6=>?_
 refine{1,far,J,dJ o5 o5,3,vB [.c "harm 1 0 "] (.n far) (λk y=>by simp at y <;> omega) (by kernel_rfl),3,vB [.c "harm 1 0 ",.n far] (.c " 1") (λk y=>by simp at y <;> omega) (by kernel_rfl),1,E4,λd7 a5=>{E4,λO a7=>?_}};refine gV (T:=λG=>bV _ _ _ G _) [.c "harm 1 0 ",.n far,.c " 1"]  a5 a7 λG7 r7 s7=>?_
 refine{E4,λd8 ar=>{E4,λB bb=>?_}};refine gV (T:=λG=>bV _ _ _ G _) [.c "harm 1 0 0 0"]  ar bb λG8 r8 s8=>?_
 refine{1,E4,λd9 aS=>{E4,λt9 be=>?_}};refine gV (T:=λG=>bV _ _ _ G _) [.c "reach 1"]  aS be λG9 r9 s9=>?_
 refine{E4,λbi a3=>{E4,λm C=>?_}};refine gV (T:=λG=>xT _ G _) [.c "marks"]  a3 C λG10 aw a1=>?_
 refine{(by show 11≤Z7;decide),λl a0=>?_};let sl:=ao.new a0 (o:=.lst [.ref Y,.ref t1,.ref z,.ref x,.ref L,.ref t5,.ref t6,.ref O,.ref B,.ref t9,.ref m]);let r:=sl;let e9:=a1.trans r;let e8:=s9.trans e9;let e7:=s8.trans e8;let e6:=s7.trans e7;let e5:=s6.trans e6;let e4:=s5.trans e5;let e3:=s4.trans e4;let e2:=s3.trans e3;let e1:=s2.trans e2;let e0:=s1.trans e1;let p:Z9 G10 l (.lst [.ref Y,.ref t1,.ref z,.ref x,.ref L,.ref t5,.ref t6,.ref O,.ref B,.ref t9,.ref m]) l=_:=aj;refine bf [E1 k,E2 ↥wd,E2<|↥C0.length-1,E2 c,some<|.str<|bY<|↥C0.length-1,E2 far,E1 l,Z0,Z0] ?_;dsimp only;generalize Z9 G10 l (.lst [.ref Y,.ref t1,.ref z,.ref x,.ref L,.ref t5,.ref t6,.ref O,.ref B,.ref t9,.ref m])=G at p e0 e1 e2 e3 e4 e5 e6 e7 e8 e9 r ⊢;let hL:∀(i:Z5)(v:V),([.ref Y,.ref t1,.ref z,.ref x,.ref L,.ref t5,.ref t6,.ref O,.ref B,.ref t9,.ref m]:mu V)[i]?=some v->∃(as:mu At)(due:mu V),(EE (↥C0.length-1) far)[i]?=some (as,due)/\z8 as due G v:=λi v g=>by
  match i,g with
  |0,g=>cases g;exact{_,1,r0.same e0}
  |1,g=>cases g;exact{_,1,r1.same e1}
  |2,g=>cases g;exact{_,1,r2.same e2}
  |3,g=>cases g;exact{_,1,r3.same e3}
  |4,g=>cases g;exact{_,1,r4.same e4}
  |5,g=>cases g;exact{_,1,r5.same e5}
  |6,g=>cases g;exact{_,1,r6.same e6}
  |7,g=>cases g;exact{_,1,r7.same e7}
  |8,g=>cases g;exact{_,1,r8.same e8}
  |9,g=>cases g;exact{_,1,r9.same e9}
  |10,g=>cases g;exact{_,1,aw.same r}
  |j+11,g=>simp at g
 let hG:=h.same<|s0.trans e0;let nP:=hG.alA;let nl:l∉Z.own:=λhm=>by
  let:∃o,G10 l=some o:=by
   let s9:ao H G10:=s0.trans<|s1.trans<|s2.trans<|s3.trans<|s4.trans<|s5.trans<|s6.trans<|s7.trans<|s8.trans<|s9.trans (a1);let h10:=h.same s9;let⟨kv,ac,_⟩:=h10.se;rcases amq.mp hm with rfl|hm
   .exact{_,ac}
   .exact h10.st.here l hm
  let⟨o,e⟩:=this;rw[a0] at e;cases e
 refine⟨_,J,l,J,{_,X0.of p},fE (K:=K) (a:=l) (xs:=[.ref Y,.ref t1,.ref z,.ref x,.ref L,.ref t5,.ref t6,.ref O,.ref B,.ref t9,.ref m]) (λi σ H2=>∃v7 v8:o9 V,σ=[E1 k,E2 ↥wd,E2<|↥C0.length-1,E2 c,some<|.str<|bY<|↥C0.length-1,E2 far,E1 l,v7,v8]/\xU bR ah aD ay av aB k Z.own wd C0 C1 i H2/\bg Z.own G H2)
  {Z0,Z0,J,by unfold xU;rw[ama rfl];exact⟨Z,hG,bc,J⟩,bg.refl} (λi σ H2 _ z0=>by let⟨_,_,_,_,S⟩:=z0;exact X0.of<|S _ _ p nl) ?_ ?_⟩
 .rintro i v σ H2 hi ⟨v7,v8,rfl,hI,S⟩;let⟨as,due,e,t,d,rfl,ht,hd⟩:=hL i v hi;exists t,1,X3.of<|S _ _ ht<|nP.tup ht,J,_,1,3;refine AW Z2 (λH3=>xU bR ah aD ay av aB k Z.own wd C0 C1 (i+1) H3/\bg Z.own G H3) (λQb hq=>?_) nofun λ_ H3 h3=>{_,1,h3.1,h3.2};refine{2,abq e ⟨ag,bd⟩ u hI λf H3 hf hb k3=>?_};let kG:bg Z.own G H3:=λb o eb hb=>k3 _ _ (S _ _ eb hb) hb
  exact{1,(0),Z1,o6,kH hf (kG _ _ hd<|nP.tup hd)<|MA e,1,hq _ ⟨hb,kG⟩}
 .rintro σ H2 ⟨v7,v8,rfl,hI,S⟩;exact q H2
variable(dN:bJ "_law_cell" 1 ["_law_script","_law_k"] (AZ K))
variable(jr:bJ "_law_of_days" 1 ["_law_wide","_law_many","_law_cell_here"] wm)
variable(gO:bJ "_law_of_shelves" 1 ["_law_cell_here","_law_other"] qa)
variable(jS:bJ "_law_behind" 14 ["_law_desk","_law_wide","_law_many","_law_cell_here"] (vf bR ah aD ay av aB))
variable(gE:bJ "_law_made" 13 ["_law_wide","_law_rules"] Ak)
include T eY p8 eX dN jr gO jS gE in
theorem aaw(F:Fun K "law" "law" nh f fd):⋯ 15 f fd ["_law_script"] (sE K):=by
 refine F.okY jN ?_;rintro vs H Q E ⟨a,ns,rfl,hS,bo,q⟩;refine⟨J,λbp A outer s g=>⟨_,(aq (psS 1 jN.nd<|pcS dN aO g<|aa (pv 0)<|aa aF af)
   (aq (psS 2 jN.nd<|aL cD aF<|aL gy (pv 1) aF)
   (aq (psS 3 jN.nd<|aL cD aF<|aL gy (aL yE (pv 1) aF) aF)
   (aq (psS 4 jN.nd<|g9 p8 aV (g.mono o6) J<|aa (pv 2)<|aa aF<|aa aF<|aa aC af)
   (aq (gp amO J (K6 J T.AV<|aa (pv 3) af) (pgN 5 jN.nd)
   (ak<|bL<|aZ (pv 4) T.rH eY aV (g.mono o6)<|aa (aL aH (aL aH (aL aH aC<|bx bC o8 T.dR amk<|aa (aL gy (pcS dN aO g<|aa (pv 0)<|aa (aL cD aF<|pv 5) af)<|pv 2) af) aC)<|bx bC o8 T.dR amk<|aa (aL gy (pcS dN aO g<|aa (pv 0)<|aa (aL cD aF<|pv 5) af)<|iG (n:=18446744073709551616)) af) af))
   (aq (psS 6 jN.nd<|aL Zc (pcS jr aO g<|aa (pv 2)<|aa (pv 3)<|aa (pcS dN aO g<|aa (pv 0)<|aa aF af) af)<|pcS gO aO g<|aa (pcS dN aO g<|aa (pv 0)<|aa aF af)<|aa (pcS dN aO g<|aa (pv 0)<|aa aF af) af)
   (aq (gp amO J (dI<|pv 6) (su J<|dS (pgN 7 jN.nd)<|dS (pgN 8 jN.nd) mY)
   (ak<|bU (aX (kU g.units) (pcS eX aO g<|aa (pv 4)<|aa (pv 7) af) (pv 8)<|aY _) (ak<|aT lJ) bH))
   (aq (bU (PW.pt<|pw_or (aX (kU g.units) (pcS eX aO g<|aa (pv 4)<|aa aC af) (aI<|aa aC<|aa aC af)<|aY _)<|pw_or1<|aX (kU g.units) (pcS eX aO g<|aa (pv 4)<|aa aC af) (aI<|aa aC<|aa (bx bC o8 T.dR amk<|aa (aL cD (pv 3) aF) af) af)<|aY _) (ak<|aT lJ) bH)
   (aq (bU (rJ<|nC<|pcS jS aO g<|aa (pv 4)<|aa (pv 2)<|aa (aL cD (pv 3) aF)<|aa (pcS dN aO g<|aa (pv 0)<|aa aF af) af) (ak<|aT lJ) bH)
   (aq (bU (PW.pt<|pw_or (aX (kU g.units) (pcS gE aO g<|aa (pv 2)<|aa aC af) (aI<|aa aC<|aa aC af)<|aY _)<|pw_or1<|aX (kU g.units) (pcS gE aO g<|aa (pv 2)<|aa aC af) (aI<|aa aC<|aa aF af)<|aY _) (ak<|aT lJ) bH)
   (aq (psS 9 jN.nd<|bG bw (dZ<|aa aF<|aa (aL adq (Ct zd aF)<|aL gy (pv 1)<|iG (n:=1000000000000000000))<|aa aF<|aa (aL cD aF<|aL gy (pv 1)<|iG (n:=1000000000000000000)) af) (aL gy (aL yE (pv 1) aF) aF) λ_ _=>rfl)
   (ak<|aT<|zB (gW (BS g.units) (pcS gE aO g<|aa (pv 9)<|aa aC af) (aI<|aa aC<|aa (pv 9) af)<|aY _)<|wu<|gW (BS g.units) (pcS gE aO g<|aa (pv 2)<|aa aC af) (aI<|aa aC<|aa aC af)<|aY _)))))))))))),?_⟩⟩
 dsimp only[bq];exists 1,a,ns,(0),J,hS;generalize hc0:qg ns ((0:Z5):Z4)=u;refine bf [E1 a,E2 u,Z0,Z0,Z0,Z0,Z0,Z0,Z0,Z0] ?_;dsimp only;obtain⟨wd,bb,bd,ba⟩:∃wd:Z5,1+u % 40 =↥wd/\1≤wd/\wd≤40:={(1+u % 40).toNat,o5,o5,o5};obtain⟨b,aS,ar,aR⟩:∃b:Z5,1+u / 40 % 6 =↥b/\1≤b/\b≤6:={(1+u / 40 % 6).toNat,o5,o5,o5};exists 1,3,o4,3;refine bf [E1 a,E2 u,E2 ↥wd,Z0,Z0,Z0,Z0,Z0,Z0,Z0] ?_ (by rw[←bb];rfl);dsimp only;exists 1,3,⟨o4,o4⟩,3,o4,3;refine bf [E1 a,E2 u,E2 ↥wd,E2 ↥b,Z0,Z0,Z0,Z0,Z0,Z0] ?_ (by rw[←aS];rfl);dsimp only;refine{1,λk dx hx ai am=>{k,dx,↥wd,.int 1,.int 1,"",J,aj,λhw=>.inl {.inl J,λA H1 hk hn a4 a9 ab a1 kk=>{J,?_}},λhw=>absurd ⟨o5,o5⟩ hw}};rw[show(↥wd).toNat=wd by omega] at a4;let hI:DyI bR ah aD ay av aB H H1 k A wd 0 [List.replicate wd 0] [[]]:=by refine{{⟨dx,hk⟩,a4,{[],a9,o7},ab,λz=>?_},hn,J,cA hx ai kk,λx bj=>(bB (bB<|a1 x bj).1).1};let:=a1 k z;rw[aj] at this;cases this
 clear hk hn a4 a9 ab a1 kk hx ai am;refine bf [E1 a,E2 u,E2 ↥wd,E2 ↥b,E1 k,Z0,Z0,Z0,Z0,Z0] ?_;dsimp only;refine oq (λσ H'=>∃(O:o9 V)(A:SAd)(C0 C1:mu (mu Z4)),σ=[E1 a,E2 u,E2 ↥wd,E2 ↥b,E1 k,O,Z0,Z0,Z0,Z0]/\DyI bR ah aD ay av aB H H' k A wd b C0 C1) (λN hN=>?_) ?_
 .refine{1,↥b,J,o5,o5,vV (lo:=0) (n:=b) (λi σ H'=>∃(O:o9 V)(A:SAd)(C0 C1:mu (mu Z4)),σ=[E1 a,E2 u,E2 ↥wd,E2 ↥b,E1 k,O,Z0,Z0,Z0,Z0]/\DyI bR ah aD ay av aB H H' k A wd i C0 C1) {Z0,A,_,1,hI} ?_ ?_}
  .rintro i σ H2 hi ⟨O,A2,C0,C1,rfl,B⟩;refine bf [E1 a,E2 u,E2 ↥wd,E2 ↥b,E1 k,E2<|0 +↥i,Z0,Z0,Z0,Z0] ?_;dsimp only;generalize hc:qg ns ((4+i:Z5):Z4)=c;let U:=B.sb.seq hS;let⟨aw,g2⟩:=id B.h.dk;let x1:0≤c % ↥wd/\c % ↥wd<wd:={apN _ o5,ao9 _ o5};let y1:0≤c % 18446744073709551616/\c % 18446744073709551616<18446744073709551616:=by omega
   generalize hx:c % ↥wd=x at x1;generalize hy:c % 18446744073709551616=y at y1;let e4:↥4 +(0 +↥i) =((4+i:Z5):Z4):=by omega
   exists 1,k,aw,1,g2,J,2,3,a,ns,4+i,by rw[←e4],U,1,3,o5,x,by rw[hc,hx],dJ o5 o5,3,vB [.c "day "] (.n x) (λk hk=>by simp at hk <;> omega) (by kernel_rfl),3,vB [.c "day ",.n x] (.c "=") (λk hk=>by simp at hk <;> omega) (by kernel_rfl),2,3,a,ns,4+i,by rw[←e4],U,3,o6,y,by rw[hc,hy],dJ o5 o5,3,vB [.c "day ",.n x,.c "="] (.n y) (λk hk=>by simp at hk <;> omega) (by kernel_rfl);exact B.say x1 y1 o5 λs A3 p r H3 al=>{_,A3,p,r,J,al}
  .rintro σ H2 ⟨O,A2,C0,C1,rfl,B⟩;exact hN _ _ ⟨O,A2,C0,C1,J,B⟩
 rintro σ H2 ⟨O,A2,C0,C1,rfl,B⟩;clear hI;let U:=B.sb.seq hS;refine{2,1,a,ns,(1),J,U,wd,b,1,bd,ba,ar,aR,λl1 L1 H3 ag a2 s3=>?_};let a5:=s3.seq U;refine{1,a,ns,(2),J,a5,1,a,ns,(3),J,a5,_,1,λl2 L2 H4 ae a3 s4=>?_};let a7:=(B.same s3).same s4;refine{l1,l2,L1,L2,J,J,s4 _ _ ag,ae,amo (show L1.length+L2.length≤40 by let:=a2.1;let:=(a3 wd b).1;omega) o6,λl3 ac=>?_};let s5:ao H4 (Z9 H4 l3 (.lst (L1++L2))):=ao.new ac;let g5:Z9 H4 l3 (.lst (L1++L2)) l3=some (.lst (L1++L2)):=aj;refine bf [E1 a,E2 u,E2 ↥wd,E2 ↥b,E1 k,O,E1 l3,Z0,Z0,Z0] ?_;dsimp only;generalize Z9 H4 l3 (.lst (L1++L2))=H5 at s5 g5 ⊢;let a0:=a7.same s5;let hL:∀(i:Z5)v,(L1++L2)[i]?=some v->sP wd b H5 v:=λi v e=>by
  rw[List.getElem?_append] at e;split at e
  .exact sP.same (a2.2 _ _ e) (s4.trans s5)
  .exact sP.same ((a3 wd b).2 _ _ e) s5
 clear a2 a3 ag ae B a7 U a5 s3 s4 s5 ac;refine oq (λσ H'=>∃(v7 Y:o9 V),σ=[E1 a,E2 u,E2 ↥wd,E2 ↥b,E1 k,O,E1 l3,v7,Y,Z0]/\ao H5 H') (λN hN=>?_) ?_
 .refine{1,l3,J,{_,X0.of g5},fE (K:=K) (a:=l3) (xs:=L1++L2) (λi σ H'=>∃(v7 Y:o9 V),σ=[E1 a,E2 u,E2 ↥wd,E2 ↥b,E1 k,O,E1 l3,v7,Y,Z0]/\ao H5 H') {Z0,Z0,J,ao.refl _} (λi σ H' _ z0=>by let⟨_,_,_,s⟩:=z0;exact X0.of<|s _ _ g5) ?_ ?_}
  .rintro i v σ H6 hi ⟨v7,Y,rfl,s6⟩;let⟨t,d,as,due,rfl,ht,hd,hR⟩:=hL i v hi;exists t,1,X3.of<|s6 _ _ ht,J,_,1,3;refine AW Z2 (λH'=>ao H5 H') (λQb hq=>?_) nofun λ_ H' s=>{_,1,s};let L:=a0.same s6;refine{2,ahl L.h L.n0 L.tl o5 hR λf H7 hf s7=>?_};exact{1,(0),Z1,o6,kH hf (s7 _ _<|s6 _ _ hd) hR.flat,1,hq _<|s6.trans s7}
  .rintro σ H6 ⟨v7,Y,rfl,s6⟩;exact hN _ _ ⟨v7,Y,J,s6⟩
 rintro σ H6 ⟨v7,Y,rfl,s6⟩;let L:=a0.same s6;clear hL a0 s6 g5;refine oq (λσ H'=>σ=[E1 a,E2 u,E2 ↥wd,E2 ↥b,E1 k,O,E1 l3,v7,Y,Z0]/\∃A C0 C1,DyI bR ah aD ay av aB H H' k A wd (b+1) C0 C1) (λN hN=>?_) ?_
 .refine AW Z2 (λH'=>∃A C0 C1,DyI bR ah aD ay av aB H H' k A wd (b+1) C0 C1) (λQb hq=>?_) nofun (λ_ H' s=>hN _ _ ⟨J,s⟩);refine{1,L.marks λf H7 f7 s7=>?_};refine{E4,λd hd=>{(0),Z1,o6,kH (ao.new hd _ _ f7) aj J,1,iK ?_}};let C:=(L.same s7).same<|ao.new hd (o:=.tup [.str "text",.str "0 0 0"]);refine{1,C.told o5 λf2 A3 p r H8 bh be=>?_};refine{1,3,↥b+1,J,dJ o5 o5,E4,λd2 S=>{(0),Z1,o6,kH (ao.new S _ _ bh) aj J,1,hq _ {A3,p,r,be.same<|ao.new S}}}
 rintro σ H7 ⟨rfl,A3,p,r,C⟩;clear L;refine oq (λσ H'=>σ=[E1 a,E2 u,E2 ↥wd,E2 ↥b,E1 k,O,E1 l3,v7,Y,Z0]) (λN hN=>?_) ?_
 .refine AW Z2 (λH'=>True) (λQb hq=>?_) nofun (λ_ H' _=>hN _ _ J);let ax:=C.sb.seq hS;let an:=C.tl;exact{2,1,3,1,a,ns,(1),J,ax,k,A3,wd,p,r,qg ns ((1:Z5):Z4),by rw[an];simp,C.h,C.n0,o5,o5,λH8=>{1,hq _ trivial}}
 rintro σ H8 rfl;clear C;refine oq (λσ H'=>σ=[E1 a,E2 u,E2 ↥wd,E2 ↥b,E1 k,O,E1 l3,v7,Y,Z0]) (λN hN=>?_) ?_
 .refine AW Z2 (λH'=>True) (λQb hq=>?_) nofun (λ_ H' _=>hN _ _ J);refine{1,wd,"last",[.str "rule",.str "last"],J,.inl {o5,.inl ⟨J,J⟩},λt H9 ht _=>{E4,λd hd=>{(0),Z1,o6,kH (ao.new hd _ _ ht) aj J,1,iK ?_}}};exact{1,wd,"apart 0",[.str "rule",.int 0],J,.inl {o5,.inr<|.inl ⟨J,J⟩},λt2 bi a6 _=>{E4,λd2 S=>{(0),Z1,o6,kH (ao.new S _ _ a6) aj J,1,hq _ trivial}}}
 rintro σ H9 rfl;obtain⟨j,hj,bt,bn⟩:∃j:Z4,u / 240 % 4=j/\0≤j/\j<4:={1,o5,o5};obtain⟨m,hm,bm,bl⟩:∃m:Z4,u % 1000000000000000000=m/\0≤m/\m<1000000000000000000:={1,o5,o5};obtain⟨nv,bc,a8⟩:∃nv:Z4,atI [V.int 0,.int (-1-m),.int 41,.int (41+m)] j=some (.int nv)/\¬(1≤nv/\nv≤40):=by
  rcases(show j=0∨j=1∨j=2∨j=3 by omega) with rfl|rfl|rfl|rfl
  .exact{(0),J,o5}
  .exact{-1-m,J,o5}
  .exact{(41),J,o5}
  .exact{41+m,J,o5}
 refine{2,3,o6,3,1,3,o6,3,(by show 4≤Z7;decide),λl hl=>?_};rw[hm];exists 1,3,⟨o4,o4⟩,3,o4,l,_,j,.int nv,J,by rw[←hj],X0.of aj,bc;refine bf [E1 a,E2 u,E2 ↥wd,E2 ↥b,E1 k,O,E1 l3,v7,Y,E2 nv] ?_;dsimp only;refine{1,nv,"last",[.str "table",.int nv],J,.inr ⟨a8,J,J⟩,λt bi ht _=>{1,E4,λd hd=>{(0),Z1,o6,kH (ao.new hd _ _ ht) aj J,1,?_}}};refine iz {1,wd,"each 3",[.str "text",.str "0 0 0"],J,.inl {o5,.inr<|.inr ⟨J,J⟩},λt2 bv a6 _=>{E4,λd2 S=>{(0),Z1,o6,kH (ao.new S _ _ a6) aj J,q _}}}
end
def Vn:Go g0:=by
 rintro⟨X,G,eJ,B8,Af,AD,EU,JZ,zA,ET,Be,Bc,A8,GI,DZ,Bu,CZ,DF,Bk,JG,FZ,Aa,D5,GD,qQ,GS,Gm,GB,JQ,Lc,UZ,eC,Eh,zq,ju,zz,iN,zx,iM,Ey,nc,Bx,jZ,lR,yY,ic,BI,g7,BO,j3,zG,iP,GQ,nj,eZ,gj,fJ,pT,iF,i9,jY,lA,sD,mj,jO,lq,nB,jM,EH,dG,dY,i6,kq,kE,Dw,xQ,Dd,ou,EN,fj,pX,pU,pN,cz,iB,gY,jQ,F9,lU,l0,l1,l2,l3,l4,l5,l6,l7,l8,l9,l10,l11,l12,l13,l14,l15,l16,l17,l18,l19,l20,lb,fC,lj,dK,la,du,dv,dq,eD,fx,k24,e2,eM,he,el,dr,dz,eK,ek,k28,e1,ea,ej,gN,eB,eb,hd,ew,eR,g4,ge,gw,e7,fD,fy,es,ht,dV,fa,f3,df,dT,ei,e3,fv,f8,eS,f5,hm,gt,g2,fg,dW,e0,fk,gL,f4,dA,ey,e9,fr,en,e8,f7,ee,eQ,fo,hk,fw,eP,g6,ez,eH,eA,e4,go,ex,gh,dL,dC,et,ga,gc,ev,g3,eo,hh,fi,hc,ep,hf,g1,fc,ha,fA,g5,hb,fm,fe,hp,eI,e5,eu,gs,ff,eh,dR,dy,dt,dx,zc,AY,AI,B9,MZ,Mn,xg,hn,hj,DO,eg,Vz,U0,ed,ho,MX,fI,EW,Ed,hq,fn,e6,Jo,mt,bb,ax,ab,y,as,an,B,O,a9,a2,H,S,b,v,c,a,m,cB,cF,bp,cp,cx,ct,cc,c2,cq,ci,cs,ca,bj,aR,aw⟩ f fd F;rename_i lf kx li kS ib io hV hW i3 kf i5 j2 ik hB hL hT kl hy kG hQ i0 ip j1 ke hz ij j0 hX hI hF kv js jp lk hK kk hZ hD km hN kb hv hY kn im iq ii hu kA hR it hO is hM hH ka ks hU hS hA hx kw kt kz hG hJ i4 i1 kh hE iI i2 kd iv ih hC hw hP a6 a7 a4 L a5 al a3 x am ae g o s q j ai a0 ag A U C a1 a8 ar ac u r p t l de ch cr bv bl cn cw ce bm c3 cf bd be aS co c0 cl bt cd cm bn bo c4 c1 bc ba bi dp;let mh:GDF P w K mg cV cK:=agz [((PySem.Str.ofString "day"),a6,.ref ai),((PySem.Str.ofString "keep"),a7,.ref a0),((PySem.Str.ofString "seal"),a4,.ref ag),((PySem.Str.ofString "tidy"),L,.ref A),((PySem.Str.ofString "carry"),a5,.ref U),((PySem.Str.ofString "harm"),al,.ref C),((PySem.Str.ofString "heal"),a3,.ref a1),((PySem.Str.ofString "marks"),x,.ref a8),((PySem.Str.ofString "lies"),am,.ref ar),((PySem.Str.ofString "line"),ae,.ref ac),((PySem.Str.ofString "reach"),g,.ref u),((PySem.Str.ofString "fetch"),o,.ref r),((PySem.Str.ofString "price"),s,.ref p),((PySem.Str.ofString "way"),q,.ref t),((PySem.Str.ofString "plan"),j,.ref l)] _ bb ax J d7<|amP.mpr {amf X G ab,amP.mpr {amf X G y,amP.mpr {amf X G as,amP.mpr {amf X G an,amP.mpr {amf X G B,amP.mpr {amf X G O,amP.mpr {amf X G a9,amP.mpr {amf X G a2,amP.mpr {amf X G H,amP.mpr {amf X G S,amP.mpr {amf X G b,amP.mpr {amf X G v,amP.mpr {amf X G c,amP.mpr {amf X G a,amP.mpr {amf X G m,J}}}}}}}}}}}}}}};let lB:GDT P w K eE zI:=aaB [((PySem.Str.ofString "seal"),ch,.ref co),((PySem.Str.ofString "tidy"),cr,.ref c0),((PySem.Str.ofString "carry"),bv,.ref cl),((PySem.Str.ofString "harm"),bl,.ref bt),((PySem.Str.ofString "heal"),cn,.ref cd),((PySem.Str.ofString "marks"),cw,.ref cm),((PySem.Str.ofString "lies"),ce,.ref bn),((PySem.Str.ofString "line"),bm,.ref bo),((PySem.Str.ofString "reach"),c3,.ref c4),((PySem.Str.ofString "fetch"),cf,.ref c1),((PySem.Str.ofString "price"),bd,.ref bc),((PySem.Str.ofString "way"),be,.ref ba),((PySem.Str.ofString "plan"),aS,.ref bi)] _ cB cF J d7<|amM.mpr {{1,bp},(amM.mpr {{1,cp},(amM.mpr {{1,cx},(amM.mpr {{1,ct},(amM.mpr {{1,cc},(amM.mpr {{1,c2},(amM.mpr {{1,cq},(amM.mpr {{1,ci},(amM.mpr {{1,cs},(amM.mpr {{1,ca},(amM.mpr {{1,bj},(amM.mpr {{1,aR},(amM.mpr {{1,aw},(λ_ h=>by cases h)})})})})})})})})})})})})};let T:Txt:={amf X G eJ,amf X G B8,amf X G Af,amf X G AD,amf X G EU,amf X G JZ,amf X G zA,amf X G ET,Eh.1,amf X G Be,zq.1,ju,amf X G Bc,zz.1,iN,amf X G A8,zx.1,iM,amf X G GI,Ey.1,nc,amf X G DZ,Bx.1,jZ,lR,amf X G Bu,yY.1,ic,amf X G CZ,BI.1,g7,amf X G DF,BO.1,j3,amf X G Bk,zG.1,iP,amf X G JG,GQ.1,nj,eZ,gj,fJ,amf X G FZ,amf X G Aa,pT.1,iF,i9,jY,lA,amf X G D5,sD.1,mj,jO,lq,nB,jM,amf X G GD,EH.1,dG,dY,amf X G qQ,i6.1,kq,kE,amf X G GS,Dw.1,xQ,amf X G Gm,Dd.1,ou,amf X G GB,EN.1,fj,pX,pU,pN,cz,iB,gY,jQ,amf X G JQ,F9.1,lU,amf X G Lc,amf X G UZ,amf X G eC,amL X G hn,amL X G hj,amL X G DO,amL X G eg,amL X G Vz,amL X G U0,amL X G ed,amL X G ho,amL X G MX,amL X G fI,amL X G EW,amL X G Ed,amL X G hq,amL X G fn,amL X G e6,Jo,mt};let d1:=rG (st:=eV) eD fx k24;let fp:=d1.binds (ps:=["self","day","rows","check"]) (ds:=[]) e2 J λ_ _ _ _ _ _ us i=>ln4 us i λ_ _ _ _=>{1,J}
 let uv:=d1.binds (ps:=["self","day","rows","check"]) (ds:=[Value.none]) e2 J λ_ _ _ _ _ _ us i=>ln3 us (⇑i) λ_ _ _=>{1,J}
 let d6:=rG (st:=fB) eK ek k28;let hi:=d6.binds (ps:=["self","base","day","rows","check"]) (ds:=[]) e1 J λ_ _ _ _ _ _ us i=>ln5 us i λ_ _ _ _ _=>{1,J}
 let vJ:=d6.binds (ps:=["self","base","day","rows","check"]) (ds:=[Value.none]) e1 J λ_ _ _ _ _ _ us i=>ln4 us (⇑i) λ_ _ _ _=>{1,J}
 let da:=rG (st:=kN) fa f3 df;let hr:=da.binds (ps:=["shelf","good"]) (ds:=[]) dT J λ_ _ _ _ _ _ us i=>ln2 us i λ_ _=>{1,J}
 let Ez:=da.binds (ps:=["shelf","good"]) (ds:=[Value.bool Z2]) dT J λ_ _ _ _ _ _ us i=>ln1 us (⇑i) λ_=>{1,J}
 let db:=rG (st:=c6) fk gL f4;let hg:=db.binds (ps:=["self","step","many"]) (ds:=[]) dA J λ_ _ _ _ _ _ us i=>ln3 us i λ_ _ _=>{1,J}
 let qf:=db.binds (ps:=["self","step","many"]) (ds:=[Value.none]) dA J λ_ _ _ _ _ _ us i=>ln2 us (⇑i) λ_ _=>{1,J}
 let dm:=rG (st:=gP) ex gh dL;let eq:=dm.binds (ps:=["self","some"]) (ds:=[]) dC J λ_ _ _ _ _ _ us i=>ln2 us i λ_ _=>{1,J}
 let Uc:=dm.binds (ps:=["self","some"]) (ds:=[Value.none]) dC J λ_ _ _ _ _ _ us i=>ln1 us (⇑i) λ_=>{1,J}
 let Y:Bs P w K mg base:={_,X,G};let qx:=l0.e Be zq Y λF=>uy T F
 let g8:=l1.e Bc zz Y λF=>uw T F
 let qk:=l2.e A8 zx Y λF=>uo T F
 let mV:=l3.e GI Ey Y λF=>xw T F
 let ko:=l4.e DZ Bx Y λF=>vY T F
 let qp:=l5.e Bu yY Y λF=>uu T F
 let fH:=l6.e CZ BI Y λF=>vX T F
 let tZ:=l7.e DF BO Y λF=>vN T F
 let qt:=l8.e Bk zG Y λF=>ur T F
 let iw:=l15.d Y λF=>Fy T qx F
 let zk:=l9.mk1 JG GQ Y λF=>xV T iw F
 let gJ:=l13.d Y λF=>ve T g8 qk F
 let jU:=l10.d Y λF=>Aq T gJ F
 let cC:=l14.d Y λF=>za T mV F
 let lI:=l11.d Y λF=>Cc T cC F
 let jt:=l12.d Y λF=>zD T cC F
 let qu:=l16.d Y λF=>Jk T F
 let sX:=l17.d Y λF=>KC T F
 let sW:=l18.d Y λF=>Ke T F
 let sU:=l19.d Y λF=>KZ T F
 let oM:=l20.d Y λF=>Ff T sU F
 let cJ:Rw "Piece" cR "__init__" 3 ["self","start","day","rows","check"] (tL K):=by let⟨_,_,F⟩:=fC;exact{_,_,Y.at_ FZ,⟨MZ,Mn,xg,F.kp⟩,xo T oM F,F.binds λ_ _ _ _ _ _ us i=>ln5 us i λ_ _ _ _ _=>rfl}
 let dX:=dK.d zc Y λF=>pG T F
 let eN:=dK.d AY Y λF=>pG T F
 let yW:jc "Gain" aB 4 ["self","base","day","rows","check"] (pL av aB):={_,_,Y.at_ D5,⟨sD.2.1,dr,dz,sD.2.2⟩,pS T cJ d6,hi};let lh:rN "Gain" aB 4 ["self","base","day","rows","check"] [Value.none] (pL av aB):={_,_,Y.at_ D5,⟨sD.2.1,dr,dz,sD.2.2⟩,pS T cJ d6,vJ};let fR:=gN.d Y λF=>xq T yW F
 let wN:jc "Whole" av 4 ["self","day","rows","check"] (mP av aB):={_,_,Y.at_ Aa,⟨pT.2.1,dv,dq,pT.2.2⟩,oE T cJ d1,fp};let oN:rN "Whole" av 4 ["self","day","rows","check"] [Value.none] (mP av aB):={_,_,Y.at_ Aa,⟨pT.2.1,dv,dq,pT.2.2⟩,oE T cJ d1,uv};let fK:=el.d Y λF=>vM T wN F
 let ji:=du.d AI Y λF=>ql T g8 fR fK F
 let jT:=du.d B9 Y λF=>ql T g8 fR fK F
 let jW:=eM.d Y λF=>Ae T F
 let lX:=he.d Y λF=>Cf T F
 let lz:=ea.d Y λF=>Ck T F
 let ny:=ej.d Y λF=>Dg T F
 let oG:=eB.d Y λF=>FH T oN lI F
 let qj:=eb.d Y λF=>HQ T ko jt F
 let dc:=hd.d Y λF=>yb T F
 let gF:=ew.d Y λF=>D3 T dc F
 let ni:=eR.d Y λF=>Em T dc F
 let qC:=g4.d Y λF=>HX T F
 let oV:=ge.mk1 GD EH Y λF=>xD T F
 let gH:=e7.d Y λF=>DH T F
 let nk:=gw.d Y λF=>D7 T gH F
 let cW:=fD.d Y λF=>Aj T qp F
 let iR:=fy.d Y λF=>yq T F
 let gK:=es.d Y λF=>vH T F
 let gq:=ht.d Y λF=>uq T eN dX ny lX F
 let gn:=e3.d Y λF=>uC T iR cW eN dX lz jW F
 let iA:=ei.d Y λF=>A4 T cW gn F
 let qB:bJ "reached" 6 ["shelf","good"] (jy ay av aB):={_,_,Y.at_ dV,zO T iA da,df,hr};let mC:Hv P w K mg base "reached" 6 ["shelf","good"] [Value.bool Z2] (jy ay av aB):={_,_,Y.at_ dV,zO T iA da,df,Ez};let tD:=fv.d Y λF=>LH T F
 let oQ:=f8.d Y λF=>FN T tZ F
 let qh:=eS.d Y λF=>HK T cC oQ F
 let jl:=gt.d Y λF=>FF T F
 let mz:=g2.d Y λF=>Cj T F
 let nu:=fg.d Y λF=>Eb T F
 let jR:=hm.d Y λF=>AH T ni jl mz lB gF nu F
 let oK:=f5.d Y λF=>Fp T jR F
 let ky:jc "OneOfEach" bA 3 ["self","step","many"] (pC bA):={_,_,Y.at_ qQ,⟨i6.2.1,dW,e0,i6.2.2⟩,kT T fH db,hg};let jj:rN "OneOfEach" bA 3 ["self","step","many"] [Value.none] (pC bA):={_,_,Y.at_ qQ,⟨i6.2.1,dW,e0,i6.2.2⟩,kT T fH db,qf};let w5:=ey.mk1 GS Dw Y λF=>xx T fH F
 let rB:=e9.mk1 Gm Dd Y λF=>xj T F
 let jq:=en.d Y λF=>zy T gF fH jj w5 F
 let qm:=fr.d Y λF=>IE T rB jq F
 let wR:=e8.mk1 GB EN Y λF=>xA T zk oV F
 let jx:=f7.d Y λF=>zP T jU F
 let eG:=ee.d Y λF=>Ay T F
 let bh:=et.d Y λF=>vG T qt F
 let fF:=eA.d Y λF=>zW T bh qB F
 let iu:=gc.d Y λF=>xB T gq fF ko eG F
 let gM:=ga.d Y λF=>uG T eG oG qj iu F
 let qA:=eo.d Y λF=>Hs T nk F
 let fG:=hk.d Y λF=>AO T bh qA F
 let kW:=ev.d Y λF=>B4 T fG F
 let mD:=eQ.d Y λF=>BY T gM gK kW F
 let lF:=fo.d Y λF=>Cg T mV mC F
 let j5:=fw.d Y λF=>AQ T F
 let iO:=eP.d Y λF=>yz T bh F
 let eF:=g6.d Y λF=>AR T cW bh F
 let lO:=ez.d Y λF=>Cn T gH jT eF ji F
 let lQ:=eH.d Y λF=>Ce T bh F
 let iy:=g3.d Y λF=>xh T bh F
 let dw:bM ah "legs" 5 ["self","some"] (iH ah aE):={_,_,⟨e4,go,dL⟩,BW T qu iy dm,eq};let gC:=hh.d Y λF=>Jt T F
 let fN:=fi.d Y λF=>Ho T F
 let Mp:=hc.d Y λF=>Lw T jx F
 let KN:=ep.d Y λF=>Jg T mD F
 let Jx:=hf.d Y λF=>HE T lF F
 let IT:=g1.d Y λF=>Fl T fG F
 let JL:=fc.d Y λF=>HR T lO F
 let JN:=ha.d Y λF=>HF T gC lQ F
 let IQ:=fA.d Y λF=>Fv T gC j5 F
 let KL:=g5.d Y λF=>Ik T gC iO F
 let Li:=hb.d Y λF=>Ic T eF qC F
 let IX:=fm.d Y λF=>Fg T fF F
 let Jc:=fe.d Y λF=>EV T fN tD dw F
 let IW:=hp.d Y λF=>FU T fN dw sX F
 let LZ:=eI.d Y λF=>Ko T fN dw sW F
 let JK:=e5.d Y λF=>Il T qh F
 let p8:=eu.mk1 JQ F9 Y λF=>yC T iw wR qm F
 let lg:∀z,KnR z->∃n ps,(z,n)∈cK/\bJ n 11 ps (bK ah aD ay av aB aK aP aQ aU aE aN aW z):=ae0 Mp KN Jx IT JL JN IQ KL Li IX Jc IW LZ JK;let eY:=gs.d Y λF=>Fj T oK mh lg F
 let dN:=ff.d Y λF=>Dp T F
 let eX:=eh.d Y λF=>EF T eY F
 let gE:=dR.d Y λF=>DI T eY p8 F
 let jr:=dy.d Y λF=>zF T F
 let gO:=dt.d Y λF=>vo T F
 let jS:=dx.d Y λF=>AF T eX F
 exact aaw T eY p8 eX dN jr gO jS gE F
def all(c:Gc):Go c:=Classical.byContradiction λn=>Classical.epsilon_spec (p:=λc=>¬Go c) ⟨c,n⟩ Vn
def all_mk{l:OpenLaw}{w:wo}{K:Frag}{h:Heap}{mg:Z6->o9 nF}{y:nt}(X:K.In h)(G:h.Ns mainGlobals mg)(x:mg "law" = some (.ref y)){t_W:Tok}{cY:Tok}{cM:Tok}{cL:Tok}{dP:Tok}{fO:Tok}{cG:Tok}{cX:nt}{bE:nt}{aK:nt}{aP:nt}{aU:nt}{aQ:nt}{aN:nt}{bD:nt}{aW:nt}{aE:nt}{aD:nt}{cR:nt}{av:nt}{aB:nt}{ay:nt}{bA:nt}{dh:nt}{cZ:nt}{ah:nt}{bR:nt}{cV:nt}{eE:nt}{gB:nt}{b:nt}{m i:o9 nt}{n:q8 (o9 nF)}{o g j f a c:nF}(u:GA K "law" b)(t:K.lookup b=some {o,m,.func (fnOf "law" "law" (er nh) (c7 nh) (az nh) .none g j f i a c),n})(p:codeIn K a "law" = Z1)(r:keepIn K (.ref b)=Z1)(z:Hy w K mg t_W cY cM cL dP fO cG cX bE aK aP aU aQ aN bD aW aE aD cR av aB ay bA dh cZ ah bR cV eE gB)
  :∃fd:qd,(∀(s:qb)(v:nF),BindsTo s fd {[v],[]} [("_law_script",v)])/\∀base:Heap,K.In base->base.Ns mainGlobals mg->aM l.prog w K mg base (CXx l.prog w) 15 y fd ["_law_script"] (sE K):=by
 let e:=x.symm.trans<|amf X G u;cases e;let q:=Za (st:=nh) t p r;refine{fnOf "law" "law" (er nh) (c7 nh) (az nh) .none g j f i a c,λs v=>.of_eq J,λbase _ _=>all ⟨l.prog,w,K,mg,base,t_W,cY,cM,cL,dP,fO,cG,cX,bE,aK,aP,aU,aQ,aN,bD,aW,aE,aD,cR,av,aB,ay,bA,dh,cZ,ah,bR,cV,eE,gB⟩ z q}
def walk{l:OpenLaw}{q:q9}{b:mu Z6}{p:(Z6->o9 nF)->Heap->Z3}{g:wo->Heap->Z3}{d:DefRec}{K:Params->Frag}(o:l.most=some 63)(c:d.params.defaults=[])(m:∀(w:wo)(h:Heap),g w h->(K w.params).In h)(F:∀(w:wo)(mg:Z6->o9 nF)(i:nt)(h:Heap),(K w.params).In h->h.Ns mainGlobals mg->mg d.name=some (.ref i) →
   ∃fd:qd,(∀(s:qb)(u:nF),BindsTo s fd {[u],[]} [("_law_script",u)])/\∀base:Heap,(K w.params).In base->base.Ns mainGlobals mg->aM l.prog w (K w.params) mg base (CXx l.prog w) 15 i fd ["_law_script"] (sE (K w.params))) :
  WalkO q b p g l.row.toRowW d [] (λf vs=>PySem.call f vs):=
 L2.UW (n:=63) (k:=15) (x:="_law_script") (CX:=λw=>CXx l.prog w) (sp:=λw=>sE<|K w.params) o o6 c ⟨J,o6,o6⟩ m F (λ_ _ a ns j _ r=>{a,ns,J,r,j,λ_=>rfl}) λ_ _ _ _ _ z=>L2.Xp z
end Mine
open PySem PySem.W PyProof.Rows
noncomputable def PySem.W.Fast.tw10728558332405611763:PySem.Program:=PySem.Challenge.pw_keepsakes_k87_what_the_desk_refuses
def PySem.W.Fast.te10728558332405611763:PySem.Challenge.pw_keepsakes_k87_what_the_desk_refuses=PySem.W.Fast.tw10728558332405611763:=rfl
namespace Hd
noncomputable section
open PySem
structure Sc where
 (a b c d e f g h i j k l m n o p q r s t u v w x y:Str)
abbrev h0:Sc:=Sc.mk "<module>" "/claim/cut.py" "__main__" "__name__" "keepsakes.errors" "__doc__" "__package__" "__loader__" "__spec__" "__annotations__" "__builtins__" "__file__" "__cached__" "_wall" "W" "MOST_BLOCKS" "MOST_FIGURES" "MOST_PLANNED" "MOST_RATE" "KeepError" "k" "__module__" "__qualname__" "__firstlineno__" "__static_attributes__"
abbrev h1:Sc:=Sc.mk "__weakref__" "NoWord" "__init__" "self" "word" "NoWord.__init__" "NoTable" "wide" "NoTable.__init__" "NoPlace" "place" "NoPlace.__init__" "NoBlock" "block" "NoBlock.__init__" "NoDay" "day" "NoDay.__init__" "NoBase" "base" "NoBase.__init__" "NoPiece" "number" "NoPiece.__init__" "NoWay"
abbrev h2:Sc:=Sc.mk "at" "NoWay.__init__" "BadPiece" "BadPiece.__init__" "NoItem" "NoRule" "found" "NoRule.__init__" "NoMerge" "NoMerge.__init__" "Lost" "cuts" "Lost.__init__" "NoPlan" "many" "NoPlan.__init__" "NoShelf" "shelf" "NoShelf.__init__" "keepsakes.days" "NoRow" "line" "NoRow.__init__" "Days" "passes"
abbrev h3:Sc:=Sc.mk "table" "written" "ask_change" "ask_day" "Days.__init__" "Days.passes" "Days.table" "one" "other" "places" "Days.written" "Days.ask_change" "Days.ask_day" "last" "set_places" "tables" "__dict__" "keepsakes.heaps" "ask_wide" "Heap" "add" "least" "take" "size" "lying"
abbrev h4:Sc:=Sc.mk "lift" "sink" "lesser_below" "swap" "Heap.__init__" "item" "Heap.add" "Heap.least" "Heap.take" "Heap.size" "Heap.lying" "low" "Heap.lift" "high" "Heap.sink" "Heap.lesser_below" "Heap.swap" "row" "keepsakes.pieces" "rate" "legs_of" "prices" "last_legs" "way_of" "legs_by_start"
abbrev h5:Sc:=Sc.mk "price_at" "price_over" "turned" "check_of" "seek" "each" "cost" "keepsakes.least" "legs" "piece" "starting" "priced" "heap" "leg" "start" "price" "keepsakes.checks" "rows" "numbers" "check" "Piece" "is_good" "harmed" "Piece.__init__" "Piece.size"
abbrev h6:Sc:=Sc.mk "Piece.is_good" "bits" "Piece.harmed" "fits" "Whole" "kind" "laid" "with_rows" "Whole.__init__" "Whole.start" "Whole.kind" "Whole.laid" "Whole.with_rows" "Gain" "Gain.__init__" "Gain.start" "Gain.kind" "blocks" "Gain.laid" "Gain.with_rows" "keepsakes.shelves" "whole_of" "gain_of" "FIGURES" "0123456789"
abbrev h7:Sc:=Sc.mk "writes_number" "number_of" "change_of" "text_of" "CHECK_FIGURES" "line_of" "days" "keepsakes.words" "parts" "keepsakes.lines" "Shelf" "put" "lay" "drop" "following" "copied" "last_whole" "Shelf.__init__" "Shelf.put" "Shelf.lay" "Shelf.piece" "Shelf.drop" "Shelf.numbers" "Shelf.following" "Shelf.copied"
abbrev h8:Sc:=Sc.mk "Shelf.last_whole" "follows" "pieces" "keepsakes.tasks" "fetched" "reached" "last_pieces" "numbers_by_start" "cut_at" "answer" "joined" "healed" "has_good" "rescued" "way" "keepsakes.ways" "good" "met" "further" "keepsakes.mending" "shelves" "together" "mended" "replaced" "told"
abbrev h9:Sc:=Sc.mk "Task" "ask_many" "allowed" "bases_behind" "bases_of" "cost_of" "costs_of" "Task.__init__" "rates" "sizes" "weights" "choices" "bases" "task" "ways" "keepsakes.rows" "leg_cost" "day_cost" "bound_of" "best_plan" "task_of" "sizes_of" "held" "bound" "keepsakes.plans"
abbrev h10:Sc:=Sc.mk "FORMS" "KEPT" "read_row" "told_behind" "ask_form" "is_as_many" "is_within" "seal" "tidy" "carry" "harm" "heal" "marks" "lies" "reach" "fetch" "plan" "whole" "since" "words" "form" "keepsakes.rules" "Rule" "picks" "Rule.picks"
abbrev h11:Sc:=Sc.mk "LastFew" "LastFew.__init__" "LastFew.picks" "OneOfEach" "step" "OneOfEach.__init__" "firsts" "OneOfEach.picks" "Apart" "gap" "Apart.__init__" "picked" "Apart.picks" "Sealed" "Sealed.__init__" "Sealed.picks" "sealed_days" "keepsakes.merging" "AnyOf" "last_of" "rule_of" "rule_of_part" "merged" "rules" "AnyOf.__init__"
abbrev h12:Sc:=Sc.mk "AnyOf.picks" "keepsakes.ruletexts" "keepsakes.stores" "folded" "ready_days" "is_one_good" "fold_at" "needed" "tidied" "wanted" "left" "folds" "keepsakes.tidy" "rule" "staying" "thrown" "Store" "today" "keep" "deeds" "ask_shelf" "cost_of_pieces" "new_piece" "base_for" "note"
abbrev h13:Sc:=Sc.mk "fold" "Store.__init__" "changes" "Store.passes" "Store.today" "Store.keep" "Store.seal" "new" "Store.tidy" "mark" "next_ones" "deed" "Store.carry" "Store.deeds" "Store.marks" "Store.numbers" "Store.piece" "harmed_piece" "Store.harm" "Store.heal" "Store.reach" "some" "Store.legs" "Store.fetch" "Store.ask_shelf"
abbrev h14:Sc:=Sc.mk "Store.cost_of_pieces" "Store.new_piece" "Store.base_for" "Store.note" "Store.fold" "Store.together" "done" "noted" "seals" "keepsakes.desk" "do_deed" "listed" "some_of" "on_day" "on_keep" "on_seal" "on_tidy" "on_carry" "on_harm" "on_heal" "on_marks" "on_lies" "on_line" "store" "on_reach"
abbrev h15:Sc:=Sc.mk "on_fetch" "on_price" "on_way" "on_plan" "ANSWERS" "law_keepsakes_k87_what_the_desk_refuses" "Desk" "_law_cell" "_law_told" "_law_made" "_law_of_days" "say" "Desk.__init__" "Desk.say" "_law_script" "_law_k" "_law_desk" "_law_row" "_law_found" "e" "_law_wide" "_law_rules" "_law_many" "_law_cell_here" "_law_far"
abbrev h16:Sc:=Sc.mk "_law_great" "_law_lone" "_law_eight" "_law_of_shelves" "_law_behind" "law" "_law_other" "_law_none" "_law_piece" "_law_rows" "_law_due" "_law_first" "" "" "" "" "" "" "" "" "" "" "" "" ""
abbrev h17:=((((("tuple","code"),"frame"),(("dict","__main__.__loader__#opaque"),"function")),((("ValueError","builtin_function_or_method"),"type.__prepare__"),("type","Exception"))),(((("BaseException","object"),"ValueError.__new__"),("getset_descriptor","ExceptionGroup.__weakref__")),((("super","object.__init_subclass__"),"object.__new__"),("function.__dict__","function.__dict__#set"))))
abbrev X:Type:=(((((Sc×Sc)×Sc)×(Sc×Sc))×(((Sc×Sc)×Sc)×(Sc×Sc)))×((((Sc×Sc)×Sc)×(Sc×Sc))×((Sc×Sc)×((((((String×String)×String)×((String×String)×String))×(((String×String)×String)×(String×String)))×((((String×String)×String)×(String×String))×(((String×String)×String)×(String×String))))×Program))))×Params
noncomputable abbrev hs:=(((((h0,h1),h2),(h3,h4)),(((h5,h6),h7),(h8,h9))),((((h10,h11),h12),(h13,h14)),((h15,h16),(h17,PySem.Challenge.pw_keepsakes_k87_what_the_desk_refuses))))
lay_quick h0 h1 h2 h3 h4 h5 h6 h7 h8 h9 h10 h11 h12 h13 h14 h15 h16 h17 PySem.Challenge.pw_keepsakes_k87_what_the_desk_refuses
lay_quick hs
abbrev X.l0(x:X):=x.1.2.2.2.1.1.1.1.1.1
abbrev X.l1(x:X):=x.1.2.2.2.1.1.1.1.1.2
abbrev X.l2(x:X):=x.1.2.2.2.1.1.1.1.2
abbrev X.l3(x:X):=x.1.2.2.2.1.1.1.2.1.1
abbrev X.l4(x:X):=x.1.2.2.2.1.1.1.2.1.2
abbrev X.l5(x:X):=x.1.2.2.2.1.1.1.2.2
abbrev X.l6(x:X):=x.1.2.2.2.1.1.2.1.1.1
abbrev X.l7(x:X):=x.1.2.2.2.1.1.2.1.1.2
abbrev X.l8(x:X):=x.1.2.2.2.1.1.2.1.2
abbrev X.l9(x:X):=x.1.2.2.2.1.1.2.2.1
abbrev X.l10(x:X):=x.1.2.2.2.1.1.2.2.2
abbrev X.l11(x:X):=x.1.2.2.2.1.2.1.1.1.1
abbrev X.l12(x:X):=x.1.2.2.2.1.2.1.1.1.2
abbrev X.l13(x:X):=x.1.2.2.2.1.2.1.1.2
abbrev X.l14(x:X):=x.1.2.2.2.1.2.1.2.1
abbrev X.l15(x:X):=x.1.2.2.2.1.2.1.2.2
abbrev X.l16(x:X):=x.1.2.2.2.1.2.2.1.1.1
abbrev X.l17(x:X):=x.1.2.2.2.1.2.2.1.1.2
abbrev X.l18(x:X):=x.1.2.2.2.1.2.2.1.2
abbrev X.l19(x:X):=x.1.2.2.2.1.2.2.2.1
abbrev X.l20(x:X):=x.1.2.2.2.1.2.2.2.2
abbrev X.a(x:X):=x.1.1.1.1.1.1
abbrev X.b(x:X):=x.1.1.1.1.1.2
abbrev X.c(x:X):=x.1.1.1.1.2
abbrev X.d(x:X):=x.1.1.1.2.1
abbrev X.e(x:X):=x.1.1.1.2.2
abbrev X.f(x:X):=x.1.1.2.1.1.1
abbrev X.g(x:X):=x.1.1.2.1.1.2
abbrev X.h(x:X):=x.1.1.2.1.2
abbrev X.i(x:X):=x.1.1.2.2.1
abbrev X.j(x:X):=x.1.1.2.2.2
abbrev X.k(x:X):=x.1.2.1.1.1.1
abbrev X.l(x:X):=x.1.2.1.1.1.2
abbrev X.m(x:X):=x.1.2.1.1.2
abbrev X.n(x:X):=x.1.2.1.2.1
abbrev X.o(x:X):=x.1.2.1.2.2
abbrev X.p(x:X):=x.1.2.2.1.1
abbrev X.q(x:X):=x.1.2.2.1.2
abbrev b0(x:X):=PySem.W.boot_o_0 x.2
abbrev b1(x:X):=PySem.W.boot_o_1 x.2
abbrev b2(x:X):=PySem.W.boot_o_2 x.2
abbrev b3(x:X):=PySem.W.boot_o_3 x.2
abbrev b4(x:X):=PySem.W.boot_o_4 x.2
abbrev b5(x:X):=PySem.W.boot_o_5 x.2
abbrev b6(x:X):=PySem.W.boot_o_6 x.2
abbrev b7(x:X):=PySem.W.boot_o_7 x.2
abbrev b8(x:X):=PySem.W.boot_o_8 x.2
abbrev b9(x:X):=PySem.W.boot_o_9 x.2
abbrev b10(x:X):=PySem.W.boot_o_10 x.2
abbrev pg(x:X):Program:=x.1.2.2.2.2
def nth:List Stmt->Nat->Stmt:=λl=>@List.rec Stmt (λ_=>Nat->Stmt) (λ_=>.Pass ⟨0,0,0,0⟩) (λa _ ih n=>@Nat.rec (λ_=>Stmt) a (λm _=>ih m) n) l
abbrev st(x:X)(k:Nat):Stmt:=nth (pg x).main.body k
def cb:Stmt->List Stmt|.ClassDef _ _ _ y _ _ _ _ _ _ _=>y|_=>[]
abbrev sm(x:X)(k m:Nat):Stmt:=nth (cb (st x k)) m
def f0:Stmt->Str|.FunctionDef y _ _ _ _ _ _ _ _ _=>y|_=>default
def f1:Stmt->Arguments|.FunctionDef _ y _ _ _ _ _ _ _ _=>y|_=>default
def f2:Stmt->List Stmt|.FunctionDef _ _ y _ _ _ _ _ _ _=>y|_=>[]
def f6:Stmt->Scope|.FunctionDef _ _ _ _ _ _ y _ _ _=>y|_=>default
noncomputable abbrev u0:=@Obj.mk
abbrev u1:=@Value.type
abbrev u2:=@Option.none.{0} (@Nat)
abbrev u3:=@Data.seq
abbrev u4:=@List.toArray.{0} Value
abbrev u5:=@List.nil.{0} Value
abbrev u6:=@List.toArray.{0} (Option Value)
abbrev u7:=@List.nil.{0} (Option Value)
abbrev u8:=@Value.none
abbrev u9:=@Data.fields
abbrev u10:=@List.cons.{0} Value
noncomputable abbrev u11:=@Value.str
noncomputable abbrev u12:=@Value.int
noncomputable abbrev u13:=@Value.ref
abbrev u14:=@Value.bool
abbrev u15:=@Bool.false
abbrev u16:=@Data.plain
abbrev u17:=@List.cons.{0} (Option Value)
noncomputable abbrev u18:=@Option.some.{0} Value
abbrev u19:=@Option.none.{0} Value
abbrev u20:=@Data.dict
abbrev u21:=@List.toArray.{0} DictEntry
abbrev u22:=@List.cons.{0} DictEntry
abbrev u23:=@DictEntry.mk
abbrev u24:=@PyData.keyHash
abbrev u25:=@Value.builtin
abbrev u26:=@List.nil.{0} DictEntry
abbrev u27:=@Data.func
abbrev u28:=@FuncData.mk
abbrev u29:=@FuncBody.stmts
abbrev u30:=@List.nil.{0} (@Prod.{0,0} (@Str) (@Nat))
abbrev u31:=@Bool.true
abbrev u32:=@Data.cls
abbrev u33:=@ClassData.mk
abbrev u34:=@List.nil.{0} (@Str)
abbrev u35:=@Option.none.{0} (@Bool)
abbrev u36:=@List.cons.{0} (@Prod.{0,0} (@Nat) (@Obj))
abbrev u37:=@Prod.mk.{0,0} (@Nat) (@Obj)
abbrev u38:=@List.nil.{0} (@Prod.{0,0} (@Nat) (@Obj))
abbrev u39:=@Heap.mk
abbrev u40:=@Array.mk.{0} (@Obj)
abbrev u41:=@List.cons.{0} (@Obj)
abbrev u42:=@List.nil.{0} (@Obj)
abbrev u43:=@Life.mk
abbrev u44:=@List.nil.{0} (@Nat)
abbrev u45:=@List.nil.{0} (@Prod.{0,0} (@Nat) (@Nat))
abbrev u46:=@List.toArray.{0} (@Nat)
abbrev u47:=@List.cons.{0} (@Int)
abbrev u48:=@List.nil.{0} (@Int)
abbrev u49:=@PySem.W.BT.node
abbrev u50:=@PySem.W.BT.nil
noncomputable abbrev M(c:Value)(d:Data):Obj:=Obj.mk c none d #[]
noncomputable abbrev E(x:X)(s:Str)(n:Nat)(v:Value):DictEntry:=⟨PyData.keyHash x.2 s,.str s n,v⟩
abbrev N(o:X->Obj)(l r:X->PySem.W.BT):X->PySem.W.BT:=λx=>.node (o x) (l x) (r x)
abbrev Z:X->PySem.W.BT:=λ_=>.nil
abbrev Q(o:X->Obj)(l:X->List Obj):X->List Obj:=λx=>o x::l x
abbrev R:X->List Obj:=λ_=>[]
abbrev J(k:Nat)(o:X->Obj)(l:X->List (Nat×Obj)):X->List (Nat×Obj):=λx=>(k,o x)::l x
abbrev I:X->List (Nat×Obj):=λ_=>[]
def inz:PySem.W.BT->Nat->Obj->PySem.W.BT
 |.nil,_,o=>.node o .nil .nil
 |.node v l r,i,o=>if i=0 then .node o l r else if i % 2=1 then .node v (inz l (i / 2) o) r else .node v l (inz r (i / 2-1) o)
def gi:List (X->Obj)->Nat->X->PySem.W.BT->PySem.W.BT
 |[],_,_,t=>t
 |o::l,k,x,t=>gi l (k+1) x (inz t k (o x))
def G(t:X->PySem.W.BT)(k:Nat)(l:List (X->Obj)):X->PySem.W.BT:=λx=>gi l k x (t x)
def ap{α:Type}:List α->List α->List α
 |[],l=>l
 |a::k,l=>a::ap k l
def sz{α:Type}:List α->Nat->α->List α
 |[],_,_=>[]
 |_::l,0,b=>b::l
 |a::l,i+1,b=>a::sz l i b
def mp(x:X):List (X->Obj)->List Obj
 |[]=>[]
 |o::l=>o x::mp x l
def il{α:Type}:List α->List α->List α
 |[],l=>l
 |a::k,[]=>a::k
 |a::k,b::m=>a::b::il k m
def fl:PySem.W.BT->List Obj
 |.nil=>[]
 |.node o l r=>o::il (fl l) (fl r)
def pj:List Obj->Nat->List Nat->List (Nat×Obj)
 |o::l,k,a::m=>if k=a then(a,o)::pj l (k+1) m else pj l (k+1) (a::m)
 |_,_,_=>[]
structure Nf{α:Type}(e:α) where
 v:α
 h:v=e
noncomputable abbrev nf{α:Type}(e:α)(t:Nf e:=by refine' ⟨_,?_⟩;rotate_left;dsimp[G,gi,inz,ap,sz,mp,il,fl,pj];rfl):α:=t.v
def k0(x:X):Obj:=M (u1 x.l0) (u3 (u4 u5) 0)
def k1(x:X)(a0:Str)(a1 a2 a3:Nat)(a4:Int)(a5 a6:Nat)(a7:Int)(a8:Nat):Obj:=M (u1 x.l1) (u9 (u4 [u11 a0 a1,u11 a0 a2,u11 x.a.b a3,u12 a4 0,u12 0 0,u12 0 0,u12 0 0,u12 0 0,u13 a5,u14 u15,u12 181 0,u13 a6,u8,u8,u8,u8,u12 a7 0,u12 a4 0,u11 x.a.b a8]))
def k2(x:X)(a0 a1:Nat)(a2:Str)(a3:Nat):Obj:=u0 (u1 x.l2) u2 u16 (u6 [u18 (u13 a0),u18 (u13 3),u18 (u13 a1),u19,u18 (u11 a2 a3),u19,u18 (u13 0)])
def k3(x:X)(a0 a1:Int)(a2:Nat)(a3:Int)(a4:Nat):Obj:=M u8 (u9 (u4 [u12 a0 0,u12 a1 0,u13 a2,u12 a3 0,u12 a1 0,u13 a4]))
def k4(x:X)(a0:Str)(a1:Nat):Obj:=M (u1 x.l0) (u3 (u4 [u11 a0 a1]) 0)
def k5(x:X)(a0:Str)(a1 a2:Stmt):Obj:=M u8 (u27 (u28 a0 a0 (f1 a1) (u29 (f2 a1)) (f6 a2) 0 u30 u8 u8 u8 u8 u2 u8 u8 0))
def k6(x:X)(a0:Str)(a1:Nat)(a2:Str)(a3 a4:Nat)(a5 a6:Int)(a7 a8 a9 a10 a11:Nat)(a12:Int)(a13:Nat):Obj:=M (u1 x.l1) (u9 (u4 [u11 a0 a1,u11 a2 a3,u11 x.a.b a4,u12 a5 0,u12 a6 0,u12 0 0,u12 0 0,u12 3 0,u13 a7,u14 u31,u12 181 0,u13 a8,u8,u13 a9,u13 a10,u13 a11,u12 a12 0,u12 a5 0,u11 x.a.b a13]))
def k7(x:X)(a0:Str)(a1 a2:Stmt)(a3:Str)(a4 a5:Nat):Obj:=M (u1 x.l5) (u27 (u28 a0 a0 (f1 a1) (u29 (f2 a1)) (f6 a2) 3 u30 u8 u8 u8 (u11 a3 a4) u2 (u13 a5) u8 0))
def k8(x:X):Obj:=M (u1 x.l7) (u9 (u4 [u25 x.l8,u1 x.l9]))
def k9(x:X)(a0 a1:Nat)(a2:Int)(a3:Nat)(a4:Str)(a5 a6:Nat)(a7:Str)(a8 a9 a10 a11:Nat):Obj:=M (u1 x.l3) (u20 (u21 [E x x.a.v a0 (u11 x.a.e 204),E x x.a.x a1 (u12 a2 a3),E x a4 a5 (u13 a6),E x a7 a8 (u13 a9),E x x.a.f a10 u8]) a11)
def k10(x:X)(a0 a1:Nat):Obj:=M (u1 x.l14) (u9 (u4 [u11 x.b.a a0,u13 a1,u25 x.l15,u8]))
def k11(x:X)(a0:Nat):Obj:=M (u1 x.l16) (u9 (u4 [u13 a0,u13 a0,u13 a0]))
def k12(x:X)(a0:Nat):Obj:=M (u1 x.l7) (u9 (u4 [u25 x.l17,u13 a0]))
def k13(x:X)(a0:Nat):Obj:=M (u1 x.l0) (u3 (u4 [u13 a0]) 0)
def k14(x:X)(a0:Nat)(a1:Str)(a2 a3:Nat)(a4:Str)(a5 a6:Nat)(a7:Int)(a8:Nat)(a9:Str)(a10 a11 a12 a13:Nat):Obj:=M (u1 x.l3) (u20 (u21 [E x x.a.v a0 (u11 a1 a2),E x x.a.w a3 (u11 a4 a5),E x x.a.x a6 (u12 a7 a8),E x a9 a10 (u13 a11),E x x.a.y a12 (u13 a13)]) 5)
def k15(x:X)(a0:Int)(a1:Nat):Obj:=M u8 (u9 (u4 [u12 a0 0,u12 4 0,u13 a1]))
def k16(x:X)(a0:Str)(a1:Nat)(a2:Str)(a3:Nat):Obj:=M (u1 x.l0) (u3 (u4 [u11 a0 a1,u11 a2 a3]) 0)
def k17(x:X)(a0 a1:Str)(a2 a3:Stmt):Obj:=M u8 (u27 (u28 a0 a1 (f1 a2) (u29 (f2 a2)) (f6 a3) 0 u30 u8 u8 u8 u8 u2 u8 u8 0))
def k18(x:X)(a0 a1:Str)(a2 a3:Stmt)(a4:Str)(a5 a6:Nat):Obj:=M (u1 x.l5) (u27 (u28 a0 a1 (f1 a2) (u29 (f2 a2)) (f6 a3) 3 u30 u8 u8 u8 (u11 a4 a5) u2 (u13 a6) u8 0))
def k19(x:X)(a0:Str)(a1 a2 a3 a4 a5:Nat):Obj:=u0 (u1 x.l9) u2 (u32 (u33 a0 [u13 31] [u13 a1,u13 31,u1 x.l6,u1 x.l10,u1 x.l11,u1 x.l12] a2 a0 u31 u34 u5 u15 u35 u15)) (u6 [u18 (u13 a3),u19,u18 (u11 a0 a4),u18 (u11 a0 a5),u18 (u25 x.l13),u18 (u14 u31)])
def k20(x:X)(a0 a1:Int)(a2:Nat)(a3:Int)(a4:Nat)(a5:Int)(a6:Nat)(a7:Int)(a8:Nat)(a9:Int)(a10:Nat):Obj:=M u8 (u9 (u4 [u12 a0 0,u12 a1 0,u13 a2,u12 a3 0,u12 a1 0,u13 a4,u12 a5 0,u12 a1 0,u13 a6,u12 a7 0,u12 a1 0,u13 a8,u12 a9 0,u12 a1 0,u13 a10]))
def k21(x:X)(a0:Str)(a1:Nat)(a2:Str)(a3:Nat)(a4:Str)(a5:Nat):Obj:=M (u1 x.l0) (u3 (u4 [u11 a0 a1,u11 a2 a3,u11 a4 a5]) 0)
def k22(x:X)(a0:Str)(a1:Nat)(a2:Str)(a3 a4:Nat)(a5 a6:Int)(a7 a8 a9:Nat)(a10:Int)(a11:Nat):Obj:=M (u1 x.l1) (u9 (u4 [u11 a0 a1,u11 a2 a3,u11 x.a.b a4,u12 a5 0,u12 a6 0,u12 0 0,u12 0 0,u12 3 0,u13 a7,u14 u31,u12 181 0,u13 a8,u8,u8,u8,u13 a9,u12 a10 0,u12 a5 0,u11 x.a.b a11]))
def k23(x:X)(a0:Str)(a1:Nat)(a2:Str)(a3:Nat)(a4:Str)(a5:Nat)(a6:Str)(a7:Nat)(a8:Str)(a9:Nat):Obj:=M (u1 x.l0) (u3 (u4 [u11 a0 a1,u11 a2 a3,u11 a4 a5,u11 a6 a7,u11 a8 a9]) 0)
def k24(x:X)(a0:Str)(a1:Nat)(a2:Str)(a3:Nat)(a4:Str)(a5:Nat)(a6:Str)(a7:Nat):Obj:=M (u1 x.l0) (u3 (u4 [u11 a0 a1,u11 a2 a3,u11 a4 a5,u11 a6 a7]) 0)
def k25(x:X)(a0:Str)(a1 a2 a3 a4:Nat):Obj:=u0 (u1 x.l9) u2 (u32 (u33 a0 [u1 x.l12] [u13 a1,u1 x.l12] a2 a0 u31 u34 u5 u15 u35 u15)) (u6 [u19,u19,u18 (u11 a0 a3),u18 (u11 a0 a4),u18 (u25 x.l18),u18 (u14 u31)])
def k26(x:X)(a0 a1:Nat):Obj:=M (u1 x.l14) (u9 (u4 [u11 x.d.q a0,u13 a1,u25 x.l19,u25 x.l20]))
def k27(x:X)(a0:Str)(a1:Nat)(a2:Str)(a3:Nat)(a4:Str)(a5:Nat)(a6:Str)(a7:Nat)(a8:Str)(a9:Nat)(a10:Str)(a11:Nat):Obj:=M (u1 x.l0) (u3 (u4 [u11 a0 a1,u11 a2 a3,u11 a4 a5,u11 a6 a7,u11 a8 a9,u11 a10 a11]) 0)
def k28(x:X)(a0:Stmt):Obj:=M u8 (u27 (u28 (f0 a0) (f0 a0) (f1 a0) (u29 (f2 a0)) (f6 a0) 0 u30 u8 u8 u8 u8 u2 u8 u8 0))
def k29(x:X)(a0:Stmt)(a1:Str)(a2 a3:Nat):Obj:=M (u1 x.l5) (u27 (u28 (f0 a0) (f0 a0) (f1 a0) (u29 (f2 a0)) (f6 a0) 3 u30 u8 u8 u8 (u11 a1 a2) u2 (u13 a3) u8 0))
def k30(x:X)(a0:Str)(a1:Nat)(a2:Str)(a3:Nat)(a4:Str)(a5:Nat)(a6:Str)(a7:Nat)(a8:Str)(a9:Nat)(a10:Str)(a11:Nat)(a12:Str)(a13:Nat)(a14:Str)(a15:Nat):Obj:=M (u1 x.l0) (u3 (u4 [u11 a0 a1,u11 a2 a3,u11 a4 a5,u11 a6 a7,u11 a8 a9,u11 a10 a11,u11 a12 a13,u11 a14 a15]) 0)
def k31(x:X):Obj:=M (u1 x.l0) (u3 (u4 [u8]) 0)
def k32(x:X)(a0 a1:Str)(a2:Stmt)(a3:Nat)(a4:Str)(a5 a6:Nat):Obj:=M (u1 x.l5) (u27 (u28 a0 a1 (f1 a2) (u29 (f2 a2)) (f6 a2) 3 u30 (u13 a3) u8 u8 (u11 a4 a5) u2 (u13 a6) u8 0))
def k33(x:X)(a0:Str)(a1 a2 a3 a4 a5 a6:Nat):Obj:=u0 (u1 x.l9) u2 (u32 (u33 a0 [u13 a1] [u13 a2,u13 a1,u1 x.l12] a3 a0 u31 u34 u5 u15 u35 u15)) (u6 [u18 (u13 a4),u19,u18 (u11 a0 a5),u18 (u11 a0 a6),u18 (u25 x.l18),u18 (u14 u31)])
def k34(x:X)(a0:Str)(a1:Nat)(a2:Str)(a3:Nat)(a4:Str)(a5:Nat)(a6:Str)(a7:Nat)(a8:Str)(a9:Nat)(a10:Str)(a11:Nat)(a12:Str)(a13:Nat):Obj:=M (u1 x.l0) (u3 (u4 [u11 a0 a1,u11 a2 a3,u11 a4 a5,u11 a6 a7,u11 a8 a9,u11 a10 a11,u11 a12 a13]) 0)
def k35(x:X)(a0:Int)(a1 a2:Nat):Obj:=M (u1 x.l0) (u3 (u4 [u12 a0 a1,u12 a0 a2]) 0)
def k36(x:X)(a0:Int)(a1:Nat):Obj:=M (u1 x.l0) (u3 (u4 [u12 a0 a1,u8]) 0)
def k37(x:X)(a0:Nat)(a1:Str)(a2 a3:Nat)(a4:Str)(a5 a6:Nat)(a7:Int)(a8 a9 a10:Nat)(a11:Str)(a12 a13 a14 a15:Nat):Obj:=M (u1 x.l3) (u20 (u21 [E x x.a.v a0 (u11 a1 a2),E x x.a.w a3 (u11 a4 a5),E x x.a.x a6 (u12 a7 a8),E x x.b.c a9 (u13 a10),E x a11 a12 (u13 a13),E x x.a.y a14 (u13 a15)]) 6)
def k38(x:X)(a0 a1:Nat)(a2:Int)(a3 a4 a5 a6 a7 a8 a9 a10:Nat):Obj:=M (u1 x.l3) (u20 (u21 [E x x.a.v a0 (u11 x.k.v 1574),E x x.a.x a1 (u12 a2 a3),E x x.b.c a4 (u13 a5),E x x.k.x a6 (u13 a7),E x x.a.y a8 (u13 a9),E x x.a.f a10 u8]) 2)
variable(x:X)
def o43:=k0 x
def o44(x:X):Obj:=M u8 (u9 (u4 u5))
def o45:=k1 x x.a.a 182 183 184 1 11 12 185 186
def o46:=k2 x 13 3 x.a.c 164
abbrev d0:List DictEntry:=[E x x.a.d 165 (u11 x.a.e 204),E x x.a.f 166 u8,E x x.a.g 167 u8,E x x.a.h 168 (u25 x.l4),E x x.a.i 169 u8,E x x.a.j 170 (u13 6),E x x.a.k 171 (u13 4),E x x.a.l 173 (u11 x.a.b 172),E x x.a.m 174 u8,E x x.a.n 193 (u13 21),E x x.a.o 195 (u12 18446744073709551615 194),E x x.a.p 197 (u12 40 196),E x x.a.q 199 (u12 20 198),E x x.a.r 201 (u12 7 200),E x x.a.s 203 (u12 1000000000000 202),E x x.a.t 223 (u13 31)]
def o49:=M (u1 x.l3) (u20 (u21 (d0 x)) 16)
def o50:=k3 x 1 0 20 10 27
def o53:=k4 x x.a.u 190
def o55:=k5 x x.a.n (st x 0) (st x 0)
def o56:=k6 x x.a.n 187 x.a.n 188 189 1 1 15 16 17 18 19 191 192
def o57:=k7 x x.a.n (st x 0) (st x 0) x.a.c 164 20
def o58:=M (u1 x.l0) (u3 (u4 [u1 x.l6]) 0)
def o59:=k8 x
def o60:=M (u1 x.l3) (u20 (u21 [E x x.a.v 213 (u11 x.a.e 204),E x x.a.w 215 (u11 x.a.t 214),E x x.a.x 217 (u12 10 216),E x x.a.y 218 (u13 29)]) 4)
def o63:=k1 x x.a.t 208 209 210 10 25 26 211 212
def o64:=k2 x 27 24 x.a.e 204
def o66:=k9 x 213 217 10 216 x.a.y 218 29 x.b.a 220 32 221 3
abbrev d2:List Value:=[u13 31,u1 x.l6,u1 x.l10,u1 x.l11,u1 x.l12]
abbrev d3:List (Option Value):=[u18 (u13 22),u19,u18 (u11 x.a.t 206),u18 (u11 x.a.t 214),u18 (u25 x.l13),u18 (u14 u31)]
def o67:=u0 (u1 x.l9) u2 (u32 (u33 x.a.t [u1 x.l6] (d2 x) 30 x.a.t u31 u34 u5 u15 u35 u15)) (u6 (d3 x))
def o68:=k10 x 219 31
def o69:=k11 x 31
def o70:=k12 x 31
abbrev d4:List DictEntry:=nf (ap (d0 x) [E x x.b.b 248 (u13 51)])
def o71:=M (u1 x.l3) (u20 (u21 (d4 x)) 17)
abbrev d5(x:X):List Value:=[u12 1 0,u12 0 0,u13 20,u12 10 0,u12 0 0,u13 27,u12 12 0,u12 0 0,u13 40]
def o72:=M u8 (u9 (u4 (d5 x)))
def o73:=u0 (u1 x.l9) u2 (u32 (u33 x.a.t [u1 x.l6] (d2 x) 30 x.a.t u31 u34 [u13 51] u15 u35 u15)) (u6 (d3 x))
def o74:=k13 x 31
def o76:=k14 x 231 x.a.e 204 233 x.b.b 232 235 12 234 x.b.c 243 48 245 49
def o78:=k15 x 14 47
def o79:=k1 x x.b.b 226 227 228 12 38 39 229 230
def o80:=k2 x 40 37 x.a.e 204
def o83:=k16 x x.b.d 239 x.b.e 240
def o85:=k17 x x.b.c x.b.f (sm x 8 0) (sm x 8 0)
def o86:=k6 x x.b.c 236 x.b.f 237 238 14 2 42 43 44 45 46 241 242
def o87:=k18 x x.b.c x.b.f (sm x 8 0) (sm x 8 0) x.a.e 204 47
def o88:=k4 x x.b.e 244
def o89:=k9 x 231 235 12 234 x.b.c 243 48 x.a.y 245 49 246 2
def o90:=k19 x x.b.b 51 50 35 224 232
def o91:=k11 x 51
def o92:=k12 x 51
abbrev d8:List DictEntry:=nf (ap (d4 x) [E x x.b.g 273 (u13 70)])
def o93:=M (u1 x.l3) (u20 (u21 (d8 x)) 18)
abbrev d9:List Value:=nf (ap (d5 x) [u12 16 0,u12 0 0,u13 59])
def o94:=M u8 (u9 (u4 (d9 x)))
def o95:=u0 (u1 x.l9) u2 (u32 (u33 x.a.t [u1 x.l6] (d2 x) 30 x.a.t u31 u34 [u13 51,u13 70] u15 u35 u15)) (u6 (d3 x))
def o98:=k14 x 256 x.a.e 204 258 x.b.g 257 260 16 259 x.b.c 268 67 270 68
def aeo:=k15 x 18 66
def afL:=k1 x x.b.g 251 252 253 16 57 58 254 255
def aez:=k2 x 59 56 x.a.e 204
def adL:=k16 x x.b.d 264 x.b.h 265
def abl:=k17 x x.b.c x.b.i (sm x 9 0) (sm x 9 0)
def acn:=k6 x x.b.c 261 x.b.i 262 263 18 2 61 62 63 64 65 266 267
def aec:=k18 x x.b.c x.b.i (sm x 9 0) (sm x 9 0) x.a.e 204 66
def adn:=k4 x x.b.h 269
def afE:=k9 x 256 260 16 259 x.b.c 268 67 x.a.y 270 68 271 2
def afz:=k19 x x.b.g 70 69 54 249 257
def VW:=k11 x 70
def abD:=k12 x 70
abbrev d12:List DictEntry:=nf (ap (d8 x) [E x x.b.j 298 (u13 89)])
def akX:=M (u1 x.l3) (u20 (u21 (d12 x)) 19)
def akM:=k20 x 1 0 20 10 27 12 40 16 59 20 78
def alE:=u0 (u1 x.l9) u2 (u32 (u33 x.a.t [u1 x.l6] (d2 x) 30 x.a.t u31 u34 [u13 51,u13 70,u13 89] u15 u35 u15)) (u6 (d3 x))
def agX:=k14 x 281 x.a.e 204 283 x.b.j 282 285 20 284 x.b.c 293 86 295 87
def aad:=k15 x 22 85
def afQ:=k1 x x.b.j 276 277 278 20 76 77 279 280
def acX:=k2 x 78 75 x.a.e 204
def abV:=k16 x x.b.d 289 x.b.k 290
def ae5:=k17 x x.b.c x.b.l (sm x 10 0) (sm x 10 0)
def ac0:=k6 x x.b.c 286 x.b.l 287 288 22 2 80 81 82 83 84 291 292
def Xl:=k18 x x.b.c x.b.l (sm x 10 0) (sm x 10 0) x.a.e 204 85
def Zd:=k4 x x.b.k 294
def WS:=k9 x 281 285 20 284 x.b.c 293 86 x.a.y 295 87 296 2
def aaF:=k19 x x.b.j 89 88 73 274 282
def Zm:=k11 x 89
def age:=k12 x 89
abbrev d15:List DictEntry:=nf (ap (d12 x) [E x x.b.m 323 (u13 108)])
def alv:=M (u1 x.l3) (u20 (u21 (d15 x)) 20)
abbrev d16:List Value:=nf (ap (d9 x) [u12 20 0,u12 0 0,u13 78,u12 24 0,u12 0 0,u13 97])
def alR:=M u8 (u9 (u4 (d16 x)))
abbrev d18(x:X):List Value:=[u13 51,u13 70,u13 89,u13 108]
def alm:=u0 (u1 x.l9) u2 (u32 (u33 x.a.t [u1 x.l6] (d2 x) 30 x.a.t u31 u34 (d18 x) u15 u35 u15)) (u6 (d3 x))
def abT:=k14 x 306 x.a.e 204 308 x.b.m 307 310 24 309 x.b.c 318 105 320 106
def aat:=k15 x 26 104
def af6:=k1 x x.b.m 301 302 303 24 95 96 304 305
def acm:=k2 x 97 94 x.a.e 204
def Xf:=k16 x x.b.d 314 x.b.n 315
def aaO:=k17 x x.b.c x.b.o (sm x 11 0) (sm x 11 0)
def af9:=k6 x x.b.c 311 x.b.o 312 313 26 2 99 100 101 102 103 316 317
def WR:=k18 x x.b.c x.b.o (sm x 11 0) (sm x 11 0) x.a.e 204 104
def aee:=k4 x x.b.n 319
def agE:=k9 x 306 310 24 309 x.b.c 318 105 x.a.y 320 106 321 2
def afb:=k19 x x.b.m 108 107 92 299 307
def aeq:=k11 x 108
def XA:=k12 x 108
abbrev d20:List DictEntry:=nf (ap (d15 x) [E x x.b.p 348 (u13 127)])
def ald:=M (u1 x.l3) (u20 (u21 (d20 x)) 21)
abbrev d21:List Value:=nf (ap (d16 x) [u12 28 0,u12 0 0,u13 116])
def alO:=M u8 (u9 (u4 (d21 x)))
abbrev d23:List Value:=nf (ap (d18 x) [u13 127])
def akz:=u0 (u1 x.l9) u2 (u32 (u33 x.a.t [u1 x.l6] (d2 x) 30 x.a.t u31 u34 (d23 x) u15 u35 u15)) (u6 (d3 x))
def aaz:=k14 x 331 x.a.e 204 333 x.b.p 332 335 28 334 x.b.c 343 124 345 125
def aaU:=k15 x 30 123
def ab5:=k1 x x.b.p 326 327 328 28 114 115 329 330
def aaG:=k2 x 116 113 x.a.e 204
def V9:=k16 x x.b.d 339 x.b.q 340
def aal:=k17 x x.b.c x.b.r (sm x 12 0) (sm x 12 0)
def Xq:=k6 x x.b.c 336 x.b.r 337 338 30 2 118 119 120 121 122 341 342
def WU:=k18 x x.b.c x.b.r (sm x 12 0) (sm x 12 0) x.a.e 204 123
def Zh:=k4 x x.b.q 344
def abJ:=k9 x 331 335 28 334 x.b.c 343 124 x.a.y 345 125 346 2
def ZE:=k19 x x.b.p 127 126 111 324 332
def ad6:=k11 x 127
def Wb:=k12 x 127
abbrev d25:List DictEntry:=nf (ap (d20 x) [E x x.b.s 375 (u13 146)])
def akt:=M (u1 x.l3) (u20 (u21 (d25 x)) 22)
abbrev d26:List Value:=nf (ap (d21 x) [u12 32 0,u12 0 0,u13 135])
def alj:=M u8 (u9 (u4 (d26 x)))
abbrev d28:List Value:=nf (ap (d23 x) [u13 146])
def alk:=u0 (u1 x.l9) u2 (u32 (u33 x.a.t [u1 x.l6] (d2 x) 30 x.a.t u31 u34 (d28 x) u15 u35 u15)) (u6 (d3 x))
def ads:=k14 x 356 x.a.e 204 358 x.b.s 357 360 32 359 x.b.c 369 143 372 144
def abn:=k15 x 34 142
def af0:=k1 x x.b.s 351 352 353 32 133 134 354 355
def abr:=k2 x 135 132 x.a.e 204
def ab0:=k21 x x.b.d 364 x.b.t 365 x.b.q 366
def ZJ:=k17 x x.b.c x.b.u (sm x 13 0) (sm x 13 0)
def XC:=k6 x x.b.c 361 x.b.u 362 363 34 3 137 138 139 140 141 367 368
def ad3:=k18 x x.b.c x.b.u (sm x 13 0) (sm x 13 0) x.a.e 204 142
def aem:=k16 x x.b.t 370 x.b.q 371
def ag7:=k9 x 356 360 32 359 x.b.c 369 143 x.a.y 372 144 373 2
def aas:=k19 x x.b.s 146 145 130 349 357
def We:=k11 x 146
def afq:=k12 x 146
abbrev d30:List DictEntry:=nf (ap (d25 x) [E x x.b.v 400 (u13 165)])
def aln:=M (u1 x.l3) (u20 (u21 (d30 x)) 23)
abbrev d31:List Value:=nf (ap (d26 x) [u12 37 0,u12 0 0,u13 154])
def alM:=M u8 (u9 (u4 (d31 x)))
abbrev d33:List Value:=nf (ap (d28 x) [u13 165])
def alr:=u0 (u1 x.l9) u2 (u32 (u33 x.a.t [u1 x.l6] (d2 x) 30 x.a.t u31 u34 (d33 x) u15 u35 u15)) (u6 (d3 x))
def afl:=k14 x 383 x.a.e 204 385 x.b.v 384 387 37 386 x.b.c 395 162 397 163
def Xd:=k15 x 39 161
def acv:=k1 x x.b.v 378 379 380 37 152 153 381 382
def agB:=k2 x 154 151 x.a.e 204
def Xs:=k16 x x.b.d 391 x.b.w 392
def WW:=k17 x x.b.c x.b.x (sm x 14 0) (sm x 14 0)
def aaI:=k6 x x.b.c 388 x.b.x 389 390 39 2 156 157 158 159 160 393 394
def VH:=k18 x x.b.c x.b.x (sm x 14 0) (sm x 14 0) x.a.e 204 161
def adA:=k4 x x.b.w 396
def YI:=k9 x 383 387 37 386 x.b.c 395 162 x.a.y 397 163 398 2
def aeF:=k19 x x.b.v 165 164 149 376 384
def abc:=k11 x 165
def Wo:=k12 x 165
abbrev d35:List DictEntry:=nf (ap (d30 x) [E x x.b.y 425 (u13 184)])
def alu:=M (u1 x.l3) (u20 (u21 (d35 x)) 24)
abbrev d36:List Value:=nf (ap (d31 x) [u12 41 0,u12 0 0,u13 173])
def akW:=M u8 (u9 (u4 (d36 x)))
abbrev d38:List Value:=nf (ap (d33 x) [u13 184])
def akJ:=u0 (u1 x.l9) u2 (u32 (u33 x.a.t [u1 x.l6] (d2 x) 30 x.a.t u31 u34 (d38 x) u15 u35 u15)) (u6 (d3 x))
def Yr:=k14 x 408 x.a.e 204 410 x.b.y 409 412 41 411 x.b.c 420 181 422 182
def ag9:=k15 x 43 180
def Y0:=k1 x x.b.y 403 404 405 41 171 172 406 407
def XU:=k2 x 173 170 x.a.e 204
def afM:=k16 x x.b.d 416 x.c.a 417
def Ze:=k17 x x.b.c x.c.b (sm x 15 0) (sm x 15 0)
def afs:=k6 x x.b.c 413 x.c.b 414 415 43 2 175 176 177 178 179 418 419
def acJ:=k18 x x.b.c x.c.b (sm x 15 0) (sm x 15 0) x.a.e 204 180
def YU:=k4 x x.c.a 421
def Wc:=k9 x 408 412 41 411 x.b.c 420 181 x.a.y 422 182 423 2
def aer:=k19 x x.b.y 184 183 168 401 409
def aaT:=k11 x 184
def afA:=k12 x 184
abbrev d40:List DictEntry:=nf (ap (d35 x) [E x x.c.c 450 (u13 203)])
def alX:=M (u1 x.l3) (u20 (u21 (d40 x)) 25)
abbrev d41:List Value:=nf (ap (d36 x) [u12 45 0,u12 0 0,u13 192])
def alY:=M u8 (u9 (u4 (d41 x)))
abbrev d43:List Value:=nf (ap (d38 x) [u13 203])
def alK:=u0 (u1 x.l9) u2 (u32 (u33 x.a.t [u1 x.l6] (d2 x) 30 x.a.t u31 u34 (d43 x) u15 u35 u15)) (u6 (d3 x))
def Yl:=k14 x 433 x.a.e 204 435 x.c.c 434 437 45 436 x.b.c 445 200 447 201
def Zl:=k15 x 47 199
def ZH:=k1 x x.c.c 428 429 430 45 190 191 431 432
def agA:=k2 x 192 189 x.a.e 204
def Yj:=k16 x x.b.d 441 x.b.q 442
def WX:=k17 x x.b.c x.c.d (sm x 16 0) (sm x 12 0)
def Wr:=k6 x x.b.c 438 x.c.d 439 440 47 2 194 195 196 197 198 443 444
def XO:=k18 x x.b.c x.c.d (sm x 16 0) (sm x 12 0) x.a.e 204 199
def VF:=k4 x x.b.q 446
def adg:=k9 x 433 437 45 436 x.b.c 445 200 x.a.y 447 201 448 2
def Wn:=k19 x x.c.c 203 202 187 426 434
def ac1:=k11 x 203
def VR:=k12 x 203
abbrev d45:List DictEntry:=nf (ap (d40 x) [E x x.c.e 466 (u13 215)])
def ale:=M (u1 x.l3) (u20 (u21 (d45 x)) 26)
abbrev d46:List Value:=nf (ap (d41 x) [u12 49 0,u12 0 0,u13 211])
def aky:=M u8 (u9 (u4 (d46 x)))
abbrev d48:List Value:=nf (ap (d43 x) [u13 215])
def ali:=u0 (u1 x.l9) u2 (u32 (u33 x.a.t [u1 x.l6] (d2 x) 30 x.a.t u31 u34 (d48 x) u15 u35 u15)) (u6 (d3 x))
def XZ:=M (u1 x.l3) (u20 (u21 [E x x.a.v 458 (u11 x.a.e 204),E x x.a.w 460 (u11 x.c.e 459),E x x.a.x 462 (u12 49 461),E x x.a.y 463 (u13 213)]) 4)
def Xw:=k1 x x.c.e 453 454 455 49 209 210 456 457
def Zf:=k2 x 211 208 x.a.e 204
def acw:=M (u1 x.l3) (u20 (u21 [E x x.a.v 458 (u11 x.a.e 204),E x x.a.x 462 (u12 49 461),E x x.a.y 463 (u13 213),E x x.a.f 464 u8]) 2)
def ZR:=k19 x x.c.e 215 214 206 451 459
def Ye:=k11 x 215
def Yp:=k12 x 215
abbrev d52:List DictEntry:=nf (ap (d45 x) [E x x.c.f 491 (u13 234)])
def akL:=M (u1 x.l3) (u20 (u21 (d52 x)) 27)
abbrev d53:List Value:=nf (ap (d46 x) [u12 51 0,u12 0 0,u13 223])
def akI:=M u8 (u9 (u4 (d53 x)))
abbrev d55:List Value:=nf (ap (d48 x) [u13 234])
def ak6:=u0 (u1 x.l9) u2 (u32 (u33 x.a.t [u1 x.l6] (d2 x) 30 x.a.t u31 u34 (d55 x) u15 u35 u15)) (u6 (d3 x))
def aba:=k14 x 474 x.a.e 204 476 x.c.f 475 478 51 477 x.b.c 486 231 488 232
def Zi:=k15 x 53 230
def Xe:=k1 x x.c.f 469 470 471 51 221 222 472 473
def ZT:=k2 x 223 220 x.a.e 204
def Xz:=k16 x x.b.d 482 x.c.g 483
def aar:=k17 x x.b.c x.c.h (sm x 18 0) (sm x 18 0)
def Xc:=k6 x x.b.c 479 x.c.h 480 481 53 2 225 226 227 228 229 484 485
def Xo:=k18 x x.b.c x.c.h (sm x 18 0) (sm x 18 0) x.a.e 204 230
def aaD:=k4 x x.c.g 487
def afZ:=k9 x 474 478 51 477 x.b.c 486 231 x.a.y 488 232 489 2
def Y8:=k19 x x.c.f 234 233 218 467 475
def Zr:=k11 x 234
def abj:=k12 x 234
abbrev d57:List DictEntry:=nf (ap (d52 x) [E x x.c.i 518 (u13 253)])
def alQ:=M (u1 x.l3) (u20 (u21 (d57 x)) 28)
abbrev d58:List Value:=nf (ap (d53 x) [u12 55 0,u12 0 0,u13 242])
def alf:=M u8 (u9 (u4 (d58 x)))
abbrev d60:List Value:=nf (ap (d55 x) [u13 253])
def alS:=u0 (u1 x.l9) u2 (u32 (u33 x.a.t [u1 x.l6] (d2 x) 30 x.a.t u31 u34 (d60 x) u15 u35 u15)) (u6 (d3 x))
def Zg:=k14 x 499 x.a.e 204 501 x.c.i 500 503 55 502 x.b.c 512 250 515 251
def agy:=k15 x 57 249
def afe:=k1 x x.c.i 494 495 496 55 240 241 497 498
def Wg:=k2 x 242 239 x.a.e 204
def ag8:=k21 x x.b.d 507 x.b.q 508 x.b.t 509
def abU:=k17 x x.b.c x.c.j (sm x 19 0) (sm x 19 0)
def aa4:=k6 x x.b.c 504 x.c.j 505 506 57 3 244 245 246 247 248 510 511
def Xh:=k18 x x.b.c x.c.j (sm x 19 0) (sm x 19 0) x.a.e 204 249
def afX:=k16 x x.b.t 513 x.b.q 514
def XD:=k9 x 499 503 55 502 x.b.c 512 250 x.a.y 515 251 516 2
def aaR:=k19 x x.c.i 253 252 237 492 500
def af3:=k11 x 253
def adG:=k12 x 253
abbrev d62:List DictEntry:=nf (ap (d57 x) [E x x.c.k 545 (u13 272)])
def akC:=M (u1 x.l3) (u20 (u21 (d62 x)) 29)
abbrev d63:List Value:=nf (ap (d58 x) [u12 60 0,u12 0 0,u13 261])
def ak2:=M u8 (u9 (u4 (d63 x)))
abbrev d65:List Value:=nf (ap (d60 x) [u13 272])
def alN:=u0 (u1 x.l9) u2 (u32 (u33 x.a.t [u1 x.l6] (d2 x) 30 x.a.t u31 u34 (d65 x) u15 u35 u15)) (u6 (d3 x))
def afD:=k14 x 526 x.a.e 204 528 x.c.k 527 530 60 529 x.b.c 539 269 542 270
def Zu:=k15 x 62 268
def W8:=k1 x x.c.k 521 522 523 60 259 260 524 525
def aaa:=k2 x 261 258 x.a.e 204
def adj:=k21 x x.b.d 534 x.b.q 535 x.c.l 536
def adD:=k17 x x.b.c x.c.m (sm x 20 0) (sm x 20 0)
def agq:=k6 x x.b.c 531 x.c.m 532 533 62 3 263 264 265 266 267 537 538
def aaC:=k18 x x.b.c x.c.m (sm x 20 0) (sm x 20 0) x.a.e 204 268
def adB:=k16 x x.c.l 540 x.b.q 541
def WM:=k9 x 526 530 60 529 x.b.c 539 269 x.a.y 542 270 543 2
def Ys:=k19 x x.c.k 272 271 256 519 527
def adH:=k11 x 272
def Zy:=k12 x 272
abbrev d67:List DictEntry:=nf (ap (d62 x) [E x x.c.n 570 (u13 291)])
def akK:=M (u1 x.l3) (u20 (u21 (d67 x)) 30)
abbrev d68:List Value:=nf (ap (d63 x) [u12 65 0,u12 0 0,u13 280])
def aks:=M u8 (u9 (u4 (d68 x)))
abbrev d70:List Value:=nf (ap (d65 x) [u13 291])
def alP:=u0 (u1 x.l9) u2 (u32 (u33 x.a.t [u1 x.l6] (d2 x) 30 x.a.t u31 u34 (d70 x) u15 u35 u15)) (u6 (d3 x))
def VV:=k14 x 553 x.a.e 204 555 x.c.n 554 557 65 556 x.b.c 565 288 567 289
def abp:=k15 x 67 287
def abv:=k1 x x.c.n 548 549 550 65 278 279 551 552
def abw:=k2 x 280 277 x.a.e 204
def V2:=k16 x x.b.d 561 x.c.o 562
def adS:=k17 x x.b.c x.c.p (sm x 21 0) (sm x 21 0)
def YL:=k6 x x.b.c 558 x.c.p 559 560 67 2 282 283 284 285 286 563 564
def aei:=k18 x x.b.c x.c.p (sm x 21 0) (sm x 21 0) x.a.e 204 287
def afa:=k4 x x.c.o 566
def Zt:=k9 x 553 557 65 556 x.b.c 565 288 x.a.y 567 289 568 2
def aam:=k19 x x.c.n 291 290 275 546 554
def acI:=k11 x 291
def aeg:=k12 x 291
abbrev d72:List DictEntry:=nf (ap (d67 x) [E x x.c.q 595 (u13 310)])
def alU:=M (u1 x.l3) (u20 (u21 (d72 x)) 31)
abbrev d73:List Value:=nf (ap (d68 x) [u12 69 0,u12 0 0,u13 299])
def akU:=M u8 (u9 (u4 (d73 x)))
abbrev d75:List Value:=nf (ap (d70 x) [u13 310])
def akE:=u0 (u1 x.l9) u2 (u32 (u33 x.a.t [u1 x.l6] (d2 x) 30 x.a.t u31 u34 (d75 x) u15 u35 u15)) (u6 (d3 x))
def Wa:=k14 x 578 x.a.e 204 580 x.c.q 579 582 69 581 x.b.c 590 307 592 308
def Xy:=k15 x 71 306
def aay:=k1 x x.c.q 573 574 575 69 297 298 576 577
def acu:=k2 x 299 296 x.a.e 204
def acU:=k16 x x.b.d 586 x.c.r 587
def ZX:=k17 x x.b.c x.c.s (sm x 22 0) (sm x 22 0)
def afc:=k6 x x.b.c 583 x.c.s 584 585 71 2 301 302 303 304 305 588 589
def YB:=k18 x x.b.c x.c.s (sm x 22 0) (sm x 22 0) x.a.e 204 306
def abz:=k4 x x.c.r 591
def ZP:=k9 x 578 582 69 581 x.b.c 590 307 x.a.y 592 308 593 2
def acS:=k19 x x.c.q 310 309 294 571 579
def afh:=k11 x 310
def agO:=k12 x 310
abbrev d77:List DictEntry:=nf (ap (sz (d72 x) 0 (E x x.a.d 165 (u11 x.c.t 621))) [E x x.c.u 620 (u13 329)])
def alx:=M (u1 x.l3) (u20 (u21 (d77 x)) 32)
abbrev d78:List Value:=nf (ap (d73 x) [u12 73 0,u12 0 0,u13 318])
def akv:=M u8 (u9 (u4 (d78 x)))
def ac5:=u0 (u1 x.l9) u2 (u32 (u33 x.a.t [u1 x.l6] (d2 x) 30 x.a.t u31 u34 ((nf (ap (d75 x) [u13 329]))) u15 u35 u15)) (u6 (d3 x))
def ael:=k14 x 603 x.a.e 204 605 x.c.u 604 607 73 606 x.b.c 615 326 617 327
def Wq:=k15 x 75 325
def YC:=k1 x x.c.u 598 599 600 73 316 317 601 602
def ZW:=k2 x 318 315 x.a.e 204
def adb:=k16 x x.b.d 611 x.c.v 612
def afB:=k17 x x.b.c x.c.w (sm x 23 0) (sm x 23 0)
def acF:=k6 x x.b.c 608 x.c.w 609 610 75 2 320 321 322 323 324 613 614
def agd:=k18 x x.b.c x.c.w (sm x 23 0) (sm x 23 0) x.a.e 204 325
def acy:=k4 x x.c.v 616
def acP:=k9 x 603 607 73 606 x.b.c 615 326 x.a.y 617 327 618 2
def YR:=k19 x x.c.u 329 328 313 596 604
def ady:=k11 x 329
def Wh:=k12 x 329
abbrev d82:List DictEntry:=nf (ap (d77 x) [E x x.c.x 696 (u13 381)])
def akS:=M (u1 x.l3) (u20 (u21 (d82 x)) 33)
abbrev d83:List Value:=nf (ap (d78 x) [u12 78 0,u12 0 0,u13 337])
def als:=M u8 (u9 (u4 (d83 x)))
def V4:=M (u1 x.l3) (u20 (u21 [E x x.a.v 630 (u11 x.c.t 621),E x x.a.w 632 (u11 x.c.x 631),E x x.a.x 634 (u12 78 633),E x x.b.c 642 (u13 345),E x x.c.y 648 (u13 350),E x x.d.a 656 (u13 357),E x x.d.b 667 (u13 364),E x x.d.c 676 (u13 371),E x x.d.d 684 (u13 378),E x x.a.y 689 (u13 379)]) 10)
def aeB(x:X):Obj:=M u8 (u9 (u4 [u12 80 0,u12 4 0,u13 344,u12 87 0,u12 4 0,u13 349,u12 98 0,u12 4 0,u13 356,u12 102 0,u12 4 0,u13 363,u12 110 0,u12 4 0,u13 370,u12 116 0,u12 4 0,u13 377]))
def YF:=k1 x x.c.x 625 626 627 78 335 336 628 629
def ZF:=k2 x 337 334 x.c.t 621
def ac3:=k16 x x.b.d 638 x.b.h 639
def abh:=k17 x x.b.c x.d.e (sm x 25 0) (sm x 25 0)
def VZ:=k6 x x.b.c 635 x.d.e 636 637 80 2 339 340 341 342 343 640 641
def Wx:=k18 x x.b.c x.d.e (sm x 25 0) (sm x 25 0) x.c.t 621 344
def aao:=k17 x x.c.y x.d.f (sm x 25 1) (sm x 25 1)
def Zk:=k22 x x.c.y 643 x.d.f 644 645 87 2 346 347 348 646 647
def XI:=k18 x x.c.y x.d.f (sm x 25 1) (sm x 25 1) x.c.t 621 349
def Wz:=k16 x x.b.d 652 x.b.q 653
def adP:=k17 x x.d.a x.d.g (sm x 25 2) (sm x 25 2)
def agN:=k6 x x.d.a 649 x.d.g 650 651 98 2 351 352 353 354 355 654 655
def Yt:=k18 x x.d.a x.d.g (sm x 25 2) (sm x 25 2) x.c.t 621 356
def agJ:=k23 x x.b.d 660 x.d.h 661 x.d.i 662 x.d.j 663 x.b.q 664
def aaH:=k17 x x.d.b x.d.k (sm x 25 3) (sm x 25 3)
def ZO:=k6 x x.d.b 657 x.d.k 658 659 102 3 358 359 360 361 362 665 666
def acj:=k18 x x.d.b x.d.k (sm x 25 3) (sm x 25 3) x.c.t 621 363
def Zx:=k21 x x.b.d 671 x.b.k 672 x.b.n 673
def agI:=k17 x x.d.c x.d.l (sm x 25 4) (sm x 25 4)
def abg:=k6 x x.d.c 668 x.d.l 669 670 110 3 365 366 367 368 369 674 675
def aep:=k18 x x.d.c x.d.l (sm x 25 4) (sm x 25 4) x.c.t 621 370
def aeT:=k16 x x.b.d 680 x.b.q 681
def acf:=k17 x x.d.d x.d.m (sm x 25 5) (sm x 25 5)
def aeK:=k6 x x.d.d 677 x.d.m 678 679 116 2 372 373 374 375 376 682 683
def agG:=k18 x x.d.d x.d.m (sm x 25 5) (sm x 25 5) x.c.t 621 377
def agx:=k24 x x.d.n 685 x.d.o 686 x.d.p 687 x.b.h 688
def adw:=M (u1 x.l3) (u20 (u21 [E x x.a.v 630 (u11 x.c.t 621),E x x.a.x 634 (u12 78 633),E x x.b.c 642 (u13 345),E x x.c.y 648 (u13 350),E x x.d.a 656 (u13 357),E x x.d.b 667 (u13 364),E x x.d.c 676 (u13 371),E x x.d.d 684 (u13 378),E x x.a.y 689 (u13 379),E x x.d.q 691 (u13 382),E x x.b.a 693 (u13 383),E x x.a.f 694 u8]) 4)
def aeM:=k25 x x.c.x 381 380 623 631
def YS:=k26 x 690 381
def abP:=k10 x 692 381
def Yv:=k11 x 381
def Yo:=k12 x 381
abbrev d87:List DictEntry:=nf (ap (sz (d82 x) 0 (E x x.a.d 165 (u11 x.d.r 704))) [E x x.d.s 703 (u13 392)])
def akD:=M (u1 x.l3) (u20 (u21 (d87 x)) 34)
abbrev d88:List Value:=nf (ap (d83 x) [u12 119 0,u12 0 0,u13 391])
def al0:=M u8 (u9 (u4 (d88 x)))
def Wf:=k4 x x.b.h 700
def Zv:=k5 x x.d.s (st x 26) (st x 26)
def aco:=k6 x x.d.s 697 x.d.s 698 699 119 1 386 387 388 389 390 701 702
def V7:=k7 x x.d.s (st x 26) (st x 26) x.c.t 621 391
abbrev d89:List DictEntry:=nf (ap (d87 x) [E x x.d.t 809 (u13 472)])
def alz:=M (u1 x.l3) (u20 (u21 (d89 x)) 35)
abbrev d90:List Value:=nf (ap (d88 x) [u12 123 0,u12 0 0,u13 398])
def akQ:=M u8 (u9 (u4 (d90 x)))
def aex:=M (u1 x.l3) (u20 (u21 [E x x.a.v 713 (u11 x.d.r 704),E x x.a.w 715 (u11 x.d.t 714),E x x.a.x 717 (u12 123 716),E x x.b.c 724 (u13 406),E x x.d.u 732 (u13 413),E x x.d.v 739 (u13 420),E x x.d.w 748 (u13 427),E x x.d.x 755 (u13 434),E x x.d.y 762 (u13 441),E x x.e.a 771 (u13 448),E x x.e.b 781 (u13 455),E x x.e.c 790 (u13 462),E x x.e.d 800 (u13 469),E x x.a.y 802 (u13 470)]) 14)
def aaf(x:X):Obj:=M u8 (u9 (u4 [u12 125 0,u12 4 0,u13 405,u12 128 0,u12 4 0,u13 412,u12 132 0,u12 4 0,u13 419,u12 137 0,u12 4 0,u13 426,u12 145 0,u12 4 0,u13 433,u12 148 0,u12 4 0,u13 440,u12 151 0,u12 4 0,u13 447,u12 157 0,u12 4 0,u13 454,u12 165 0,u12 4 0,u13 461,u12 171 0,u12 4 0,u13 468]))
def afT:=k1 x x.d.t 708 709 710 123 396 397 711 712
def YX:=k2 x 398 395 x.d.r 704
def aeu:=k4 x x.b.d 721
def VJ:=k17 x x.b.c x.e.e (sm x 28 0) (sm x 28 0)
def YD:=k6 x x.b.c 718 x.e.e 719 720 125 1 400 401 402 403 404 722 723
def ac9:=k18 x x.b.c x.e.e (sm x 28 0) (sm x 28 0) x.d.r 704 405
def adu:=k16 x x.b.d 728 x.e.f 729
def agg:=k17 x x.d.u x.e.g (sm x 28 1) (sm x 28 1)
def afY:=k6 x x.d.u 725 x.e.g 726 727 128 2 407 408 409 410 411 730 731
def agQ:=k18 x x.d.u x.e.g (sm x 28 1) (sm x 28 1) x.d.r 704 412
def adF:=k4 x x.b.d 736
def ag6:=k17 x x.d.v x.e.h (sm x 28 2) (sm x 28 2)
def W3:=k6 x x.d.v 733 x.e.h 734 735 132 1 414 415 416 417 418 737 738
def Xj:=k18 x x.d.v x.e.h (sm x 28 2) (sm x 28 2) x.d.r 704 419
def aeX:=k21 x x.b.d 743 x.e.f 744 x.d.n 745
def aaQ:=k17 x x.d.w x.e.i (sm x 28 3) (sm x 28 3)
def Yg:=k6 x x.d.w 740 x.e.i 741 742 137 1 421 422 423 424 425 746 747
def WB:=k18 x x.d.w x.e.i (sm x 28 3) (sm x 28 3) x.d.r 704 426
def YN:=k4 x x.b.d 752
def afN:=k17 x x.d.x x.e.j (sm x 28 4) (sm x 28 4)
def abX:=k6 x x.d.x 749 x.e.j 750 751 145 1 428 429 430 431 432 753 754
def V3:=k18 x x.d.x x.e.j (sm x 28 4) (sm x 28 4) x.d.r 704 433
def abi:=k4 x x.b.d 759
def aaV:=k17 x x.d.y x.e.k (sm x 28 5) (sm x 28 5)
def VU:=k6 x x.d.y 756 x.e.k 757 758 148 1 435 436 437 438 439 760 761
def aa9:=k18 x x.d.y x.e.k (sm x 28 5) (sm x 28 5) x.d.r 704 440
def af5:=k21 x x.b.d 766 x.b.k 767 x.e.l 768
def YG:=k17 x x.e.a x.e.m (sm x 28 6) (sm x 28 6)
def adC:=k6 x x.e.a 763 x.e.m 764 765 151 2 442 443 444 445 446 769 770
def acG:=k18 x x.e.a x.e.m (sm x 28 6) (sm x 28 6) x.d.r 704 447
def aeO:=k24 x x.b.d 775 x.b.k 776 x.e.n 777 x.e.l 778
def ZL:=k17 x x.e.b x.e.o (sm x 28 7) (sm x 28 7)
def aau:=k6 x x.e.b 772 x.e.o 773 774 157 2 449 450 451 452 453 779 780
def agp:=k18 x x.e.b x.e.o (sm x 28 7) (sm x 28 7) x.d.r 704 454
def afd:=k21 x x.b.d 785 x.b.k 786 x.e.l 787
def adf:=M u8 (u27 (u28 (f0 (sm x 28 8)) x.e.p (f1 (sm x 28 8)) (u29 (f2 (sm x 28 8))) (f6 (sm x 28 8)) 0 u30 u8 u8 u8 u8 u2 u8 u8 0))
def aef:=k6 x x.e.c 782 x.e.p 783 784 165 2 456 457 458 459 460 788 789
def Yh:=M (u1 x.l5) (u27 (u28 (f0 (sm x 28 8)) x.e.p (f1 (sm x 28 8)) (u29 (f2 (sm x 28 8))) (f6 (sm x 28 8)) 3 u30 u8 u8 u8 (u11 x.d.r 704) u2 (u13 461) u8 0))
def ac6:=k24 x x.b.d 794 x.d.h 795 x.d.i 796 x.e.f 797
def aeN:=k17 x x.e.d x.e.q (sm x 28 9) (sm x 28 9)
def aeR:=k6 x x.e.d 791 x.e.q 792 793 171 3 463 464 465 466 467 798 799
def ad1:=k18 x x.e.d x.e.q (sm x 28 9) (sm x 28 9) x.d.r 704 468
def adX:=k4 x x.e.r 801
def acN:=M (u1 x.l3) (u20 (u21 [E x x.a.v 713 (u11 x.d.r 704),E x x.a.x 717 (u12 123 716),E x x.b.c 724 (u13 406),E x x.d.u 732 (u13 413),E x x.d.v 739 (u13 420),E x x.d.w 748 (u13 427),E x x.d.x 755 (u13 434),E x x.d.y 762 (u13 441),E x x.e.a 771 (u13 448),E x x.e.b 781 (u13 455),E x x.e.c 790 (u13 462),E x x.e.d 800 (u13 469),E x x.a.y 802 (u13 470),E x x.d.q 804 (u13 473),E x x.b.a 806 (u13 474),E x x.a.f 807 u8]) 4)
def agD:=k25 x x.d.t 472 471 706 714
def WV:=k26 x 803 472
def WA:=k10 x 805 472
def Xg:=k11 x 472
def Xr:=k12 x 472
abbrev d94:List DictEntry:=nf (ap (sz (d89 x) 0 (E x x.a.d 165 (u11 x.e.s 911))) [E x x.e.t 822 (u13 483),E x x.e.u 833 (u13 490),E x x.e.v 845 (u13 497),E x x.e.w 856 (u13 504),E x x.e.x 862 (u13 509),E x x.e.y 871 (u13 516),E x x.f.a 879 (u13 523),E x x.f.b 887 (u13 530),E x x.f.c 896 (u13 537),E x x.f.d 910 (u13 544)])
def akq:=M (u1 x.l3) (u20 (u21 (d94 x)) 45)
abbrev d95:List Value:=nf (ap (d90 x) [u12 176 0,u12 0 0,u13 482,u12 181 0,u12 0 0,u13 489,u12 187 0,u12 0 0,u13 496,u12 200 0,u12 0 0,u13 503,u12 208 0,u12 0 0,u13 508,u12 219 0,u12 0 0,u13 515,u12 224 0,u12 0 0,u13 522,u12 226 0,u12 0 0,u13 529,u12 229 0,u12 0 0,u13 536,u12 231 0,u12 0 0,u13 543])
def akY:=M u8 (u9 (u4 (d95 x)))
def Wm:=k21 x x.f.e 815 x.f.f 816 x.f.g 817
def Xk:=k16 x x.f.e 818 x.f.f 819
def YE:=k5 x x.e.t (st x 30) (st x 30)
def abI:=k6 x x.e.t 812 x.e.t 813 814 176 2 477 478 479 480 481 820 821
def aaL:=k7 x x.e.t (st x 30) (st x 30) x.f.h 810 482
def acr:=k23 x x.c.r 826 x.f.g 827 x.f.i 828 x.b.w 829 x.f.j 830
def YM:=k5 x x.e.u (st x 31) (st x 31)
def abZ:=k6 x x.e.u 823 x.e.u 824 825 181 2 484 485 486 487 488 831 832
def adT:=k7 x x.e.u (st x 31) (st x 31) x.f.h 810 489
def Wt:=k27 x x.f.i 837 x.f.k 838 x.f.l 839 x.f.m 840 x.e.f 841 x.f.n 842
def aaZ:=k5 x x.e.v (st x 32) (st x 32)
def ab3:=k6 x x.e.v 834 x.e.v 835 836 187 1 491 492 493 494 495 843 844
def YV:=k7 x x.e.v (st x 32) (st x 32) x.f.h 810 496
def aa8:=k23 x x.f.i 849 x.f.l 850 x.d.n 851 x.f.n 852 x.f.o 853
def agl:=k5 x x.e.w (st x 33) (st x 33)
def V0:=k6 x x.e.w 846 x.e.w 847 848 200 1 498 499 500 501 502 854 855
def agm:=k7 x x.e.w (st x 33) (st x 33) x.f.h 810 503
def abQ:=k5 x x.e.x (st x 34) (st x 34)
def aeS:=k22 x x.e.x 857 x.e.x 858 859 208 2 505 506 507 860 861
def ag5:=k7 x x.e.x (st x 34) (st x 34) x.f.h 810 508
def afV:=k21 x x.f.i 866 x.f.k 867 x.f.n 868
def abE:=k28 x (st x 35)
def Wk:=k6 x x.e.y 863 x.e.y 864 865 219 1 510 511 512 513 514 869 870
def afk:=k29 x (st x 35) x.f.h 810 515
def aea:=k16 x x.f.l 875 x.f.o 876
def WI:=k5 x x.f.a (st x 36) (st x 36)
def abd:=k6 x x.f.a 872 x.f.a 873 874 224 2 517 518 519 520 521 877 878
def Zw:=k7 x x.f.a (st x 36) (st x 36) x.f.h 810 522
def adU:=k16 x x.f.p 883 x.f.n 884
def V6:=k5 x x.f.b (st x 37) (st x 37)
def YJ:=k6 x x.f.b 880 x.f.b 881 882 226 2 524 525 526 527 528 885 886
def abb:=k7 x x.f.b (st x 37) (st x 37) x.f.h 810 529
def Zz:=k4 x x.b.w 893
def VL:=k5 x x.f.c (st x 39) (st x 39)
def ac8:=k6 x x.f.c 890 x.f.c 891 892 229 1 531 532 533 534 535 894 895
def Zq:=k7 x x.f.c (st x 39) (st x 39) x.f.q 888 536
def aa1:=k30 x x.f.o 900 x.b.q 901 x.f.r 902 x.f.s 903 x.b.k 904 x.b.n 905 x.f.t 906 x.b.w 907
def agU:=k5 x x.f.d (st x 40) (st x 40)
def ae7:=k6 x x.f.d 897 x.f.d 898 899 231 3 538 539 540 541 542 908 909
def aab:=k7 x x.f.d (st x 40) (st x 40) x.f.q 888 543
abbrev d96:List DictEntry:=nf (ap (d94 x) [E x x.f.u 967 (u13 580)])
def akO:=M (u1 x.l3) (u20 (u21 (d96 x)) 46)
abbrev d97:List Value:=nf (ap (d95 x) [u12 240 0,u12 0 0,u13 550])
def alL:=M u8 (u9 (u4 (d97 x)))
def aek:=M (u1 x.l3) (u20 (u21 [E x x.a.v 920 (u11 x.e.s 911),E x x.a.w 922 (u11 x.f.u 921),E x x.a.x 924 (u12 240 923),E x x.b.c 930 (u13 556),E x x.d.x 937 (u13 563),E x x.f.v 944 (u13 570),E x x.f.w 955 (u13 577),E x x.a.y 960 (u13 578)]) 8)
def acz(x:X):Obj:=M u8 (u9 (u4 [u12 242 0,u12 4 0,u13 555,u12 249 0,u12 4 0,u13 562,u12 252 0,u12 4 0,u13 569,u12 255 0,u12 4 0,u13 576]))
def acp:=k1 x x.f.u 915 916 917 240 548 549 918 919
def ae8:=k2 x 550 547 x.e.s 911
def aeL:=k17 x x.b.c x.f.x (sm x 42 0) (sm x 42 0)
def ack:=k22 x x.b.c 925 x.f.x 926 927 242 5 552 553 554 928 929
def WD:=k18 x x.b.c x.f.x (sm x 42 0) (sm x 42 0) x.e.s 911 555
def agV:=k4 x x.b.d 934
def ZQ:=k17 x x.d.x x.f.y (sm x 42 1) (sm x 28 4)
def acE:=k6 x x.d.x 931 x.f.y 932 933 249 1 557 558 559 560 561 935 936
def aes:=k18 x x.d.x x.f.y (sm x 42 1) (sm x 28 4) x.e.s 911 562
def aap:=k4 x x.b.d 941
def agt:=k17 x x.f.v x.g.a (sm x 42 2) (sm x 28 0)
def Zn:=k6 x x.f.v 938 x.g.a 939 940 252 1 564 565 566 567 568 942 943
def VM:=k18 x x.f.v x.g.a (sm x 42 2) (sm x 28 0) x.e.s 911 569
def ae3:=k23 x x.b.d 948 x.c.a 949 x.g.b 950 x.f.r 951 x.e.r 952
def abt:=k17 x x.f.w x.g.c (sm x 42 3) (sm x 42 3)
def YH:=k6 x x.f.w 945 x.g.c 946 947 255 3 571 572 573 574 575 953 954
def agL:=k18 x x.f.w x.g.c (sm x 42 3) (sm x 42 3) x.e.s 911 576
def Yq:=k24 x x.f.t 956 x.b.q 957 x.g.d 958 x.f.r 959
def ad0:=M (u1 x.l3) (u20 (u21 [E x x.a.v 920 (u11 x.e.s 911),E x x.a.x 924 (u12 240 923),E x x.b.c 930 (u13 556),E x x.d.x 937 (u13 563),E x x.f.v 944 (u13 570),E x x.f.w 955 (u13 577),E x x.a.y 960 (u13 578),E x x.d.q 962 (u13 581),E x x.b.a 964 (u13 582),E x x.a.f 965 u8]) 4)
def akT:=k25 x x.f.u 580 579 913 921
def adi:=k26 x 961 580
def abu:=k10 x 963 580
def aa3:=k11 x 580
def Xm:=k12 x 580
abbrev agh:List DictEntry:=nf (ap (d96 x) [E x x.g.e 1021 (u13 628)])
def alZ:=M (u1 x.l3) (u20 (u21 (agh x)) 47)
abbrev adK:List Value:=nf (ap (d97 x) [u12 262 0,u12 0 0,u13 590])
def alH:=M u8 (u9 (u4 (adK x)))
abbrev MK:List (Option Value):=[u19,u19,u18 (u11 x.f.u 913),u18 (u11 x.f.u 921),u18 (u25 x.l18),u18 (u14 u31)]
def alF:=u0 (u1 x.l9) u2 (u32 (u33 x.f.u [u1 x.l12] [u13 580,u1 x.l12] 579 x.f.u u31 u34 [u13 628] u15 u35 u15)) (u6 (MK x))
def HZ:=k13 x 580
def agn:=M (u1 x.l3) (u20 (u21 [E x x.a.v 975 (u11 x.e.s 911),E x x.a.w 977 (u11 x.g.e 976),E x x.a.x 979 (u12 262 978),E x x.b.c 989 (u13 599),E x x.f.o 996 (u13 606),E x x.g.f 1003 (u13 613),E x x.g.g 1009 (u13 618),E x x.g.h 1017 (u13 625),E x x.a.y 1018 (u13 626)]) 9)
def aen:=k20 x 264 4 598 267 605 270 612 273 617 276 624
def ae1:=k1 x x.g.e 970 971 972 262 588 589 973 974
def aan:=k2 x 590 587 x.e.s 911
def rA:=k31 x
def aft:=k24 x x.b.d 983 x.b.q 984 x.f.r 985 x.f.t 986
def Xn:=k17 x x.b.c x.g.i (sm x 43 0) (sm x 43 0)
def agK:=k6 x x.b.c 980 x.g.i 981 982 264 4 593 594 595 596 597 987 988
def Wd:=k32 x x.b.c x.g.i (sm x 43 0) 592 x.e.s 911 598
def adm:=k4 x x.b.d 993
def acC:=k17 x x.f.o x.g.j (sm x 43 1) (sm x 28 0)
def aga:=k6 x x.f.o 990 x.g.j 991 992 267 1 600 601 602 603 604 994 995
def VX:=k18 x x.f.o x.g.j (sm x 43 1) (sm x 28 0) x.e.s 911 605
def agR:=k4 x x.b.d 1000
def aac:=k17 x x.g.f x.g.k (sm x 43 2) (sm x 28 0)
def afj:=k6 x x.g.f 997 x.g.k 998 999 270 1 607 608 609 610 611 1001 1002
def abL:=k18 x x.g.f x.g.k (sm x 43 2) (sm x 28 0) x.e.s 911 612
def afn:=k17 x x.g.g x.g.l (sm x 43 3) (sm x 43 3)
def WE:=k22 x x.g.g 1004 x.g.l 1005 1006 273 2 614 615 616 1007 1008
def YZ:=k18 x x.g.g x.g.l (sm x 43 3) (sm x 43 3) x.e.s 911 617
def ag4:=k16 x x.b.d 1013 x.f.r 1014
def aej:=k17 x x.g.h x.g.m (sm x 43 4) (sm x 43 4)
def ad9:=k6 x x.g.h 1010 x.g.m 1011 1012 276 2 619 620 621 622 623 1015 1016
def ZN:=k18 x x.g.h x.g.m (sm x 43 4) (sm x 43 4) x.e.s 911 624
def aaK:=M (u1 x.l3) (u20 (u21 [E x x.a.v 975 (u11 x.e.s 911),E x x.a.x 979 (u12 262 978),E x x.b.c 989 (u13 599),E x x.f.o 996 (u13 606),E x x.g.f 1003 (u13 613),E x x.g.g 1009 (u13 618),E x x.g.h 1017 (u13 625),E x x.a.y 1018 (u13 626),E x x.a.f 1019 u8]) 2)
def ae2:=k33 x x.g.e 580 628 627 585 968 976
def aa7:=k11 x 628
def abY:=k12 x 628
abbrev acg:List DictEntry:=nf (ap (agh x) [E x x.g.n 1082 (u13 676)])
def alw:=M (u1 x.l3) (u20 (u21 (acg x)) 48)
abbrev ae9:List Value:=nf (ap (adK x) [u12 278 0,u12 0 0,u13 636])
def akB:=M u8 (u9 (u4 (ae9 x)))
def aet:=u0 (u1 x.l9) u2 (u32 (u33 x.f.u [u1 x.l12] [u13 580,u1 x.l12] 579 x.f.u u31 u34 [u13 628,u13 676] u15 u35 u15)) (u6 (MK x))
def abe:=M (u1 x.l3) (u20 (u21 [E x x.a.v 1029 (u11 x.e.s 911),E x x.a.w 1031 (u11 x.g.n 1030),E x x.a.x 1033 (u12 278 1032),E x x.b.c 1044 (u13 645),E x x.f.o 1051 (u13 652),E x x.g.f 1058 (u13 659),E x x.g.g 1069 (u13 666),E x x.g.h 1077 (u13 673),E x x.a.y 1079 (u13 674)]) 9)
def Y6:=k20 x 280 4 644 284 651 287 658 290 665 296 672
def af1:=k1 x x.g.n 1024 1025 1026 278 634 635 1027 1028
def abm:=k2 x 636 633 x.e.s 911
def WO:=k23 x x.b.d 1037 x.b.t 1038 x.b.q 1039 x.f.r 1040 x.f.t 1041
def Zs:=k17 x x.b.c x.g.o (sm x 44 0) (sm x 44 0)
def aaJ:=k6 x x.b.c 1034 x.g.o 1035 1036 280 5 639 640 641 642 643 1042 1043
def acO:=k32 x x.b.c x.g.o (sm x 44 0) 638 x.e.s 911 644
def aeV:=k4 x x.b.d 1048
def agF:=k17 x x.f.o x.g.p (sm x 44 1) (sm x 28 0)
def acV:=k6 x x.f.o 1045 x.g.p 1046 1047 284 1 646 647 648 649 650 1049 1050
def aci:=k18 x x.f.o x.g.p (sm x 44 1) (sm x 28 0) x.e.s 911 651
def WH:=k4 x x.b.d 1055
def aaP:=k17 x x.g.f x.g.q (sm x 44 2) (sm x 28 0)
def aeU:=k6 x x.g.f 1052 x.g.q 1053 1054 287 1 653 654 655 656 657 1056 1057
def acY:=k18 x x.g.f x.g.q (sm x 44 2) (sm x 28 0) x.e.s 911 658
def ab8:=k23 x x.b.d 1062 x.d.a 1063 x.g.r 1064 x.b.k 1065 x.b.n 1066
def Zj:=k17 x x.g.g x.g.s (sm x 44 3) (sm x 44 3)
def aaY:=k6 x x.g.g 1059 x.g.s 1060 1061 290 2 660 661 662 663 664 1067 1068
def agZ:=k18 x x.g.g x.g.s (sm x 44 3) (sm x 44 3) x.e.s 911 665
def agP:=k16 x x.b.d 1073 x.f.r 1074
def afo:=k17 x x.g.h x.g.t (sm x 44 4) (sm x 44 4)
def afJ:=k6 x x.g.h 1070 x.g.t 1071 1072 296 2 667 668 669 670 671 1075 1076
def adz:=k18 x x.g.h x.g.t (sm x 44 4) (sm x 44 4) x.e.s 911 672
def afF:=k4 x x.b.t 1078
def acZ:=M (u1 x.l3) (u20 (u21 [E x x.a.v 1029 (u11 x.e.s 911),E x x.a.x 1033 (u12 278 1032),E x x.b.c 1044 (u13 645),E x x.f.o 1051 (u13 652),E x x.g.f 1058 (u13 659),E x x.g.g 1069 (u13 666),E x x.g.h 1077 (u13 673),E x x.a.y 1079 (u13 674),E x x.a.f 1080 u8]) 2)
def Y4:=k33 x x.g.n 580 676 675 631 1022 1030
def agT:=k11 x 676
def aeD:=k12 x 676
abbrev W2:List DictEntry:=nf (ap (sz (acg x) 0 (E x x.a.d 165 (u11 x.g.u 1138))) [E x x.g.v 1090 (u13 685),E x x.g.w 1096 (u13 690),E x x.g.x 1100 (u11 x.g.y 1099),E x x.h.a 1106 (u13 695),E x x.h.b 1113 (u13 702),E x x.h.c 1121 (u13 709),E x x.h.d 1127 (u13 714),E x x.h.e 1131 (u12 20 1130),E x x.h.f 1137 (u13 719)])
def ak4:=M (u1 x.l3) (u20 (u21 (W2 x)) 57)
abbrev ZI:List Value:=nf (ap (ae9 x) [u12 298 0,u12 0 0,u13 684,u12 300 0,u12 0 0,u13 689,u12 308 0,u12 0 0,u13 694,u12 314 0,u12 0 0,u13 701,u12 318 0,u12 0 0,u13 708,u12 323 0,u12 0 0,u13 713,u12 327 0,u12 0 0,u13 718])
def alp:=M u8 (u9 (u4 (ZI x)))
def aaW:=k16 x x.h.g 1086 x.b.q 1087
def W9:=k5 x x.g.v (st x 45) (st x 45)
def adl:=k6 x x.g.v 1083 x.g.v 1084 1085 298 2 679 680 681 682 683 1088 1089
def ab1:=k7 x x.g.v (st x 45) (st x 45) x.e.s 911 684
def aaX:=k5 x x.g.w (st x 46) (st x 46)
def XG:=k22 x x.g.w 1091 x.g.w 1092 1093 300 3 686 687 688 1094 1095
def agj:=k7 x x.g.w (st x 46) (st x 46) x.e.s 911 689
def agr:=k28 x (st x 49)
def acT:=k22 x x.h.a 1101 x.h.a 1102 1103 308 1 691 692 693 1104 1105
def ab7:=k29 x (st x 49) x.h.h 1097 694
def afI:=k4 x x.b.e 1110
def aeG:=k5 x x.h.b (st x 50) (st x 50)
def af8:=k6 x x.h.b 1107 x.h.b 1108 1109 314 1 696 697 698 699 700 1111 1112
def abF:=k7 x x.h.b (st x 50) (st x 50) x.h.h 1097 701
def aeY:=k16 x x.b.e 1117 x.h.i 1118
def Zo:=k5 x x.h.c (st x 51) (st x 51)
def aai:=k6 x x.h.c 1114 x.h.c 1115 1116 318 1 703 704 705 706 707 1119 1120
def ags:=k7 x x.h.c (st x 51) (st x 51) x.h.h 1097 708
def XR:=k5 x x.h.d (st x 52) (st x 52)
def aeQ:=k22 x x.h.d 1122 x.h.d 1123 1124 323 1 710 711 712 1125 1126
def adO:=k7 x x.h.d (st x 52) (st x 52) x.h.h 1097 713
def ZS:=k5 x x.h.f (st x 55) (st x 55)
def aaN:=k22 x x.h.f 1132 x.h.f 1133 1134 327 1 715 716 717 1135 1136
def Xu:=k7 x x.h.f (st x 55) (st x 55) x.h.j 1128 718
abbrev agc:List DictEntry:=nf (ap (W2 x) [E x x.h.k 1231 (u13 790)])
def alc:=M (u1 x.l3) (u20 (u21 (agc x)) 58)
abbrev WG:List Value:=nf (ap (ZI x) [u12 336 0,u12 0 0,u13 725])
def akV:=M u8 (u9 (u4 (WG x)))
def aev:=M (u1 x.l3) (u20 (u21 [E x x.a.v 1147 (u11 x.g.u 1138),E x x.a.w 1149 (u11 x.h.k 1148),E x x.a.x 1151 (u12 336 1150),E x x.b.c 1158 (u13 733),E x x.h.l 1167 (u13 740),E x x.h.m 1176 (u13 747),E x x.f.j 1184 (u13 754),E x x.h.n 1193 (u13 761),E x x.f.s 1200 (u13 768),E x x.h.o 1207 (u13 775),E x x.h.p 1215 (u13 782),E x x.h.q 1221 (u13 787),E x x.a.y 1224 (u13 788)]) 13)
def ZK(x:X):Obj:=M u8 (u9 (u4 [u12 338 0,u12 4 0,u13 732,u12 342 0,u12 4 0,u13 739,u12 347 0,u12 4 0,u13 746,u12 351 0,u12 4 0,u13 753,u12 356 0,u12 4 0,u13 760,u12 361 0,u12 4 0,u13 767,u12 364 0,u12 4 0,u13 774,u12 367 0,u12 4 0,u13 781,u12 373 0,u12 4 0,u13 786]))
def WY:=k1 x x.h.k 1142 1143 1144 336 723 724 1145 1146
def XH:=k2 x 725 722 x.g.u 1138
def XW:=k4 x x.b.d 1155
def afr:=k17 x x.b.c x.h.r (sm x 57 0) (sm x 28 0)
def ab4:=k6 x x.b.c 1152 x.h.r 1153 1154 338 1 727 728 729 730 731 1156 1157
def abK:=k18 x x.b.c x.h.r (sm x 57 0) (sm x 28 0) x.g.u 1138 732
def Xx:=k21 x x.b.d 1162 x.f.j 1163 x.b.w 1164
def Yb:=k17 x x.h.l x.h.s (sm x 57 1) (sm x 57 1)
def XJ:=k6 x x.h.l 1159 x.h.s 1160 1161 342 2 734 735 736 737 738 1165 1166
def af4:=k18 x x.h.l x.h.s (sm x 57 1) (sm x 57 1) x.g.u 1138 739
def acA:=k21 x x.b.d 1171 x.b.w 1172 x.f.j 1173
def W0:=k17 x x.h.m x.h.t (sm x 57 2) (sm x 57 2)
def afx:=k6 x x.h.m 1168 x.h.t 1169 1170 347 3 741 742 743 744 745 1174 1175
def aeE:=k18 x x.h.m x.h.t (sm x 57 2) (sm x 57 2) x.g.u 1138 746
def aaj:=k16 x x.b.d 1180 x.b.w 1181
def adJ:=k17 x x.f.j x.h.u (sm x 57 3) (sm x 57 3)
def adk:=k6 x x.f.j 1177 x.h.u 1178 1179 351 2 748 749 750 751 752 1182 1183
def ag1:=k18 x x.f.j x.h.u (sm x 57 3) (sm x 57 3) x.g.u 1138 753
def ZZ:=k21 x x.b.d 1188 x.b.w 1189 x.f.j 1190
def afw:=k17 x x.h.n x.h.v (sm x 57 4) (sm x 57 4)
def aak:=k6 x x.h.n 1185 x.h.v 1186 1187 356 2 755 756 757 758 759 1191 1192
def aeP:=k18 x x.h.n x.h.v (sm x 57 4) (sm x 57 4) x.g.u 1138 760
def Yy:=k4 x x.b.d 1197
def Xv:=k17 x x.f.s x.h.w (sm x 57 5) (sm x 57 5)
def Yd:=k6 x x.f.s 1194 x.h.w 1195 1196 361 1 762 763 764 765 766 1198 1199
def WC:=k18 x x.f.s x.h.w (sm x 57 5) (sm x 57 5) x.g.u 1138 767
def acB:=k4 x x.b.d 1204
def ab6:=k17 x x.h.o x.h.x (sm x 57 6) (sm x 28 0)
def Yx:=k6 x x.h.o 1201 x.h.x 1202 1203 364 1 769 770 771 772 773 1205 1206
def XQ:=k18 x x.h.o x.h.x (sm x 57 6) (sm x 28 0) x.g.u 1138 774
def afC:=k16 x x.b.d 1211 x.d.i 1212
def afU:=k17 x x.h.p x.h.y (sm x 57 7) (sm x 57 7)
def agC:=k6 x x.h.p 1208 x.h.y 1209 1210 367 1 776 777 778 779 780 1213 1214
def Yu:=k18 x x.h.p x.h.y (sm x 57 7) (sm x 57 7) x.g.u 1138 781
def Yn:=k17 x x.h.q x.i.a (sm x 57 8) (sm x 57 8)
def WK:=k22 x x.h.q 1216 x.i.a 1217 1218 373 1 783 784 785 1219 1220
def VS:=k18 x x.h.q x.i.a (sm x 57 8) (sm x 57 8) x.g.u 1138 786
def ad8:=k16 x x.i.b 1222 x.i.c 1223
def Y9:=M (u1 x.l3) (u20 (u21 [E x x.a.v 1147 (u11 x.g.u 1138),E x x.a.x 1151 (u12 336 1150),E x x.b.c 1158 (u13 733),E x x.h.l 1167 (u13 740),E x x.h.m 1176 (u13 747),E x x.f.j 1184 (u13 754),E x x.h.n 1193 (u13 761),E x x.f.s 1200 (u13 768),E x x.h.o 1207 (u13 775),E x x.h.p 1215 (u13 782),E x x.h.q 1221 (u13 787),E x x.a.y 1224 (u13 788),E x x.d.q 1226 (u13 791),E x x.b.a 1228 (u13 792),E x x.a.f 1229 u8]) 4)
def Zp:=k25 x x.h.k 790 789 1140 1148
def ZC:=k26 x 1225 790
def Y3:=k10 x 1227 790
def aeZ:=k11 x 790
def Xa:=k12 x 790
abbrev aah:List DictEntry:=nf (ap (sz (agc x) 0 (E x x.a.d 165 (u11 x.i.d 1351))) [E x x.i.e 1246 (u13 801),E x x.i.f 1254 (u13 809),E x x.i.g 1269 (u13 816),E x x.i.h 1280 (u13 823),E x x.c.l 1288 (u13 828),E x x.i.i 1300 (u13 835),E x x.i.j 1309 (u13 842),E x x.i.k 1321 (u13 849),E x x.i.l 1332 (u13 856),E x x.i.m 1340 (u13 863),E x x.i.n 1350 (u13 870)])
def ak7:=M (u1 x.l3) (u20 (u21 (aah x)) 69)
abbrev YO:List Value:=nf (ap (WG x) [u12 377 0,u12 0 0,u13 800,u12 391 0,u12 0 0,u13 808,u12 393 0,u12 0 0,u13 815,u12 407 0,u12 0 0,u13 822,u12 415 0,u12 0 0,u13 827,u12 420 0,u12 0 0,u13 834,u12 427 0,u12 0 0,u13 841,u12 434 0,u12 0 0,u13 848,u12 445 0,u12 0 0,u13 855,u12 453 0,u12 0 0,u13 862,u12 458 0,u12 0 0,u13 869])
def alo:=M u8 (u9 (u4 (YO x)))
def ae4:=k34 x x.c.r 1237 x.i.o 1238 x.d.a 1239 x.b.q 1240 x.c.a 1241 x.b.w 1242 x.f.j 1243
def afv:=k5 x x.i.e (st x 59) (st x 59)
def ag2:=k6 x x.i.e 1234 x.i.e 1235 1236 377 2 795 796 797 798 799 1244 1245
def agf:=k7 x x.i.e (st x 59) (st x 59) x.i.p 1232 800
def abM:=M (u1 x.l0) (u3 (u4 [u14 u15]) 0)
def agH:=k16 x x.c.r 1250 x.i.q 1251
def aa5:=k5 x x.i.f (st x 60) (st x 60)
def aeH:=k6 x x.i.f 1247 x.i.f 1248 1249 391 2 803 804 805 806 807 1252 1253
def abk:=M (u1 x.l5) (u27 (u28 x.i.f x.i.f (f1 (st x 60)) (u29 (f2 (st x 60))) (f6 (st x 60)) 3 u30 (u13 802) u8 u8 (u11 x.i.p 1232) u2 (u13 808) u8 0))
def afH:=M (u1 x.l0) (u3 (u4 [u11 x.c.r 1258,u11 x.i.q 1259,u11 x.f.k 1260,u11 x.d.n 1261,u11 x.i.r 1262,u11 x.i.s 1263,u11 x.f.o 1264,u11 x.b.w 1265,u11 x.b.q 1266]) 0)
def YW:=k28 x (st x 61)
def afS:=k6 x x.i.g 1255 x.i.g 1256 1257 393 2 810 811 812 813 814 1267 1268
def YK:=k29 x (st x 61) x.i.p 1232 815
def ab2:=k23 x x.c.r 1273 x.i.q 1274 x.f.k 1275 x.b.w 1276 x.f.j 1277
def agv:=k28 x (st x 62)
def afW:=k6 x x.i.h 1270 x.i.h 1271 1272 407 2 817 818 819 820 821 1278 1279
def adW:=k29 x (st x 62) x.i.p 1232 822
def aav:=k5 x x.c.l (st x 64) (st x 64)
def Ww:=k22 x x.c.l 1283 x.c.l 1284 1285 415 2 824 825 826 1286 1287
def afy:=k7 x x.c.l (st x 64) (st x 64) x.i.t 1281 827
def Wl:=k27 x x.f.i 1292 x.f.l 1293 x.b.k 1294 x.f.s 1295 x.f.n 1296 x.f.o 1297
def WJ:=k5 x x.i.i (st x 65) (st x 65)
def aeI:=k6 x x.i.i 1289 x.i.i 1290 1291 420 3 829 830 831 832 833 1298 1299
def ado:=k7 x x.i.i (st x 65) (st x 65) x.i.t 1281 834
def acs:=k21 x x.f.i 1304 x.b.q 1305 x.c.g 1306
def VQ:=k5 x x.i.j (st x 66) (st x 66)
def acq:=k6 x x.i.j 1301 x.i.j 1302 1303 427 2 836 837 838 839 840 1307 1308
def VY:=k7 x x.i.j (st x 66) (st x 66) x.i.t 1281 841
def ac2:=k27 x x.i.u 1313 x.i.c 1314 x.c.r 1315 x.b.w 1316 x.f.j 1317 x.i.v 1318
def VP:=k5 x x.i.k (st x 67) (st x 67)
def afi:=k6 x x.i.k 1310 x.i.k 1311 1312 434 1 843 844 845 846 847 1319 1320
def ab9:=k7 x x.i.k (st x 67) (st x 67) x.i.t 1281 848
def ZY:=k23 x x.c.r 1325 x.d.i 1326 x.i.w 1327 x.i.x 1328 x.b.w 1329
def agw:=k5 x x.i.l (st x 68) (st x 68)
def aaA:=k6 x x.i.l 1322 x.i.l 1323 1324 445 2 850 851 852 853 854 1330 1331
def abO:=k7 x x.i.l (st x 68) (st x 68) x.i.t 1281 855
def adY:=k16 x x.c.r 1336 x.b.w 1337
def Yz:=k5 x x.i.m (st x 69) (st x 69)
def V1:=k6 x x.i.m 1333 x.i.m 1334 1335 453 2 857 858 859 860 861 1338 1339
def aa6:=k7 x x.i.m (st x 69) (st x 69) x.i.t 1281 862
def adR:=k24 x x.c.r 1344 x.f.g 1345 x.b.q 1346 x.i.y 1347
def VT:=k5 x x.i.n (st x 70) (st x 70)
def aax:=k6 x x.i.n 1341 x.i.n 1342 1343 458 3 864 865 866 867 868 1348 1349
def W5:=k7 x x.i.n (st x 70) (st x 70) x.i.t 1281 869
abbrev afR:List DictEntry:=nf (ap (aah x) [E x x.j.a 1381 (u13 885),E x x.j.b 1388 (u13 896),E x x.j.c 1394 (u13 901),E x x.j.d 1404 (u13 908),E x x.j.e 1410 (u13 913),E x x.j.f 1416 (u13 918),E x x.j.g 1429 (u13 925)])
def alq:=M (u1 x.l3) (u20 (u21 (afR x)) 76)
abbrev abB:List Value:=nf (ap (YO x) [u12 466 0,u12 0 0,u13 876,u12 473 0,u12 0 0,u13 895,u12 476 0,u12 0 0,u13 900,u12 483 0,u12 0 0,u13 907,u12 491 0,u12 0 0,u13 912,u12 493 0,u12 0 0,u13 917,u12 495 0,u12 0 0,u13 924])
def ak5:=M u8 (u9 (u4 (abB x)))
def YQ:=k14 x 1360 x.i.d 1351 1362 x.j.a 1361 1364 466 1363 x.b.c 1370 882 1374 883
def YA:=k15 x 468 881
def abH:=k1 x x.j.a 1355 1356 1357 466 874 875 1358 1359
def VN:=k2 x 876 873 x.i.d 1351
def af7:=k17 x x.b.c x.j.h (sm x 72 0) (sm x 72 0)
def aaM:=k22 x x.b.c 1365 x.j.h 1366 1367 468 4 878 879 880 1368 1369
def afp:=k18 x x.b.c x.j.h (sm x 72 0) (sm x 72 0) x.i.d 1351 881
def XM:=k21 x x.j.i 1371 x.j.j 1372 x.j.k 1373
def aaS:=M (u1 x.l3) (u20 (u21 [E x x.a.v 1360 (u11 x.i.d 1351),E x x.a.x 1364 (u12 466 1363),E x x.b.c 1370 (u13 882),E x x.a.y 1374 (u13 883),E x x.d.q 1376 (u13 886),E x x.b.a 1378 (u13 887),E x x.a.f 1379 u8]) 4)
def WL:=k25 x x.j.a 885 884 1353 1361
def ago:=k26 x 1375 885
def ac7:=k10 x 1377 885
def Xb:=k11 x 885
def aa0:=k12 x 885
def QL:=k4 x x.c.o 1385
def Qm:=k5 x x.j.b (st x 73) (st x 73)
def PM:=k6 x x.j.b 1382 x.j.b 1383 1384 473 1 890 891 892 893 894 1386 1387
def UC:=k7 x x.j.b (st x 73) (st x 73) x.i.d 1351 895
def RQ:=k5 x x.j.c (st x 74) (st x 74)
def NI:=k22 x x.j.c 1389 x.j.c 1390 1391 476 2 897 898 899 1392 1393
def Sb:=k7 x x.j.c (st x 74) (st x 74) x.i.d 1351 900
def Rv:=k24 x x.j.l 1398 x.j.m 1399 x.b.q 1400 x.b.e 1401
def P8:=k28 x (st x 75)
def ND:=k6 x x.j.d 1395 x.j.d 1396 1397 483 1 902 903 904 905 906 1402 1403
def SI:=k29 x (st x 75) x.i.d 1351 907
def Ss:=k5 x x.j.e (st x 76) (st x 76)
def Py:=k22 x x.j.e 1405 x.j.e 1406 1407 491 1 909 910 911 1408 1409
def RG:=k7 x x.j.e (st x 76) (st x 76) x.i.d 1351 912
def Rf:=k5 x x.j.f (st x 77) (st x 77)
def R4:=k22 x x.j.f 1411 x.j.f 1412 1413 493 2 914 915 916 1414 1415
def O3:=k7 x x.j.f (st x 77) (st x 77) x.i.d 1351 917
def RA:=k34 x x.j.n 1420 x.j.l 1421 x.f.r 1422 x.j.o 1423 x.b.q 1424 x.b.t 1425 x.d.x 1426
def Uu:=k5 x x.j.g (st x 78) (st x 78)
def Pf:=k6 x x.j.g 1417 x.j.g 1418 1419 495 2 919 920 921 922 923 1427 1428
def Rh:=k7 x x.j.g (st x 78) (st x 78) x.i.d 1351 924
abbrev agk:List DictEntry:=nf (ap (sz (afR x) 0 (E x x.a.d 165 (u11 x.j.p 1480))) [E x x.j.q 1437 (u13 932),E x x.j.r 1448 (u13 939),E x x.j.s 1459 (u13 946),E x x.j.t 1467 (u13 951),E x x.j.u 1473 (u13 956),E x x.j.v 1479 (u13 961)])
def aho:=M (u1 x.l3) (u20 (u21 (agk x)) 82)
abbrev W6:List Value:=nf (ap (abB x) [u12 506 0,u12 0 0,u13 931,u12 508 0,u12 0 0,u13 938,u12 511 0,u12 0 0,u13 945,u12 519 0,u12 0 0,u13 950,u12 536 0,u12 0 0,u13 955,u12 541 0,u12 0 0,u13 960])
def aiL:=M u8 (u9 (u4 (W6 x)))
def Of:=k16 x x.j.n 1433 x.d.x 1434
def Si:=k5 x x.j.q (st x 79) (st x 79)
def Ov:=k6 x x.j.q 1430 x.j.q 1431 1432 506 2 926 927 928 929 930 1435 1436
def Rq:=k7 x x.j.q (st x 79) (st x 79) x.i.d 1351 931
def RT:=k23 x x.j.n 1441 x.b.q 1442 x.d.x 1443 x.i.o 1444 x.j.w 1445
def Oz:=k5 x x.j.r (st x 80) (st x 80)
def QK:=k6 x x.j.r 1438 x.j.r 1439 1440 508 4 933 934 935 936 937 1446 1447
def NZ:=k7 x x.j.r (st x 80) (st x 80) x.i.d 1351 938
def S3:=k23 x x.j.n 1452 x.j.l 1453 x.j.x 1454 x.b.q 1455 x.d.x 1456
def OG:=k5 x x.j.s (st x 81) (st x 81)
def Tj:=k6 x x.j.s 1449 x.j.s 1450 1451 511 2 940 941 942 943 944 1457 1458
def Pq:=k7 x x.j.s (st x 81) (st x 81) x.i.d 1351 945
def OP:=k5 x x.j.t (st x 83) (st x 83)
def PJ:=k22 x x.j.t 1462 x.j.t 1463 1464 519 1 947 948 949 1465 1466
def RS:=k7 x x.j.t (st x 83) (st x 83) x.j.y 1460 950
def OX:=k5 x x.j.u (st x 84) (st x 84)
def TQ:=k22 x x.j.u 1468 x.j.u 1469 1470 536 4 952 953 954 1471 1472
def Qf:=k7 x x.j.u (st x 84) (st x 84) x.j.y 1460 955
def TX:=k5 x x.j.v (st x 85) (st x 85)
def Pc:=k22 x x.j.v 1474 x.j.v 1475 1476 541 3 957 958 959 1477 1478
def T9:=k7 x x.j.v (st x 85) (st x 85) x.j.y 1460 960
abbrev ad4:List DictEntry:=nf (ap (agk x) [E x x.k.a 1530 (u13 962),E x x.k.b 1534 (u13 976),E x x.k.c 1543 (u13 983),E x x.k.d 1549 (u13 988),E x x.k.e 1557 (u13 995),E x x.k.f 1565 (u13 1002),E x x.k.g 1573 (u13 1009)])
def ail:=M (u1 x.l3) (u20 (u21 (ad4 x)) 89)
abbrev abf:List Value:=nf (ap (W6 x) [u12 546 0,u12 0 0,u13 982,u12 553 0,u12 0 0,u13 987,u12 563 0,u12 0 0,u13 994,u12 566 0,u12 0 0,u13 1001,u12 568 0,u12 0 0,u13 1008])
def aiW:=M u8 (u9 (u4 (abf x)))
def Qa:=M (u1 x.l3) (u20 (u21 [E x x.k.h 1482 (u13 963),E x x.k.i 1485 (u13 964),E x x.k.j 1488 (u13 965),E x x.k.k 1491 (u13 966),E x x.k.l 1494 (u13 967),E x x.k.m 1497 (u13 968),E x x.k.n 1500 (u13 969),E x x.c.v 1503 (u13 970),E x x.k.o 1506 (u13 971),E x x.k.p 1509 (u13 972),E x x.f.p 1511 (u13 973),E x x.i.o 1513 (u13 974),E x x.k.q 1515 (u13 975)]) 13)
def Ra:=k35 x 1 1483 1484
def RI:=k35 x 0 1486 1487
def OZ:=k35 x 2 1489 1490
def RB:=k35 x 4 1492 1493
def Sy:=k35 x 2 1495 1496
def NB:=k35 x 0 1498 1499
def Qd:=k35 x 1 1501 1502
def O7:=k35 x 2 1504 1505
def Pg:=k35 x 1 1507 1508
def Sd:=k36 x 1 1510
def O9:=k36 x 1 1512
def Pw:=k36 x 1 1514
def Ot:=k36 x 6 1516
def Sl:=k21 x x.k.r 1531 x.k.s 1532 x.d.n 1533
def Te:=k21 x x.e.r 1538 x.k.t 1539 x.i.y 1540
def RZ:=k5 x x.k.c (st x 89) (st x 89)
def Td:=k6 x x.k.c 1535 x.k.c 1536 1537 546 1 977 978 979 980 981 1541 1542
def SQ:=k7 x x.k.c (st x 89) (st x 89) x.j.p 1480 982
def Oe:=k28 x (st x 90)
def QI:=k22 x x.k.d 1544 x.k.d 1545 1546 553 2 984 985 986 1547 1548
def Ry:=k29 x (st x 90) x.j.p 1480 987
def SD:=k16 x x.b.e 1553 x.g.d 1554
def NS:=k5 x x.k.e (st x 91) (st x 91)
def R7:=k6 x x.k.e 1550 x.k.e 1551 1552 563 2 989 990 991 992 993 1555 1556
def RE:=k7 x x.k.e (st x 91) (st x 91) x.j.p 1480 994
def S0:=k16 x x.c.o 1561 x.k.u 1562
def Qx:=k5 x x.k.f (st x 92) (st x 92)
def NH:=k6 x x.k.f 1558 x.k.f 1559 1560 566 2 996 997 998 999 1000 1563 1564
def OW:=k7 x x.k.f (st x 92) (st x 92) x.j.p 1480 1001
def Sj:=k16 x x.b.e 1569 x.f.s 1570
def P4:=k5 x x.k.g (st x 93) (st x 93)
def Sw:=k6 x x.k.g 1566 x.k.g 1567 1568 568 2 1003 1004 1005 1006 1007 1571 1572
def Qy:=k7 x x.k.g (st x 93) (st x 93) x.j.p 1480 1008
abbrev aeb:List DictEntry:=nf (ap (sz (ad4 x) 0 (E x x.a.d 165 (u11 x.k.v 1574))) [E x x.k.w 1603 (u13 1026)])
def aia:=M (u1 x.l3) (u20 (u21 (aeb x)) 90)
abbrev XY:List Value:=nf (ap (abf x) [u12 575 0,u12 0 0,u13 1015])
def ahS:=M u8 (u9 (u4 (XY x)))
def Tt:=k14 x 1583 x.k.v 1574 1585 x.k.w 1584 1587 575 1586 x.k.x 1595 1023 1596 1024
def UG:=k15 x 577 1022
def Rm:=k1 x x.k.w 1578 1579 1580 575 1013 1014 1581 1582
def NY:=k2 x 1015 1012 x.k.v 1574
def Pd:=k16 x x.b.d 1591 x.h.g 1592
def Se:=k17 x x.k.x x.k.y (sm x 95 0) (sm x 95 0)
def Ui:=k6 x x.k.x 1588 x.k.y 1589 1590 577 2 1017 1018 1019 1020 1021 1593 1594
def RC:=k18 x x.k.x x.k.y (sm x 95 0) (sm x 95 0) x.k.v 1574 1022
def Tv:=M (u1 x.l3) (u20 (u21 [E x x.a.v 1583 (u11 x.k.v 1574),E x x.a.x 1587 (u12 575 1586),E x x.k.x 1595 (u13 1023),E x x.a.y 1596 (u13 1024),E x x.d.q 1598 (u13 1027),E x x.b.a 1600 (u13 1028),E x x.a.f 1601 u8]) 4)
def ahG:=k25 x x.k.w 1026 1025 1576 1584
def NP:=k26 x 1597 1026
def Pe:=k10 x 1599 1026
def Rb:=k11 x 1026
def Oi:=k12 x 1026
abbrev ad2:List DictEntry:=nf (ap (aeb x) [E x x.l.a 1636 (u13 1054)])
def ajd:=M (u1 x.l3) (u20 (u21 (ad2 x)) 91)
abbrev abR:List Value:=nf (ap (XY x) [u12 579 0,u12 0 0,u13 1036])
def ai4:=M u8 (u9 (u4 (abR x)))
abbrev Es:List (Option Value):=nf (sz (sz (MK x) 2 (u18 (u11 x.k.w 1576))) 3 (u18 (u11 x.k.w 1584)))
def ahn:=u0 (u1 x.l9) u2 (u32 (u33 x.k.w [u1 x.l12] [u13 1026,u1 x.l12] 1025 x.k.w u31 u34 [u13 1054] u15 u35 u15)) (u6 (Es x))
def m8:=k13 x 1026
def Rn:=k37 x 1611 x.k.v 1574 1613 x.l.a 1612 1615 579 1614 1623 1044 x.k.x 1631 1051 1633 1052
def OI:=k3 x 581 4 1043 586 1050
def Uw:=k1 x x.l.a 1606 1607 1608 579 1034 1035 1609 1610
def S4:=k2 x 1036 1033 x.k.v 1574
def SM:=k16 x x.b.d 1619 x.c.o 1620
def SA:=k17 x x.b.c x.l.b (sm x 96 0) (sm x 96 0)
def OY:=k6 x x.b.c 1616 x.l.b 1617 1618 581 2 1038 1039 1040 1041 1042 1621 1622
def RO:=k18 x x.b.c x.l.b (sm x 96 0) (sm x 96 0) x.k.v 1574 1043
def RY:=k16 x x.b.d 1627 x.h.g 1628
def QW:=k17 x x.k.x x.l.c (sm x 96 1) (sm x 96 1)
def NU:=k6 x x.k.x 1624 x.l.c 1625 1626 586 2 1045 1046 1047 1048 1049 1629 1630
def NG:=k18 x x.k.x x.l.c (sm x 96 1) (sm x 96 1) x.k.v 1574 1050
def Pn:=k4 x x.c.o 1632
def Tr:=k38 x 1611 1615 579 1614 1623 1044 1631 1051 1633 1052 1634
def NC:=k33 x x.l.a 1026 1054 1053 1031 1604 1612
def Tp:=k11 x 1054
def Po:=k12 x 1054
abbrev V8:List DictEntry:=nf (ap (ad2 x) [E x x.l.d 1673 (u13 1081)])
def ajU:=M (u1 x.l3) (u20 (u21 (V8 x)) 92)
abbrev XT:List Value:=nf (ap (abR x) [u12 588 0,u12 0 0,u13 1062])
def aic:=M u8 (u9 (u4 (XT x)))
def aiY:=u0 (u1 x.l9) u2 (u32 (u33 x.k.w [u1 x.l12] [u13 1026,u1 x.l12] 1025 x.k.w u31 u34 [u13 1054,u13 1081] u15 u35 u15)) (u6 (Es x))
def Qq:=k37 x 1644 x.k.v 1574 1646 x.l.d 1645 1648 588 1647 1657 1071 x.k.x 1667 1078 1670 1079
def Qt:=k3 x 590 4 1070 598 1077
def Ub:=k1 x x.l.d 1639 1640 1641 588 1060 1061 1642 1643
def NT:=k2 x 1062 1059 x.k.v 1574
def OB:=k21 x x.b.d 1652 x.l.e 1653 x.c.o 1654
def PR:=k17 x x.b.c x.l.f (sm x 97 0) (sm x 97 0)
def Uk:=k6 x x.b.c 1649 x.l.f 1650 1651 590 3 1065 1066 1067 1068 1069 1655 1656
def Ox:=k32 x x.b.c x.l.f (sm x 97 0) 1064 x.k.v 1574 1070
def Uv:=k24 x x.b.d 1661 x.h.g 1662 x.l.g 1663 x.b.q 1664
def T6:=k17 x x.k.x x.l.h (sm x 97 1) (sm x 97 1)
def Qc:=k6 x x.k.x 1658 x.l.h 1659 1660 598 2 1072 1073 1074 1075 1076 1665 1666
def Qe:=k18 x x.k.x x.l.h (sm x 97 1) (sm x 97 1) x.k.v 1574 1077
def T7:=k16 x x.c.o 1668 x.l.e 1669
def UH:=k38 x 1644 1648 588 1647 1657 1071 1667 1078 1670 1079 1671
def So:=k33 x x.l.d 1026 1081 1080 1057 1637 1645
def Qj:=k11 x 1081
def PD:=k12 x 1081
abbrev abA:List DictEntry:=nf (ap (V8 x) [E x x.l.i 1708 (u13 1107)])
def ahw:=M (u1 x.l3) (u20 (u21 (abA x)) 93)
abbrev acd:List Value:=nf (ap (XT x) [u12 604 0,u12 0 0,u13 1089])
def ahj:=M u8 (u9 (u4 (acd x)))
def aiI:=u0 (u1 x.l9) u2 (u32 (u33 x.k.w [u1 x.l12] [u13 1026,u1 x.l12] 1025 x.k.w u31 u34 [u13 1054,u13 1081,u13 1107] u15 u35 u15)) (u6 (Es x))
def S5:=k37 x 1681 x.k.v 1574 1683 x.l.i 1682 1685 604 1684 1693 1097 x.k.x 1703 1104 1705 1105
def OJ:=k3 x 606 4 1096 611 1103
def TU:=k1 x x.l.i 1676 1677 1678 604 1087 1088 1679 1680
def NJ:=k2 x 1089 1086 x.k.v 1574
def OR:=k16 x x.b.d 1689 x.l.j 1690
def Nz:=k17 x x.b.c x.l.k (sm x 98 0) (sm x 98 0)
def Tg:=k6 x x.b.c 1686 x.l.k 1687 1688 606 2 1091 1092 1093 1094 1095 1691 1692
def SY:=k18 x x.b.c x.l.k (sm x 98 0) (sm x 98 0) x.k.v 1574 1096
def Pk:=k24 x x.b.d 1697 x.h.g 1698 x.l.l 1699 x.b.q 1700
def QF:=k17 x x.k.x x.l.m (sm x 98 1) (sm x 98 1)
def Ua:=k6 x x.k.x 1694 x.l.m 1695 1696 611 2 1098 1099 1100 1101 1102 1701 1702
def Pp:=k18 x x.k.x x.l.m (sm x 98 1) (sm x 98 1) x.k.v 1574 1103
def Tc:=k4 x x.l.j 1704
def Up:=k38 x 1681 1685 604 1684 1693 1097 1703 1104 1705 1105 1706
def SX:=k33 x x.l.i 1026 1107 1106 1084 1674 1682
def RV:=k11 x 1107
def RU:=k12 x 1107
abbrev acK:List DictEntry:=nf (ap (abA x) [E x x.l.n 1737 (u13 1129)])
def aka:=M (u1 x.l3) (u20 (u21 (acK x)) 94)
abbrev afG:List Value:=nf (ap (acd x) [u12 617 0,u12 0 0,u13 1115])
def ahF:=M u8 (u9 (u4 (afG x)))
abbrev VG(x:X):List Value:=[u13 1054,u13 1081,u13 1107,u13 1129]
def ajG:=u0 (u1 x.l9) u2 (u32 (u33 x.k.w [u1 x.l12] [u13 1026,u1 x.l12] 1025 x.k.w u31 u34 (VG x) u15 u35 u15)) (u6 (Es x))
def Sh:=k37 x 1716 x.k.v 1574 1718 x.l.n 1717 1720 617 1719 1726 1121 x.k.x 1732 1126 1734 1127
def PY:=k3 x 619 4 1120 622 1125
def Qh:=k1 x x.l.n 1711 1712 1713 617 1113 1114 1714 1715
def Tf:=k2 x 1115 1112 x.k.v 1574
def PU:=k17 x x.b.c x.l.o (sm x 99 0) (sm x 99 0)
def QV:=k22 x x.b.c 1721 x.l.o 1722 1723 619 2 1117 1118 1119 1724 1725
def RH:=k18 x x.b.c x.l.o (sm x 99 0) (sm x 99 0) x.k.v 1574 1120
def RX:=k17 x x.k.x x.l.p (sm x 99 1) (sm x 99 1)
def R0:=k22 x x.k.x 1727 x.l.p 1728 1729 622 2 1122 1123 1124 1730 1731
def P9:=k18 x x.k.x x.l.p (sm x 99 1) (sm x 99 1) x.k.v 1574 1125
def Uh:=k4 x x.l.q 1733
def Pu:=k38 x 1716 1720 617 1719 1726 1121 1732 1126 1734 1127 1735
def Sg:=k33 x x.l.n 1026 1129 1128 1110 1709 1717
def OU:=k11 x 1129
def QG:=k12 x 1129
abbrev aeJ:List DictEntry:=nf (ap (sz (acK x) 0 (E x x.a.d 165 (u11 x.l.r 1791))) [E x x.l.s 1768 (u13 1153),E x x.l.t 1776 (u13 1162),E x x.l.u 1784 (u13 1167),E x x.l.v 1790 (u13 1172),E x x.l.w 1798 (u13 1177)])
def ajZ:=M (u1 x.l3) (u20 (u21 (aeJ x)) 99)
abbrev agS:List Value:=nf (ap (afG x) [u12 624 0,u12 0 0,u13 1137,u12 635 0,u12 0 0,u13 1161,u12 638 0,u12 0 0,u13 1166,u12 642 0,u12 0 0,u13 1171,u12 660 0,u12 0 0,u13 1176])
def ajV:=M u8 (u9 (u4 (agS x)))
def Od:=u0 (u1 x.l9) u2 (u32 (u33 x.k.w [u1 x.l12] [u13 1026,u1 x.l12] 1025 x.k.w u31 u34 ((nf (ap (VG x) [u13 1153]))) u15 u35 u15)) (u6 (Es x))
def OH:=k37 x 1745 x.k.v 1574 1747 x.l.s 1746 1749 624 1748 1757 1145 x.k.x 1763 1150 1765 1151
def QS:=k3 x 626 4 1144 629 1149
def UE:=k1 x x.l.s 1740 1741 1742 624 1135 1136 1743 1744
def Rc:=k2 x 1137 1134 x.k.v 1574
def Ri:=k16 x x.b.d 1753 x.l.x 1754
def Oh:=k17 x x.b.c x.l.y (sm x 100 0) (sm x 100 0)
def Uq:=k6 x x.b.c 1750 x.l.y 1751 1752 626 2 1139 1140 1141 1142 1143 1755 1756
def SN:=k18 x x.b.c x.l.y (sm x 100 0) (sm x 100 0) x.k.v 1574 1144
def OE:=k17 x x.k.x x.m.a (sm x 100 1) (sm x 100 1)
def Ul:=k22 x x.k.x 1758 x.m.a 1759 1760 629 2 1146 1147 1148 1761 1762
def Ql:=k18 x x.k.x x.m.a (sm x 100 1) (sm x 100 1) x.k.v 1574 1149
def S9:=k4 x x.l.x 1764
def ON:=k38 x 1745 1749 624 1748 1757 1145 1763 1150 1765 1151 1766
def NQ:=k33 x x.l.s 1026 1153 1152 1132 1738 1746
def NK:=k11 x 1153
def SV:=k12 x 1153
def Rl:=k16 x x.h.g 1772 x.c.o 1773
def Sq:=k5 x x.l.t (st x 101) (st x 101)
def Oo:=k6 x x.l.t 1769 x.l.t 1770 1771 635 2 1156 1157 1158 1159 1160 1774 1775
def RP:=k7 x x.l.t (st x 101) (st x 101) x.k.v 1574 1161
def Rt:=k5 x x.l.u (st x 103) (st x 103)
def Ug:=k22 x x.l.u 1779 x.l.u 1780 1781 638 1 1163 1164 1165 1782 1783
def SO:=k7 x x.l.u (st x 103) (st x 103) x.m.b 1777 1166
def P6:=k28 x (st x 104)
def Sm:=k22 x x.l.v 1785 x.l.v 1786 1787 642 1 1168 1169 1170 1788 1789
def PL:=k29 x (st x 104) x.m.b 1777 1171
def Rx:=k5 x x.l.w (st x 106) (st x 106)
def Qz:=k22 x x.l.w 1793 x.l.w 1794 1795 660 2 1173 1174 1175 1796 1797
def QX:=k7 x x.l.w (st x 106) (st x 106) x.l.r 1791 1176
abbrev aed:List DictEntry:=nf (ap (sz (aeJ x) 0 (E x x.a.d 165 (u11 x.m.c 1851))) [E x x.m.d 1809 (u13 1184),E x x.m.e 1815 (u13 1189),E x x.m.f 1822 (u13 1196),E x x.m.g 1828 (u13 1201),E x x.m.h 1836 (u13 1206),E x x.m.i 1850 (u13 1213)])
def Ru:=M (u1 x.l3) (u20 (u21 (aed x)) 105)
abbrev ag3:List Value:=nf (ap (agS x) [u12 672 0,u12 0 0,u13 1183,u12 678 0,u12 0 0,u13 1188,u12 687 0,u12 0 0,u13 1195,u12 689 0,u12 0 0,u13 1200,u12 698 0,u12 0 0,u13 1205,u12 708 0,u12 0 0,u13 1212])
def ahU:=M u8 (u9 (u4 (ag3 x)))
def TJ:=k23 x x.c.r 1802 x.m.j 1803 x.m.k 1804 x.m.l 1805 x.b.q 1806
def SH:=k5 x x.m.d (st x 107) (st x 107)
def UB:=k6 x x.m.d 1799 x.m.d 1800 1801 672 2 1178 1179 1180 1181 1182 1807 1808
def OA:=k7 x x.m.d (st x 107) (st x 107) x.l.r 1791 1183
def RL:=k5 x x.m.e (st x 108) (st x 108)
def O2:=k22 x x.m.e 1810 x.m.e 1811 1812 678 2 1185 1186 1187 1813 1814
def Pz:=k7 x x.m.e (st x 108) (st x 108) x.l.r 1791 1188
def SJ:=k4 x x.i.c 1819
def OQ:=k28 x (st x 109)
def Ol:=k6 x x.m.f 1816 x.m.f 1817 1818 687 1 1190 1191 1192 1193 1194 1820 1821
def RW:=k29 x (st x 109) x.l.r 1791 1195
def QJ:=k5 x x.m.g (st x 110) (st x 110)
def TZ:=k22 x x.m.g 1823 x.m.g 1824 1825 689 2 1197 1198 1199 1826 1827
def OM:=k7 x x.m.g (st x 110) (st x 110) x.l.r 1791 1200
def Qu:=k5 x x.m.h (st x 112) (st x 112)
def T5:=k22 x x.m.h 1831 x.m.h 1832 1833 698 2 1202 1203 1204 1834 1835
def Ny:=k7 x x.m.h (st x 112) (st x 112) x.m.m 1829 1205
def Rp:=k30 x x.c.r 1840 x.m.n 1841 x.f.g 1842 x.m.j 1843 x.m.o 1844 x.m.p 1845 x.m.k 1846 x.b.w 1847
def S6:=k5 x x.m.i (st x 113) (st x 113)
def P5:=k6 x x.m.i 1837 x.m.i 1838 1839 708 3 1207 1208 1209 1210 1211 1848 1849
def QE:=k7 x x.m.i (st x 113) (st x 113) x.m.m 1829 1212
abbrev abC:List DictEntry:=nf (ap (aed x) [E x x.m.q 2083 (u13 1384)])
def ahd:=M (u1 x.l3) (u20 (u21 (abC x)) 106)
abbrev Na:List Value:=nf (ap (ag3 x) [u12 717 0,u12 0 0,u13 1219])
def ajJ:=M u8 (u9 (u4 (Na x)))
def NW:=M (u1 x.l3) (u20 (u21 [E x x.a.v 1860 (u11 x.m.c 1851),E x x.a.w 1862 (u11 x.m.q 1861),E x x.a.x 1864 (u12 717 1863),E x x.b.c 1875 (u13 1227),E x x.c.y 1883 (u13 1234),E x x.m.r 1890 (u13 1241),E x x.m.s 1900 (u13 1248),E x x.k.h 1908 (u13 1255),E x x.k.i 1922 (u13 1262),E x x.k.j 1934 (u13 1269),E x x.m.t 1941 (u13 1276),E x x.k.m 1948 (u13 1283),E x x.f.s 1956 (u13 1290),E x x.f.j 1965 (u13 1297),E x x.k.k 1977 (u13 1304),E x x.k.l 1987 (u13 1311),E x x.k.o 1995 (u13 1318),E x x.f.i 2003 (u13 1326),E x x.k.p 2012 (u13 1334),E x x.m.u 2020 (u13 1341),E x x.m.v 2027 (u13 1348),E x x.m.w 2035 (u13 1355),E x x.m.x 2044 (u13 1362),E x x.m.y 2052 (u13 1369),E x x.n.a 2061 (u13 1376),E x x.i.v 2067 (u13 1381),E x x.a.y 2076 (u13 1382)]) 27)
def PB(x:X):Obj:=M u8 (u9 (u4 [u12 719 0,u12 4 0,u13 1226,u12 729 0,u12 4 0,u13 1233,u12 732 0,u12 4 0,u13 1240,u12 735 0,u12 4 0,u13 1247,u12 741 0,u12 4 0,u13 1254,u12 746 0,u12 4 0,u13 1261,u12 756 0,u12 4 0,u13 1268,u12 765 0,u12 4 0,u13 1275,u12 768 0,u12 4 0,u13 1282,u12 771 0,u12 4 0,u13 1289,u12 775 0,u12 4 0,u13 1296,u12 779 0,u12 4 0,u13 1303,u12 783 0,u12 4 0,u13 1310,u12 790 0,u12 4 0,u13 1317,u12 794 0,u12 4 0,u13 1325,u12 797 0,u12 4 0,u13 1333,u12 800 0,u12 4 0,u13 1340,u12 804 0,u12 4 0,u13 1347,u12 807 0,u12 4 0,u13 1354,u12 812 0,u12 4 0,u13 1361,u12 823 0,u12 4 0,u13 1368,u12 827 0,u12 4 0,u13 1375,u12 832 0,u12 4 0,u13 1380]))
def UA:=k1 x x.m.q 1855 1856 1857 717 1217 1218 1858 1859
def OF:=k2 x 1219 1216 x.m.c 1851
def Qo:=k23 x x.b.d 1868 x.b.h 1869 x.m.n 1870 x.f.e 1871 x.f.f 1872
def To:=k17 x x.b.c x.n.b (sm x 115 0) (sm x 115 0)
def Qp:=k6 x x.b.c 1865 x.n.b 1866 1867 719 5 1221 1222 1223 1224 1225 1873 1874
def Pj:=k18 x x.b.c x.n.b (sm x 115 0) (sm x 115 0) x.m.c 1851 1226
def RJ:=k16 x x.b.d 1879 x.n.c 1880
def Ti:=k17 x x.c.y x.n.d (sm x 115 1) (sm x 115 1)
def Uj:=k6 x x.c.y 1876 x.n.d 1877 1878 729 2 1228 1229 1230 1231 1232 1881 1882
def Qn:=k18 x x.c.y x.n.d (sm x 115 1) (sm x 115 1) x.m.c 1851 1233
def TN:=k4 x x.b.d 1887
def QU:=k17 x x.m.r x.n.e (sm x 115 2) (sm x 28 0)
def NO:=k6 x x.m.r 1884 x.n.e 1885 1886 732 1 1235 1236 1237 1238 1239 1888 1889
def Sz:=k18 x x.m.r x.n.e (sm x 115 2) (sm x 28 0) x.m.c 1851 1240
def O8:=k24 x x.b.d 1894 x.b.e 1895 x.f.j 1896 x.b.w 1897
def Tu:=k17 x x.m.s x.n.f (sm x 115 3) (sm x 115 3)
def SG:=k6 x x.m.s 1891 x.n.f 1892 1893 735 2 1242 1243 1244 1245 1246 1898 1899
def Qk:=k18 x x.m.s x.n.f (sm x 115 3) (sm x 115 3) x.m.c 1851 1247
def Sx:=k16 x x.b.d 1904 x.b.q 1905
def Um:=k17 x x.k.h x.n.g (sm x 115 4) (sm x 115 4)
def Su:=k6 x x.k.h 1901 x.n.g 1902 1903 741 2 1249 1250 1251 1252 1253 1906 1907
def TV:=k18 x x.k.h x.n.g (sm x 115 4) (sm x 115 4) x.m.c 1851 1254
def SR:=k30 x x.b.d 1912 x.m.n 1913 x.i.y 1914 x.m.l 1915 x.b.w 1916 x.d.h 1917 x.d.i 1918 x.n.h 1919
def NX:=k17 x x.k.i x.n.i (sm x 115 5) (sm x 115 5)
def Px:=k6 x x.k.i 1909 x.n.i 1910 1911 746 1 1256 1257 1258 1259 1260 1920 1921
def QH:=k18 x x.k.i x.n.i (sm x 115 5) (sm x 115 5) x.m.c 1851 1261
def Uy:=k27 x x.b.d 1926 x.c.r 1927 x.c.o 1928 x.n.j 1929 x.n.k 1930 x.n.l 1931
def Oj:=k17 x x.k.j x.n.m (sm x 115 6) (sm x 115 6)
def O6:=k6 x x.k.j 1923 x.n.m 1924 1925 756 3 1263 1264 1265 1266 1267 1932 1933
def SE:=k18 x x.k.j x.n.m (sm x 115 6) (sm x 115 6) x.m.c 1851 1268
def Ur:=k4 x x.b.d 1938
def S7:=k17 x x.m.t x.n.n (sm x 115 7) (sm x 28 5)
def PN:=k6 x x.m.t 1935 x.n.n 1936 1937 765 1 1270 1271 1272 1273 1274 1939 1940
def Om:=k18 x x.m.t x.n.n (sm x 115 7) (sm x 28 5) x.m.c 1851 1275
def Tw:=k4 x x.b.d 1945
def RM:=k17 x x.k.m x.n.o (sm x 115 8) (sm x 115 8)
def P0:=k6 x x.k.m 1942 x.n.o 1943 1944 768 1 1277 1278 1279 1280 1281 1946 1947
def Qw:=k18 x x.k.m x.n.o (sm x 115 8) (sm x 115 8) x.m.c 1851 1282
def NR:=k16 x x.b.d 1952 x.c.r 1953
def RD:=k17 x x.f.s x.n.p (sm x 115 9) (sm x 22 0)
def QN:=k6 x x.f.s 1949 x.n.p 1950 1951 771 2 1284 1285 1286 1287 1288 1954 1955
def QM:=k18 x x.f.s x.n.p (sm x 115 9) (sm x 22 0) x.m.c 1851 1289
def TM:=k21 x x.b.d 1960 x.c.r 1961 x.b.w 1962
def PZ:=k17 x x.f.j x.n.q (sm x 115 10) (sm x 115 10)
def Ut:=k6 x x.f.j 1957 x.n.q 1958 1959 775 3 1291 1292 1293 1294 1295 1963 1964
def Qi:=k18 x x.f.j x.n.q (sm x 115 10) (sm x 115 10) x.m.c 1851 1296
def RK:=k27 x x.b.d 1969 x.c.r 1970 x.b.w 1971 x.c.a 1972 x.g.b 1973 x.n.r 1974
def OS:=k17 x x.k.k x.n.s (sm x 115 11) (sm x 115 11)
def Sv:=k6 x x.k.k 1966 x.n.s 1967 1968 779 5 1298 1299 1300 1301 1302 1975 1976
def OD:=k18 x x.k.k x.n.s (sm x 115 11) (sm x 115 11) x.m.c 1851 1303
def Pb:=k24 x x.b.d 1981 x.c.r 1982 x.d.i 1983 x.i.y 1984
def R8:=k17 x x.k.l x.n.t (sm x 115 12) (sm x 115 12)
def Ob:=k6 x x.k.l 1978 x.n.t 1979 1980 783 3 1305 1306 1307 1308 1309 1985 1986
def Ue:=k18 x x.k.l x.n.t (sm x 115 12) (sm x 115 12) x.m.c 1851 1310
def Ou:=k16 x x.b.d 1991 x.c.r 1992
def Th:=k17 x x.k.o x.n.u (sm x 115 13) (sm x 115 13)
def S8:=k6 x x.k.o 1988 x.n.u 1989 1990 790 2 1312 1313 1314 1315 1316 1993 1994
def Oa:=k18 x x.k.o x.n.u (sm x 115 13) (sm x 115 13) x.m.c 1851 1317
def Oq:=k16 x x.b.d 1999 x.n.v 2000
def O1:=k17 x x.f.i x.n.w (sm x 115 14) (sm x 115 14)
def T4:=k6 x x.f.i 1996 x.n.w 1997 1998 794 2 1320 1321 1322 1323 1324 2001 2002
def Qg:=k32 x x.f.i x.n.w (sm x 115 14) 1319 x.m.c 1851 1325
def QA:=k21 x x.b.d 2007 x.b.q 2008 x.n.v 2009
def P7:=k17 x x.k.p x.n.x (sm x 115 15) (sm x 115 15)
def TY:=k6 x x.k.p 2004 x.n.x 2005 2006 797 3 1328 1329 1330 1331 1332 2010 2011
def Qv:=k32 x x.k.p x.n.x (sm x 115 15) 1327 x.m.c 1851 1333
def P1:=k16 x x.b.d 2016 x.c.r 2017
def QT:=k17 x x.m.u x.n.y (sm x 115 16) (sm x 115 16)
def QZ:=k6 x x.m.u 2013 x.n.y 2014 2015 800 2 1335 1336 1337 1338 1339 2018 2019
def OV:=k18 x x.m.u x.n.y (sm x 115 16) (sm x 115 16) x.m.c 1851 1340
def Qs:=k4 x x.b.d 2024
def Sa:=M u8 (u27 (u28 (f0 (sm x 115 17)) x.o.a (f1 (sm x 115 17)) (u29 (f2 (sm x 115 17))) (f6 (sm x 115 17)) 0 u30 u8 u8 u8 u8 u2 u8 u8 0))
def TF:=k6 x x.m.v 2021 x.o.a 2022 2023 804 1 1342 1343 1344 1345 1346 2025 2026
def OC:=M (u1 x.l5) (u27 (u28 (f0 (sm x 115 17)) x.o.a (f1 (sm x 115 17)) (u29 (f2 (sm x 115 17))) (f6 (sm x 115 17)) 3 u30 u8 u8 u8 (u11 x.m.c 1851) u2 (u13 1347) u8 0))
def Uo:=k16 x x.b.d 2031 x.b.e 2032
def Sk:=k17 x x.m.w x.o.b (sm x 115 18) (sm x 115 18)
def SS:=k6 x x.m.w 2028 x.o.b 2029 2030 807 2 1349 1350 1351 1352 1353 2033 2034
def OT:=k18 x x.m.w x.o.b (sm x 115 18) (sm x 115 18) x.m.c 1851 1354
def T8:=k21 x x.b.d 2039 x.b.e 2040 x.b.t 2041
def UD:=k17 x x.m.x x.o.c (sm x 115 19) (sm x 115 19)
def Ph:=k6 x x.m.x 2036 x.o.c 2037 2038 812 2 1356 1357 1358 1359 1360 2042 2043
def O5:=k18 x x.m.x x.o.c (sm x 115 19) (sm x 115 19) x.m.c 1851 1361
def Tn:=k16 x x.b.d 2048 x.n.l 2049
def O4:=k17 x x.m.y x.o.d (sm x 115 20) (sm x 115 20)
def Tz:=k6 x x.m.y 2045 x.o.d 2046 2047 823 2 1363 1364 1365 1366 1367 2050 2051
def PK:=k18 x x.m.y x.o.d (sm x 115 20) (sm x 115 20) x.m.c 1851 1368
def Sn:=k21 x x.b.d 2056 x.d.h 2057 x.d.i 2058
def Oc:=k17 x x.n.a x.o.e (sm x 115 21) (sm x 115 21)
def Rz:=k6 x x.n.a 2053 x.o.e 2054 2055 827 3 1370 1371 1372 1373 1374 2059 2060
def S2:=k18 x x.n.a x.o.e (sm x 115 21) (sm x 115 21) x.m.c 1851 1375
def Rj:=k17 x x.i.v x.o.f (sm x 115 22) (sm x 115 22)
def OL:=k22 x x.i.v 2062 x.o.f 2063 2064 832 2 1377 1378 1379 2065 2066
def Uz:=k18 x x.i.v x.o.f (sm x 115 22) (sm x 115 22) x.m.c 1851 1380
def QD:=k30 x x.h.g 2068 x.o.g 2069 x.f.f 2070 x.o.h 2071 x.m.n 2072 x.o.i 2073 x.f.e 2074 x.i.u 2075
def Og:=M (u1 x.l3) (u20 (u21 [E x x.a.v 1860 (u11 x.m.c 1851),E x x.a.x 1864 (u12 717 1863),E x x.b.c 1875 (u13 1227),E x x.c.y 1883 (u13 1234),E x x.m.r 1890 (u13 1241),E x x.m.s 1900 (u13 1248),E x x.k.h 1908 (u13 1255),E x x.k.i 1922 (u13 1262),E x x.k.j 1934 (u13 1269),E x x.m.t 1941 (u13 1276),E x x.k.m 1948 (u13 1283),E x x.f.s 1956 (u13 1290),E x x.f.j 1965 (u13 1297),E x x.k.k 1977 (u13 1304),E x x.k.l 1987 (u13 1311),E x x.k.o 1995 (u13 1318),E x x.f.i 2003 (u13 1326),E x x.k.p 2012 (u13 1334),E x x.m.u 2020 (u13 1341),E x x.m.v 2027 (u13 1348),E x x.m.w 2035 (u13 1355),E x x.m.x 2044 (u13 1362),E x x.m.y 2052 (u13 1369),E x x.n.a 2061 (u13 1376),E x x.i.v 2067 (u13 1381),E x x.a.y 2076 (u13 1382),E x x.d.q 2078 (u13 1385),E x x.b.a 2080 (u13 1386),E x x.a.f 2081 u8]) 4)
def Rg:=k25 x x.m.q 1384 1383 1853 1861
def QY:=k26 x 2077 1384
def PV:=k10 x 2079 1384
def RN:=k11 x 1384
def QB:=k12 x 1384
def ahR:=M u8 (u9 (u4 (Na x)))
def aiO:=M (u1 x.l3) (u20 (u21 [E x x.a.v 1860 (u11 x.m.c 1851),E x x.a.w 1862 (u11 x.m.q 1861),E x x.a.x 1864 (u12 717 1863),E x x.b.c 1875 (u13 1227),E x x.c.y 1883 (u13 1234),E x x.m.r 1890 (u13 1241),E x x.m.s 1900 (u13 1248),E x x.k.h 1908 (u13 1255),E x x.k.i 1922 (u13 1262),E x x.k.j 1934 (u13 1269),E x x.m.t 1941 (u13 1276),E x x.k.m 1948 (u13 1283),E x x.f.s 1956 (u13 1290)]) 13)
def ajX(x:X):Obj:=M u8 (u9 (u4 [u12 719 0,u12 4 0,u13 1226,u12 729 0,u12 4 0,u13 1233,u12 732 0,u12 4 0,u13 1240,u12 735 0,u12 4 0,u13 1247,u12 741 0,u12 4 0,u13 1254,u12 746 0,u12 4 0,u13 1261,u12 756 0,u12 4 0,u13 1268,u12 765 0,u12 4 0,u13 1275,u12 768 0,u12 4 0,u13 1282,u12 771 0,u12 4 0,u13 1289,u12 775 0,u12 4 0,u13 1296]))
abbrev agu:List DictEntry:=nf (ap (sz (abC x) 0 (E x x.a.d 165 (u11 x.o.j 2092))) [E x x.o.k 2091 (u13 1395),E x x.o.l 2099 (u13 1400),E x x.o.m 2106 (u13 1407),E x x.o.n 2114 (u13 1414),E x x.o.o 2122 (u13 1421),E x x.o.p 2130 (u13 1428),E x x.o.q 2136 (u13 1433),E x x.o.r 2144 (u13 1440),E x x.o.s 2152 (u13 1447),E x x.o.t 2160 (u13 1454),E x x.o.u 2168 (u13 1461),E x x.o.v 2176 (u13 1468),E x x.o.w 2184 (u13 1475)])
def aja:=M (u1 x.l3) (u20 (u21 (agu x)) 119)
abbrev WN:List Value:=nf (ap (Na x) [u12 837 0,u12 0 0,u13 1394,u12 843 0,u12 0 0,u13 1399,u12 845 0,u12 0 0,u13 1406,u12 847 0,u12 0 0,u13 1413,u12 849 0,u12 0 0,u13 1420,u12 851 0,u12 0 0,u13 1427,u12 854 0,u12 0 0,u13 1432,u12 858 0,u12 0 0,u13 1439,u12 860 0,u12 0 0,u13 1446,u12 863 0,u12 0 0,u13 1453,u12 865 0,u12 0 0,u13 1460,u12 867 0,u12 0 0,u13 1467,u12 869 0,u12 0 0,u13 1474])
def aj8:=M u8 (u9 (u4 (WN x)))
def aj1:=k16 x x.c.r 2087 x.n.l 2088
def ajl:=k5 x x.o.k (st x 116) (st x 116)
def ajF:=k6 x x.o.k 2084 x.o.k 2085 2086 837 2 1389 1390 1391 1392 1393 2089 2090
def aiM:=k7 x x.o.k (st x 116) (st x 116) x.m.c 1851 1394
def ahX:=k5 x x.o.l (st x 118) (st x 118)
def aiF:=k22 x x.o.l 2094 x.o.l 2095 2096 843 1 1396 1397 1398 2097 2098
def ajH:=k7 x x.o.l (st x 118) (st x 118) x.o.j 2092 1399
def aj4:=k4 x x.f.s 2103
def ajp:=k5 x x.o.m (st x 119) (st x 119)
def ahf:=k6 x x.o.m 2100 x.o.m 2101 2102 845 1 1401 1402 1403 1404 1405 2104 2105
def ait:=k7 x x.o.m (st x 119) (st x 119) x.o.j 2092 1406
def akg:=k16 x x.o.x 2110 x.n.c 2111
def ahy:=k5 x x.o.n (st x 120) (st x 120)
def ai3:=k6 x x.o.n 2107 x.o.n 2108 2109 847 2 1408 1409 1410 1411 1412 2112 2113
def ajS:=k7 x x.o.n (st x 120) (st x 120) x.o.j 2092 1413
def ahL:=k16 x x.o.x 2118 x.k.t 2119
def ahQ:=k5 x x.o.o (st x 121) (st x 121)
def ahK:=k6 x x.o.o 2115 x.o.o 2116 2117 849 2 1415 1416 1417 1418 1419 2120 2121
def aiP:=k7 x x.o.o (st x 121) (st x 121) x.o.j 2092 1420
def ahN:=k16 x x.o.x 2126 x.f.s 2127
def aiq:=k5 x x.o.p (st x 122) (st x 122)
def ah6:=k6 x x.o.p 2123 x.o.p 2124 2125 851 2 1422 1423 1424 1425 1426 2128 2129
def ah4:=k7 x x.o.p (st x 122) (st x 122) x.o.j 2092 1427
def ahI:=k5 x x.o.q (st x 123) (st x 123)
def ajs:=k22 x x.o.q 2131 x.o.q 2132 2133 854 2 1429 1430 1431 2134 2135
def air:=k7 x x.o.q (st x 123) (st x 123) x.o.j 2092 1432
def akj:=k16 x x.o.x 2140 x.f.s 2141
def ahM:=k5 x x.o.r (st x 124) (st x 124)
def aj7:=k6 x x.o.r 2137 x.o.r 2138 2139 858 2 1434 1435 1436 1437 1438 2142 2143
def ahq:=k7 x x.o.r (st x 124) (st x 124) x.o.j 2092 1439
def aiD:=k16 x x.o.x 2148 x.f.s 2149
def ajY:=k5 x x.o.s (st x 125) (st x 122)
def ajn:=k6 x x.o.s 2145 x.o.s 2146 2147 860 2 1441 1442 1443 1444 1445 2150 2151
def aiK:=k7 x x.o.s (st x 125) (st x 122) x.o.j 2092 1446
def ahH:=k16 x x.o.x 2156 x.f.s 2157
def ako:=k5 x x.o.t (st x 126) (st x 126)
def ah5:=k6 x x.o.t 2153 x.o.t 2154 2155 863 2 1448 1449 1450 1451 1452 2158 2159
def aiw:=k7 x x.o.t (st x 126) (st x 126) x.o.j 2092 1453
def ahT:=k16 x x.o.x 2164 x.f.s 2165
def ahu:=k5 x x.o.u (st x 127) (st x 126)
def ah9:=k6 x x.o.u 2161 x.o.u 2162 2163 865 2 1455 1456 1457 1458 1459 2166 2167
def ahJ:=k7 x x.o.u (st x 127) (st x 126) x.o.j 2092 1460
def ah7:=k16 x x.o.x 2172 x.f.s 2173
def aib:=k5 x x.o.v (st x 128) (st x 126)
def ahE:=k6 x x.o.v 2169 x.o.v 2170 2171 867 2 1462 1463 1464 1465 1466 2174 2175
def ai9:=k7 x x.o.v (st x 128) (st x 126) x.o.j 2092 1467
def ajx:=k16 x x.o.x 2180 x.f.s 2181
def aj3:=k5 x x.o.w (st x 129) (st x 129)
def ajw:=k6 x x.o.w 2177 x.o.w 2178 2179 869 2 1469 1470 1471 1472 1473 2182 2183
def aj0:=k7 x x.o.w (st x 129) (st x 129) x.o.j 2092 1474
abbrev Yi:List DictEntry:=nf (ap (agu x) [E x x.o.y 2193 (u13 1482),E x x.p.a 2199 (u13 1487),E x x.p.b 2208 (u13 1494),E x x.p.c 2217 (u13 1501),E x x.p.d 2227 (u13 1508)])
def ahW:=M (u1 x.l3) (u20 (u21 (Yi x)) 124)
abbrev adZ:List Value:=nf (ap (WN x) [u12 871 0,u12 0 0,u13 1481,u12 874 0,u12 0 0,u13 1486,u12 882 0,u12 0 0,u13 1493,u12 885 0,u12 0 0,u13 1500,u12 888 0,u12 0 0,u13 1507])
def ajD:=M u8 (u9 (u4 (adZ x)))
def ahx:=k21 x x.o.x 2188 x.f.s 2189 x.b.q 2190
def aiZ:=k5 x x.o.y (st x 130) (st x 130)
def aiJ:=k6 x x.o.y 2185 x.o.y 2186 2187 871 2 1476 1477 1478 1479 1480 2191 2192
def ajg:=k7 x x.o.y (st x 130) (st x 130) x.o.j 2092 1481
def ajE:=k5 x x.p.a (st x 131) (st x 131)
def ahp:=k22 x x.p.a 2194 x.p.a 2195 2196 874 2 1483 1484 1485 2197 2198
def aiu:=k7 x x.p.a (st x 131) (st x 131) x.o.j 2092 1486
def ai0:=k21 x x.o.x 2203 x.f.s 2204 x.f.p 2205
def ajR:=k5 x x.p.b (st x 132) (st x 132)
def aih:=k6 x x.p.b 2200 x.p.b 2201 2202 882 2 1488 1489 1490 1491 1492 2206 2207
def aiv:=k7 x x.p.b (st x 132) (st x 132) x.o.j 2092 1493
def ahP:=k21 x x.o.x 2212 x.f.s 2213 x.i.o 2214
def ain:=k5 x x.p.c (st x 133) (st x 133)
def aiS:=k6 x x.p.c 2209 x.p.c 2210 2211 885 2 1495 1496 1497 1498 1499 2215 2216
def ajk:=k7 x x.p.c (st x 133) (st x 133) x.o.j 2092 1500
def aii:=k24 x x.o.x 2221 x.f.s 2222 x.j.n 2223 x.i.y 2224
def akl:=k5 x x.p.d (st x 134) (st x 134)
def ajL:=k6 x x.p.d 2218 x.p.d 2219 2220 888 2 1502 1503 1504 1505 1506 2225 2226
def aiG:=k7 x x.p.d (st x 134) (st x 134) x.o.j 2092 1507
abbrev aha:List DictEntry:=nf (ap (Yi x) [E x x.p.e 2258 (u13 1509)])
def ajq:=M (u1 x.l3) (u20 (u21 (aha x)) 125)
def akn:=M (u1 x.l3) (u20 (u21 [E x x.b.q 2228 (u13 1414),E x x.m.s 2229 (u13 1421),E x x.k.h 2230 (u13 1428),E x x.k.i 2231 (u13 1433),E x x.k.j 2232 (u13 1440),E x x.k.k 2233 (u13 1447),E x x.k.l 2234 (u13 1454),E x x.k.m 2235 (u13 1461),E x x.k.n 2236 (u13 1468),E x x.c.v 2237 (u13 1475),E x x.k.o 2238 (u13 1482),E x x.k.p 2239 (u13 1487),E x x.f.p 2240 (u13 1494),E x x.i.o 2241 (u13 1501),E x x.k.q 2242 (u13 1508)]) 15)
abbrev adh:List DictEntry:=nf (ap (sz (aha x) 0 (E x x.a.d 165 (u11 x.p.f 2300))) [E x x.p.g 2299 (u13 1533),E x x.p.h 2309 (u13 1544),E x x.p.i 2319 (u13 1551),E x x.p.j 2329 (u13 1558),E x x.p.k 2342 (u13 1565)])
def ajW:=M (u1 x.l3) (u20 (u21 (adh x)) 130)
abbrev aeh:List Value:=nf (ap (adZ x) [u12 893 0,u12 0 0,u13 1515,u12 903 0,u12 0 0,u13 1543,u12 907 0,u12 0 0,u13 1550,u12 926 0,u12 0 0,u13 1557,u12 935 0,u12 0 0,u13 1564])
def ajb:=M u8 (u9 (u4 (aeh x)))
def ahD:=k37 x 2266 x.o.j 2092 2268 x.p.g 2267 2270 893 2269 2281 1523 x.p.l 2290 1530 2292 1531
def ajP:=k3 x 895 4 1522 899 1529
def ajc:=k1 x x.p.g 2261 2262 2263 893 1513 1514 2264 2265
def ai2:=k2 x 1515 1512 x.o.j 2092
def akm:=k23 x x.b.d 2274 x.b.h 2275 x.f.e 2276 x.f.f 2277 x.l.x 2278
def aju:=k17 x x.b.c x.p.m (sm x 136 0) (sm x 136 0)
def ai5:=k6 x x.b.c 2271 x.p.m 2272 2273 895 5 1517 1518 1519 1520 1521 2279 2280
def ahv:=k18 x x.b.c x.p.m (sm x 136 0) (sm x 136 0) x.o.j 2092 1522
def ajr:=k21 x x.b.d 2285 x.e.r 2286 x.i.y 2287
def ai6:=k17 x x.p.l x.p.n (sm x 136 1) (sm x 136 1)
def aiE:=k6 x x.p.l 2282 x.p.n 2283 2284 899 2 1524 1525 1526 1527 1528 2288 2289
def aiB:=k18 x x.p.l x.p.n (sm x 136 1) (sm x 136 1) x.o.j 2092 1529
def aio:=k4 x x.o.x 2291
def aim:=M (u1 x.l3) (u20 (u21 [E x x.a.v 2266 (u11 x.o.j 2092),E x x.a.x 2270 (u12 893 2269),E x x.b.c 2281 (u13 1523),E x x.p.l 2290 (u13 1530),E x x.a.y 2292 (u13 1531),E x x.d.q 2294 (u13 1534),E x x.b.a 2296 (u13 1535),E x x.a.f 2297 u8]) 4)
def ajy:=k25 x x.p.g 1533 1532 2259 2267
def ai8:=k26 x 2293 1533
def ahm:=k10 x 2295 1533
def ajT:=k11 x 1533
def ahe:=k12 x 1533
def ajA:=k16 x x.p.o 2305 x.p.p 2306
def ahi:=k5 x x.p.h (st x 138) (st x 138)
def akd:=k6 x x.p.h 2302 x.p.h 2303 2304 903 2 1538 1539 1540 1541 1542 2307 2308
def aj6:=k7 x x.p.h (st x 138) (st x 138) x.p.f 2300 1543
def ahk:=k24 x x.p.q 2313 x.p.r 2314 x.p.s 2315 x.p.t 2316
def ahY:=k5 x x.p.i (st x 139) (st x 139)
def ai1:=k6 x x.p.i 2310 x.p.i 2311 2312 907 2 1545 1546 1547 1548 1549 2317 2318
def aiN:=k7 x x.p.i (st x 139) (st x 139) x.p.f 2300 1550
def aiH:=k24 x x.p.u 2323 x.p.v 2324 x.p.s 2325 x.p.t 2326
def aj9:=k5 x x.p.j (st x 140) (st x 140)
def ahO:=k6 x x.p.j 2320 x.p.j 2321 2322 926 2 1552 1553 1554 1555 1556 2327 2328
def aiz:=k7 x x.p.j (st x 140) (st x 140) x.p.f 2300 1557
def ahr:=k34 x x.p.u 2333 x.p.w 2334 x.p.x 2335 x.p.y 2336 x.q.a 2337 x.q.b 2338 x.q.c 2339
def ahV:=k28 x (st x 141)
def ajQ:=k6 x x.p.k 2330 x.p.k 2331 2332 935 3 1559 1560 1561 1562 1563 2340 2341
def ais:=k29 x (st x 141) x.p.f 2300 1564
def aid:=M (u1 x.l3) (u20 (u21 ((nf (ap (adh x) [E x x.q.d 2354 (u13 1572),E x x.q.e 2369 (u13 1579),E x x.q.f 2385 (u13 1586)])))) 133)
def ajK:=M u8 (u9 (u4 ((nf (ap (aeh x) [u12 941 0,u12 0 0,u13 1571,u12 947 0,u12 0 0,u13 1578,u12 955 0,u12 0 0,u13 1585])))))
def ahs:=k27 x x.p.x 2346 x.q.g 2347 x.q.h 2348 x.p.y 2349 x.q.b 2350 x.q.i 2351
def akf:=k28 x (st x 142)
def aiU:=k6 x x.q.d 2343 x.q.d 2344 2345 941 2 1566 1567 1568 1569 1570 2352 2353
def aik:=k29 x (st x 142) x.p.f 2300 1571
def aj5:=M (u1 x.l0) (u3 (u4 [u11 x.p.q 2358,u11 x.p.u 2359,u11 x.p.w 2360,u11 x.p.x 2361,u11 x.q.b 2362,u11 x.p.y 2363,u11 x.q.j 2364,u11 x.p.r 2365,u11 x.q.k 2366]) 0)
def ake:=k28 x (st x 143)
def aiR:=k6 x x.q.e 2355 x.q.e 2356 2357 947 4 1573 1574 1575 1576 1577 2367 2368
def akb:=k29 x (st x 143) x.p.f 2300 1578
def ajI:=M (u1 x.l0) (u3 (u4 [u11 x.p.o 2373,u11 x.q.l 2374,u11 x.p.u 2375,u11 x.p.w 2376,u11 x.p.q 2377,u11 x.p.p 2378,u11 x.q.j 2379,u11 x.p.r 2380,u11 x.q.k 2381,u11 x.q.h 2382]) 0)
def ajt:=k5 x x.q.f (st x 144) (st x 144)
def ah8:=k6 x x.q.f 2370 x.q.f 2371 2372 955 1 1580 1581 1582 1583 1584 2383 2384
def ajf:=k7 x x.q.f (st x 144) (st x 144) x.p.f 2300 1585
def q1(x:X):Obj:=M u8 (u20 (u21 u26) 0)
abbrev tree47:X->PySem.W.BT:=λx=>nf (G Z 0 [b0,b1,b2,b3,b4,b5,b6,b7,b8,b9,b10,o43,o44,o45,o46] x)
abbrev tree70:X->PySem.W.BT:=λx=>nf (G (G (G tree47 3 [o49]) 12 [o50]) 15 [o43,o44,o53,o43,o55,o56,o57,o58,o59,o60,o43,o44,o63,o64,o43,o66,o67,o68,o69,o70] x)
abbrev tree92:X->PySem.W.BT:=λx=>nf (G (G (G (G tree70 3 [o71]) 12 [o72]) 31 [o73]) 35 [o74,o59,o76,o43,o78,o79,o80,o43,o44,o83,o43,o85,o86,o87,o88,o89,o90,o91,o92] x)
abbrev tree114:X->PySem.W.BT:=λx=>nf (G (G (G (G tree92 3 [o93]) 12 [o94]) 31 [o95]) 54 [o74,o59,o98,o43,aeo,afL,aez,o43,o44,adL,o43,abl,acn,aec,adn,afE,afz,VW,abD] x)
abbrev tree136:X->PySem.W.BT:=λx=>nf (G (G (G (G tree114 3 [akX]) 12 [akM]) 31 [alE]) 73 [o74,o59,agX,o43,aad,afQ,acX,o43,o44,abV,o43,ae5,ac0,Xl,Zd,WS,aaF,Zm,age] x)
abbrev tree158:X->PySem.W.BT:=λx=>nf (G (G (G (G tree136 3 [alv]) 12 [alR]) 31 [alm]) 92 [o74,o59,abT,o43,aat,af6,acm,o43,o44,Xf,o43,aaO,af9,WR,aee,agE,afb,aeq,XA] x)
abbrev tree180:X->PySem.W.BT:=λx=>nf (G (G (G (G tree158 3 [ald]) 12 [alO]) 31 [akz]) 111 [o74,o59,aaz,o43,aaU,ab5,aaG,o43,o44,V9,o43,aal,Xq,WU,Zh,abJ,ZE,ad6,Wb] x)
abbrev tree202:X->PySem.W.BT:=λx=>nf (G (G (G (G tree180 3 [akt]) 12 [alj]) 31 [alk]) 130 [o74,o59,ads,o43,abn,af0,abr,o43,o44,ab0,o43,ZJ,XC,ad3,aem,ag7,aas,We,afq] x)
abbrev tree224:X->PySem.W.BT:=λx=>nf (G (G (G (G tree202 3 [aln]) 12 [alM]) 31 [alr]) 149 [o74,o59,afl,o43,Xd,acv,agB,o43,o44,Xs,o43,WW,aaI,VH,adA,YI,aeF,abc,Wo] x)
abbrev tree246:X->PySem.W.BT:=λx=>nf (G (G (G (G tree224 3 [alu]) 12 [akW]) 31 [akJ]) 168 [o74,o59,Yr,o43,ag9,Y0,XU,o43,o44,afM,o43,Ze,afs,acJ,YU,Wc,aer,aaT,afA] x)
abbrev tree268:X->PySem.W.BT:=λx=>nf (G (G (G (G tree246 3 [alX]) 12 [alY]) 31 [alK]) 187 [o74,o59,Yl,o43,Zl,ZH,agA,o43,o44,Yj,o43,WX,Wr,XO,VF,adg,Wn,ac1,VR] x)
abbrev tree283:X->PySem.W.BT:=λx=>nf (G (G (G (G tree268 3 [ale]) 12 [aky]) 31 [ali]) 206 [o74,o59,XZ,o43,o44,Xw,Zf,o43,acw,ZR,Ye,Yp] x)
abbrev tree305:X->PySem.W.BT:=λx=>nf (G (G (G (G tree283 3 [akL]) 12 [akI]) 31 [ak6]) 218 [o74,o59,aba,o43,Zi,Xe,ZT,o43,o44,Xz,o43,aar,Xc,Xo,aaD,afZ,Y8,Zr,abj] x)
abbrev tree327:X->PySem.W.BT:=λx=>nf (G (G (G (G tree305 3 [alQ]) 12 [alf]) 31 [alS]) 237 [o74,o59,Zg,o43,agy,afe,Wg,o43,o44,ag8,o43,abU,aa4,Xh,afX,XD,aaR,af3,adG] x)
abbrev tree349:X->PySem.W.BT:=λx=>nf (G (G (G (G tree327 3 [akC]) 12 [ak2]) 31 [alN]) 256 [o74,o59,afD,o43,Zu,W8,aaa,o43,o44,adj,o43,adD,agq,aaC,adB,WM,Ys,adH,Zy] x)
abbrev tree371:X->PySem.W.BT:=λx=>nf (G (G (G (G tree349 3 [akK]) 12 [aks]) 31 [alP]) 275 [o74,o59,VV,o43,abp,abv,abw,o43,o44,V2,o43,adS,YL,aei,afa,Zt,aam,acI,aeg] x)
abbrev tree393:X->PySem.W.BT:=λx=>nf (G (G (G (G tree371 3 [alU]) 12 [akU]) 31 [akE]) 294 [o74,o59,Wa,o43,Xy,aay,acu,o43,o44,acU,o43,ZX,afc,YB,abz,ZP,acS,afh,agO] x)
abbrev tree415:X->PySem.W.BT:=λx=>nf (G (G (G (G tree393 3 [alx]) 12 [akv]) 31 [ac5]) 313 [o74,o59,ael,o43,Wq,YC,ZW,o43,o44,adb,o43,afB,acF,agd,acy,acP,YR,ady,Wh] x)
abbrev tree471:X->PySem.W.BT:=λx=>nf (G (G (G tree415 3 [akS]) 12 [als]) 332 [o43,o59,V4,o43,aeB,YF,ZF,o43,o44,ac3,o43,abh,VZ,Wx,o43,o44,aao,Zk,XI,o43,o44,Wz,o43,adP,agN,Yt,o43,o44,agJ,o43,aaH,ZO,acj,o43,o44,Zx,o43,agI,abg,aep,o43,o44,aeT,o43,acf,aeK,agG,agx,adw,aeM,YS,abP,Yv,Yo] x)
abbrev tree480:X->PySem.W.BT:=λx=>nf (G (G (G tree471 3 [akD]) 12 [al0]) 386 [o43,o44,Wf,o43,Zv,aco,V7] x)
abbrev tree566:X->PySem.W.BT:=λx=>nf (G (G (G tree480 3 [alz]) 12 [akQ]) 393 [o43,o59,aex,o43,aaf,afT,YX,o43,o44,aeu,o43,VJ,YD,ac9,o43,o44,adu,o43,agg,afY,agQ,o43,o44,adF,o43,ag6,W3,Xj,o43,o44,aeX,o43,aaQ,Yg,WB,o43,o44,YN,o43,afN,abX,V3,o43,o44,abi,o43,aaV,VU,aa9,o43,o44,af5,o43,YG,adC,acG,o43,o44,aeO,o43,ZL,aau,agp,o43,o44,afd,o43,adf,aef,Yh,o43,o44,ac6,o43,aeN,aeR,ad1,adX,acN,agD,WV,WA,Xg,Xr] x)
abbrev tree636:X->PySem.W.BT:=λx=>nf (G (G (G tree566 3 [akq]) 12 [akY]) 477 [o43,o44,Wm,Xk,YE,abI,aaL,o43,o44,acr,o43,YM,abZ,adT,o43,o44,Wt,o43,aaZ,ab3,YV,o43,o44,aa8,o43,agl,V0,agm,o43,o44,abQ,aeS,ag5,o43,o44,afV,o43,abE,Wk,afk,o43,o44,aea,o43,WI,abd,Zw,o43,o44,adU,o43,V6,YJ,abb,o43,o44,Zz,o43,VL,ac8,Zq,o43,o44,aa1,o43,agU,ae7,aab] x)
abbrev tree678:X->PySem.W.BT:=λx=>nf (G (G (G tree636 3 [akO]) 12 [alL]) 545 [o43,o59,aek,o43,acz,acp,ae8,o43,o44,aeL,ack,WD,o43,o44,agV,o43,ZQ,acE,aes,o43,o44,aap,o43,agt,Zn,VM,o43,o44,ae3,o43,abt,YH,agL,Yq,ad0,akT,adi,abu,aa3,Xm] x)
abbrev tree727:X->PySem.W.BT:=λx=>nf (G (G (G (G tree678 3 [alZ]) 12 [alH]) 580 [alF]) 585 [HZ,o59,agn,o43,aen,ae1,aan,rA,o43,o44,aft,o43,Xn,agK,Wd,o43,o44,adm,o43,acC,aga,VX,o43,o44,agR,o43,aac,afj,abL,o43,o44,afn,WE,YZ,o43,o44,ag4,o43,aej,ad9,ZN,o43,aaK,ae2,aa7,abY] x)
abbrev tree778:X->PySem.W.BT:=λx=>nf (G (G (G (G tree727 3 [alw]) 12 [akB]) 580 [aet]) 631 [HZ,o59,abe,o43,Y6,af1,abm,rA,o43,o44,WO,o43,Zs,aaJ,acO,o43,o44,aeV,o43,agF,acV,aci,o43,o44,WH,o43,aaP,aeU,acY,o43,o44,ab8,o43,Zj,aaY,agZ,o43,o44,agP,o43,afo,afJ,adz,afF,acZ,Y4,agT,aeD] x)
abbrev tree821:X->PySem.W.BT:=λx=>nf (G (G (G tree778 3 [ak4]) 12 [alp]) 679 [o43,o44,aaW,o43,W9,adl,ab1,o43,o44,aaX,XG,agj,o43,o44,agr,acT,ab7,o43,o44,afI,o43,aeG,af8,abF,o43,o44,aeY,o43,Zo,aai,ags,o43,o44,XR,aeQ,adO,o43,o44,ZS,aaN,Xu] x)
abbrev tree898:X->PySem.W.BT:=λx=>nf (G (G (G tree821 3 [alc]) 12 [akV]) 720 [o43,o59,aev,o43,ZK,WY,XH,o43,o44,XW,o43,afr,ab4,abK,o43,o44,Xx,o43,Yb,XJ,af4,o43,o44,acA,o43,W0,afx,aeE,o43,o44,aaj,o43,adJ,adk,ag1,o43,o44,ZZ,o43,afw,aak,aeP,o43,o44,Yy,o43,Xv,Yd,WC,o43,o44,acB,o43,ab6,Yx,XQ,o43,o44,afC,o43,afU,agC,Yu,o43,o44,Yn,WK,VS,ad8,Y9,Zp,ZC,Y3,aeZ,Xa] x)
abbrev tree976:X->PySem.W.BT:=λx=>nf (G (G (G tree898 3 [ak7]) 12 [alo]) 795 [o43,o44,ae4,o43,afv,ag2,agf,abM,o43,o44,agH,o43,aa5,aeH,abk,o43,o44,afH,o43,YW,afS,YK,o43,o44,ab2,o43,agv,afW,adW,o43,o44,aav,Ww,afy,o43,o44,Wl,o43,WJ,aeI,ado,o43,o44,acs,o43,VQ,acq,VY,o43,o44,ac2,o43,VP,afi,ab9,o43,o44,ZY,o43,agw,aaA,abO,o43,o44,adY,o43,Yz,V1,aa6,o43,o44,adR,o43,VT,aax,W5] x)
abbrev tree1033:X->PySem.W.BT:=λx=>nf (G (G (G tree976 3 [alq]) 12 [ak5]) 871 [o43,o59,YQ,o43,YA,abH,VN,o43,o44,af7,aaM,afp,XM,aaS,WL,ago,ac7,Xb,aa0,o43,o44,QL,o43,Qm,PM,UC,o43,o44,RQ,NI,Sb,o43,o44,Rv,o43,P8,ND,SI,o43,o44,Ss,Py,RG,o43,o44,Rf,R4,O3,o43,o44,RA,o43,Uu,Pf,Rh] x)
abbrev tree1071:X->PySem.W.BT:=λx=>nf (G (G (G tree1033 3 [aho]) 12 [aiL]) 926 [o43,o44,Of,o43,Si,Ov,Rq,o43,o44,RT,o43,Oz,QK,NZ,o43,o44,S3,o43,OG,Tj,Pq,o43,o44,OP,PJ,RS,o43,o44,OX,TQ,Qf,o43,o44,TX,Pc,T9] x)
abbrev tree1121:X->PySem.W.BT:=λx=>nf (G (G (G tree1071 3 [ail]) 12 [aiW]) 962 [Qa,Ra,RI,OZ,RB,Sy,NB,Qd,O7,Pg,Sd,O9,Pw,Ot,Sl,o43,o44,Te,o43,RZ,Td,SQ,o43,o44,Oe,QI,Ry,o43,o44,SD,o43,NS,R7,RE,o43,o44,S0,o43,Qx,NH,OW,o43,o44,Sj,o43,P4,Sw,Qy] x)
abbrev tree1146:X->PySem.W.BT:=λx=>nf (G (G (G tree1121 3 [aia]) 12 [ahS]) 1010 [o43,o59,Tt,o43,UG,Rm,NY,o43,o44,Pd,o43,Se,Ui,RC,o43,Tv,ahG,NP,Pe,Rb,Oi] x)
abbrev tree1175:X->PySem.W.BT:=λx=>nf (G (G (G (G tree1146 3 [ajd]) 12 [ai4]) 1026 [ahn]) 1031 [m8,o59,Rn,o43,OI,Uw,S4,o43,o44,SM,o43,SA,OY,RO,o43,o44,RY,o43,QW,NU,NG,Pn,Tr,NC,Tp,Po] x)
abbrev tree1205:X->PySem.W.BT:=λx=>nf (G (G (G (G tree1175 3 [ajU]) 12 [aic]) 1026 [aiY]) 1057 [m8,o59,Qq,o43,Qt,Ub,NT,rA,o43,o44,OB,o43,PR,Uk,Ox,o43,o44,Uv,o43,T6,Qc,Qe,T7,UH,So,Qj,PD] x)
abbrev tree1234:X->PySem.W.BT:=λx=>nf (G (G (G (G tree1205 3 [ahw]) 12 [ahj]) 1026 [aiI]) 1084 [m8,o59,S5,o43,OJ,TU,NJ,o43,o44,OR,o43,Nz,Tg,SY,o43,o44,Pk,o43,QF,Ua,Pp,Tc,Up,SX,RV,RU] x)
abbrev tree1259:X->PySem.W.BT:=λx=>nf (G (G (G (G tree1234 3 [aka]) 12 [ahF]) 1026 [ajG]) 1110 [m8,o59,Sh,o43,PY,Qh,Tf,o43,o44,PU,QV,RH,o43,o44,RX,R0,P9,Uh,Pu,Sg,OU,QG] x)
abbrev tree1308:X->PySem.W.BT:=λx=>nf (G (G (G (G tree1259 3 [ajZ]) 12 [ajV]) 1026 [Od]) 1132 [m8,o59,OH,o43,QS,UE,Rc,o43,o44,Ri,o43,Oh,Uq,SN,o43,o44,OE,Ul,Ql,S9,ON,NQ,NK,SV,o43,o44,Rl,o43,Sq,Oo,RP,o43,o44,Rt,Ug,SO,o43,o44,P6,Sm,PL,o43,o44,Rx,Qz,QX] x)
abbrev tree1346:X->PySem.W.BT:=λx=>nf (G (G (G tree1308 3 [Ru]) 12 [ahU]) 1178 [o43,o44,TJ,o43,SH,UB,OA,o43,o44,RL,O2,Pz,o43,o44,SJ,o43,OQ,Ol,RW,o43,o44,QJ,TZ,OM,o43,o44,Qu,T5,Ny,o43,o44,Rp,o43,S6,P5,QE] x)
abbrev tree1523:X->PySem.W.BT:=λx=>nf (G (G (G tree1346 3 [ahd]) 12 [ajJ]) 1214 [o43,o59,NW,o43,PB,UA,OF,o43,o44,Qo,o43,To,Qp,Pj,o43,o44,RJ,o43,Ti,Uj,Qn,o43,o44,TN,o43,QU,NO,Sz,o43,o44,O8,o43,Tu,SG,Qk,o43,o44,Sx,o43,Um,Su,TV,o43,o44,SR,o43,NX,Px,QH,o43,o44,Uy,o43,Oj,O6,SE,o43,o44,Ur,o43,S7,PN,Om,o43,o44,Tw,o43,RM,P0,Qw,o43,o44,NR,o43,RD,QN,QM,o43,o44,TM,o43,PZ,Ut,Qi,o43,o44,RK,o43,OS,Sv,OD,o43,o44,Pb,o43,R8,Ob,Ue,o43,o44,Ou,o43,Th,S8,Oa,rA,o43,o44,Oq,o43,O1,T4,Qg,rA,o43,o44,QA,o43,P7,TY,Qv,o43,o44,P1,o43,QT,QZ,OV,o43,o44,Qs,o43,Sa,TF,OC,o43,o44,Uo,o43,Sk,SS,OT,o43,o44,T8,o43,UD,Ph,O5,o43,o44,Tn,o43,O4,Tz,PK,o43,o44,Sn,o43,Oc,Rz,S2,o43,o44,Rj,OL,Uz,QD,Og,Rg,QY,PV,RN,QB] x)
abbrev tree1607:X->PySem.W.BT:=λx=>nf (G Z 0 [b0,b1,b2,Ru,b4,b5,b6,b7,b8,b9,b10,o43,ahR,o45,o46,o43,o44,o53,o43,o55,o56,o57,o58,o59,o60,o43,o44,o63,o64,o43,o66,ac5,o68,o69,o70,o74,o59,o76,o43,o78,o79,o80,o43,o44,o83,o43,o85,o86,o87,o88,o89,o90,o91,o92,o74,o59,o98,o43,aeo,afL,aez,o43,o44,adL,o43,abl,acn,aec,adn,afE,afz,VW,abD,o74,o59,agX,o43,aad,afQ,acX,o43,o44,abV,o43,ae5,ac0,Xl,Zd,WS,aaF,Zm,age,o74,o59,abT,o43,aat,af6,acm,o43,o44,Xf,o43,aaO,af9,WR,aee,agE,afb,aeq,XA,o74,o59,aaz,o43,aaU,ab5,aaG,o43,o44,V9,o43,aal,Xq,WU,Zh,abJ,ZE,ad6,Wb,o74,o59,ads,o43,abn,af0,abr,o43,o44,ab0,o43,ZJ,XC,ad3,aem,ag7,aas,We,afq,o74,o59,afl,o43,Xd,acv,agB,o43,o44,Xs,o43,WW,aaI,VH,adA,YI,aeF,abc,Wo,o74,o59,Yr,o43,ag9,Y0,XU,o43,o44,afM,o43,Ze,afs,acJ,YU,Wc,aer,aaT,afA,o74,o59,Yl,o43,Zl,ZH,agA,o43,o44,Yj,o43,WX,Wr,XO,VF,adg,Wn,ac1,VR,o74,o59,XZ,o43,o44,Xw,Zf,o43,acw,ZR,Ye,Yp,o74,o59,aba,o43,Zi,Xe,ZT,o43,o44,Xz,o43,aar,Xc,Xo,aaD,afZ,Y8,Zr,abj,o74,o59,Zg,o43,agy,afe,Wg,o43,o44,ag8,o43,abU,aa4,Xh,afX,XD,aaR,af3,adG,o74,o59,afD,o43,Zu,W8,aaa,o43,o44,adj,o43,adD,agq,aaC,adB,WM,Ys,adH,Zy,o74,o59,VV,o43,abp,abv,abw,o43,o44,V2,o43,adS,YL,aei,afa,Zt,aam,acI,aeg,o74,o59,Wa,o43,Xy,aay,acu,o43,o44,acU,o43,ZX,afc,YB,abz,ZP,acS,afh,agO,o74,o59,ael,o43,Wq,YC,ZW,o43,o44,adb,o43,afB,acF,agd,acy,acP,YR,ady,Wh,o43,o59,V4,o43,aeB,YF,ZF,o43,o44,ac3,o43,abh,VZ,Wx,o43,o44,aao,Zk,XI,o43,o44,Wz,o43,adP,agN,Yt,o43,o44,agJ,o43,aaH,ZO,acj,o43,o44,Zx,o43,agI,abg,aep,o43,o44,aeT,o43,acf,aeK,agG,agx,adw,aeM,YS,abP,Yv,Yo,o43,o44,Wf,o43,Zv,aco,V7,o43,o59,aex,o43,aaf,afT,YX,o43,o44,aeu,o43,VJ,YD,ac9,o43,o44,adu,o43,agg,afY,agQ,o43,o44,adF,o43,ag6,W3,Xj,o43,o44,aeX,o43,aaQ,Yg,WB,o43,o44,YN,o43,afN,abX,V3,o43,o44,abi,o43,aaV,VU,aa9,o43,o44,af5,o43,YG,adC,acG,o43,o44,aeO,o43,ZL,aau,agp,o43,o44,afd,o43,adf,aef,Yh,o43,o44,ac6,o43,aeN,aeR,ad1,adX,acN,agD,WV,WA,Xg,Xr,o43,o44,Wm,Xk,YE,abI,aaL,o43,o44,acr,o43,YM,abZ,adT,o43,o44,Wt,o43,aaZ,ab3,YV,o43,o44,aa8,o43,agl,V0,agm,o43,o44,abQ,aeS,ag5,o43,o44,afV,o43,abE,Wk,afk,o43,o44,aea,o43,WI,abd,Zw,o43,o44,adU,o43,V6,YJ,abb,o43,o44,Zz,o43,VL,ac8,Zq,o43,o44,aa1,o43,agU,ae7,aab,o43,o59,aek,o43,acz,acp,ae8,o43,o44,aeL,ack,WD,o43,o44,agV,o43,ZQ,acE,aes,o43,o44,aap,o43,agt,Zn,VM,o43,o44,ae3,o43,abt,YH,agL,Yq,ad0,aet,adi,abu,aa3,Xm,HZ,o59,agn,o43,aen,ae1,aan,rA,o43,o44,aft,o43,Xn,agK,Wd,o43,o44,adm,o43,acC,aga,VX,o43,o44,agR,o43,aac,afj,abL,o43,o44,afn,WE,YZ,o43,o44,ag4,o43,aej,ad9,ZN,o43,aaK,ae2,aa7,abY,HZ,o59,abe,o43,Y6,af1,abm,rA,o43,o44,WO,o43,Zs,aaJ,acO,o43,o44,aeV,o43,agF,acV,aci,o43,o44,WH,o43,aaP,aeU,acY,o43,o44,ab8,o43,Zj,aaY,agZ,o43,o44,agP,o43,afo,afJ,adz,afF,acZ,Y4,agT,aeD,o43,o44,aaW,o43,W9,adl,ab1,o43,o44,aaX,XG,agj,o43,o44,agr,acT,ab7,o43,o44,afI,o43,aeG,af8,abF,o43,o44,aeY,o43,Zo,aai,ags,o43,o44,XR,aeQ,adO,o43,o44,ZS,aaN,Xu,o43,o59,aev,o43,ZK,WY,XH,o43,o44,XW,o43,afr,ab4,abK,o43,o44,Xx,o43,Yb,XJ,af4,o43,o44,acA,o43,W0,afx,aeE,o43,o44,aaj,o43,adJ,adk,ag1,o43,o44,ZZ,o43,afw,aak,aeP,o43,o44,Yy,o43,Xv,Yd,WC,o43,o44,acB,o43,ab6,Yx,XQ,o43,o44,afC,o43,afU,agC,Yu,o43,o44,Yn,WK,VS,ad8,Y9,Zp,ZC,Y3,aeZ,Xa,o43,o44,ae4,o43,afv,ag2,agf,abM,o43,o44,agH,o43,aa5,aeH,abk,o43,o44,afH,o43,YW,afS,YK,o43,o44,ab2,o43,agv,afW,adW,o43,o44,aav,Ww,afy,o43,o44,Wl,o43,WJ,aeI,ado,o43,o44,acs,o43,VQ,acq,VY,o43,o44,ac2,o43,VP,afi,ab9,o43,o44,ZY,o43,agw,aaA,abO,o43,o44,adY,o43,Yz,V1,aa6,o43,o44,adR,o43,VT,aax,W5,o43,o59,YQ,o43,YA,abH,VN,o43,o44,af7,aaM,afp,XM,aaS,WL,ago,ac7,Xb,aa0,o43,o44,QL,o43,Qm,PM,UC,o43,o44,RQ,NI,Sb,o43,o44,Rv,o43,P8,ND,SI,o43,o44,Ss,Py,RG,o43,o44,Rf,R4,O3,o43,o44,RA,o43,Uu,Pf,Rh,o43,o44,Of,o43,Si,Ov,Rq,o43,o44,RT,o43,Oz,QK,NZ,o43,o44,S3,o43,OG,Tj,Pq,o43,o44,OP,PJ,RS,o43,o44,OX,TQ,Qf,o43,o44,TX,Pc,T9,Qa,Ra,RI,OZ,RB,Sy,NB,Qd,O7,Pg,Sd,O9,Pw,Ot,Sl,o43,o44,Te,o43,RZ,Td,SQ,o43,o44,Oe,QI,Ry,o43,o44,SD,o43,NS,R7,RE,o43,o44,S0,o43,Qx,NH,OW,o43,o44,Sj,o43,P4,Sw,Qy,o43,o59,Tt,o43,UG,Rm,NY,o43,o44,Pd,o43,Se,Ui,RC,o43,Tv,Od,NP,Pe,Rb,Oi,m8,o59,Rn,o43,OI,Uw,S4,o43,o44,SM,o43,SA,OY,RO,o43,o44,RY,o43,QW,NU,NG,Pn,Tr,NC,Tp,Po,m8,o59,Qq,o43,Qt,Ub,NT,rA,o43,o44,OB,o43,PR,Uk,Ox,o43,o44,Uv,o43,T6,Qc,Qe,T7,UH,So,Qj,PD,m8,o59,S5,o43,OJ,TU,NJ,o43,o44,OR,o43,Nz,Tg,SY,o43,o44,Pk,o43,QF,Ua,Pp,Tc,Up,SX,RV,RU,m8,o59,Sh,o43,PY,Qh,Tf,o43,o44,PU,QV,RH,o43,o44,RX,R0,P9,Uh,Pu,Sg,OU,QG,m8,o59,OH,o43,QS,UE,Rc,o43,o44,Ri,o43,Oh,Uq,SN,o43,o44,OE,Ul,Ql,S9,ON,NQ,NK,SV,o43,o44,Rl,o43,Sq,Oo,RP,o43,o44,Rt,Ug,SO,o43,o44,P6,Sm,PL,o43,o44,Rx,Qz,QX,o43,o44,TJ,o43,SH,UB,OA,o43,o44,RL,O2,Pz,o43,o44,SJ,o43,OQ,Ol,RW,o43,o44,QJ,TZ,OM,o43,o44,Qu,T5,Ny,o43,o44,Rp,o43,S6,P5,QE,o43,o59,aiO,o43,ajX,UA,OF,o43,o44,Qo,o43,To,Qp,Pj,o43,o44,RJ,o43,Ti,Uj,Qn,o43,o44,TN,o43,QU,NO,Sz,o43,o44,O8,o43,Tu,SG,Qk,o43,o44,Sx,o43,Um,Su,TV,o43,o44,SR,o43,NX,Px,QH,o43,o44,Uy,o43,Oj,O6,SE,o43,o44,Ur,o43,S7,PN,Om,o43,o44,Tw,o43,RM,P0,Qw,o43,o44,NR,o43,RD,QN,QM,o43,o44,TM,o43,PZ,Ut] x)
abbrev tree1699:X->PySem.W.BT:=λx=>nf (G (G (G (G (G tree1607 3 [aja]) 12 [aj8]) 1216 [NW]) 1218 [PB]) 1297 [Qi,o43,o44,RK,o43,OS,Sv,OD,o43,o44,Pb,o43,R8,Ob,Ue,o43,o44,Ou,o43,Th,S8,Oa,rA,o43,o44,Oq,o43,O1,T4,Qg,rA,o43,o44,QA,o43,P7,TY,Qv,o43,o44,P1,o43,QT,QZ,OV,o43,o44,Qs,o43,Sa,TF,OC,o43,o44,Uo,o43,Sk,SS,OT,o43,o44,T8,o43,UD,Ph,O5,o43,o44,Tn,o43,O4,Tz,PK,o43,o44,Sn,o43,Oc,Rz,S2,o43,o44,Rj,OL,Uz,QD,Og,Rg,QY,PV,RN,QB,o43,o44,aj1,o43,ajl,ajF,aiM,o43,o44,ahX,aiF,ajH,o43,o44,aj4,o43,ajp,ahf,ait,o43,o44,akg,o43,ahy,ai3,ajS,o43,o44,ahL,o43,ahQ,ahK,aiP,o43,o44,ahN,o43,aiq,ah6,ah4,o43,o44,ahI,ajs,air,o43,o44,akj,o43,ahM,aj7,ahq,o43,o44,aiD,o43,ajY,ajn,aiK,o43,o44,ahH,o43,ako,ah5,aiw,o43,o44,ahT,o43,ahu,ah9,ahJ,o43,o44,ah7,o43,aib,ahE,ai9,o43,o44,ajx,o43,aj3,ajw,aj0] x)
abbrev tree1734:X->PySem.W.BT:=λx=>nf (G (G (G tree1699 3 [ahW]) 12 [ajD]) 1476 [o43,o44,ahx,o43,aiZ,aiJ,ajg,o43,o44,ajE,ahp,aiu,o43,o44,ai0,o43,ajR,aih,aiv,o43,o44,ahP,o43,ain,aiS,ajk,o43,o44,aii,o43,akl,ajL,aiG] x)
abbrev tree1736:X->PySem.W.BT:=λx=>nf (G (G tree1734 3 [ajq]) 1509 [akn] x)
abbrev tree1796:X->PySem.W.BT:=λx=>nf (G (G (G tree1736 3 [ajW]) 12 [ajb]) 1510 [o43,o59,ahD,o43,ajP,ajc,ai2,o43,o44,akm,o43,aju,ai5,ahv,o43,o44,ajr,o43,ai6,aiE,aiB,aio,aim,ajy,ai8,ahm,ajT,ahe,o43,o44,ajA,o43,ahi,akd,aj6,o43,o44,ahk,o43,ahY,ai1,aiN,o43,o44,aiH,o43,aj9,ahO,aiz,o43,o44,ahr,o43,ahV,ajQ,ais] x)
abbrev tree1819:X->PySem.W.BT:=λx=>nf (G (G (G tree1796 3 [aid]) 12 [ajK]) 1566 [o43,o44,ahs,o43,akf,aiU,aik,o43,o44,aj5,o43,ake,aiR,akb,o43,o44,ajI,o43,ajt,ah8,ajf] x)
def heap39:X->PySem.W.Frag:=λx=>nf (pj (fl ((G tree1819 2 [q1]) x)) 0 [2,3,15,17,18,20,21,22,29,30,31,32,35,42,44,45,47,48,49,50,51,54,61,63,64,66,67,68,69,70,73,80,82,83,85,86,87,88,89,92,99,101,102,104,105,106,107,108,111,118,120,121,123,124,125,126,127,130,137,139,140,142,143,144,145,146,149,156,158,159,161,162,163,164,165,168,175,177,178,180,181,182,183,184,187,194,196,197,199,200,201,202,203,206,213,214,215,218,225,227,228,230,231,232,233,234,237,244,246,247,249,250,251,252,253,256,263,265,266,268,269,270,271,272,275,282,284,285,287,288,289,290,291,294,301,303,304,306,307,308,309,310,313,320,322,323,325,326,327,328,329,339,341,342,344,345,346,349,350,351,353,354,356,357,358,360,361,363,364,365,367,368,370,371,372,374,375,377,378,379,380,381,382,383,386,388,389,391,392,400,402,403,405,406,407,409,410,412,413,414,416,417,419,420,421,423,424,426,427,428,430,431,433,434,435,437,438,440,441,442,444,445,447,448,449,451,452,454,455,456,458,459,461,462,463,465,466,468,469,470,471,472,473,474,477,479,480,482,483,484,486,487,489,490,491,493,494,496,497,498,500,501,503,504,505,508,509,510,512,513,515,516,517,519,520,522,523,524,526,527,529,530,531,533,534,536,537,538,540,541,543,544,552,555,556,557,559,560,562,563,564,566,567,569,570,571,573,574,576,577,578,579,580,581,582,585,592,593,595,596,598,599,600,602,603,605,606,607,609,610,612,613,614,617,618,619,621,622,624,625,626,627,628,631,638,639,641,642,644,645,646,648,649,651,652,653,655,656,658,659,660,662,663,665,666,667,669,670,672,673,674,675,676,679,681,682,684,685,686,689,690,691,694,695,696,698,699,701,702,703,705,706,708,709,710,713,714,715,718,719,727,729,730,732,733,734,736,737,739,740,741,743,744,746,747,748,750,751,753,754,755,757,758,760,761,762,764,765,767,768,769,771,772,774,775,776,778,779,781,782,783,786,787,788,789,790,791,792,795,797,798,800,801,802,803,805,806,808,809,810,812,813,815,816,817,819,820,822,823,824,827,828,829,831,832,834,835,836,838,839,841,842,843,845,846,848,849,850,852,853,855,856,857,859,860,862,863,864,866,867,869,870,878,881,882,883,884,885,886,887,890,892,893,895,896,897,900,901,902,904,905,907,908,909,912,913,914,917,918,919,921,922,924,925,926,928,929,931,932,933,935,936,938,939,940,942,943,945,946,947,950,951,952,955,956,957,960,961,962,963,964,965,966,967,968,969,970,971,972,973,974,975,976,977,979,980,982,983,984,987,988,989,991,992,994,995,996,998,999,1001,1002,1003,1005,1006,1008,1009,1017,1019,1020,1022,1023,1024,1025,1026,1027,1028,1031,1038,1040,1041,1043,1044,1045,1047,1048,1050,1051,1052,1053,1054,1057,1064,1065,1067,1068,1070,1071,1072,1074,1075,1077,1078,1079,1080,1081,1084,1091,1093,1094,1096,1097,1098,1100,1101,1103,1104,1105,1106,1107,1110,1117,1120,1121,1122,1125,1126,1127,1128,1129,1132,1139,1141,1142,1144,1145,1146,1149,1150,1151,1152,1153,1156,1158,1159,1161,1162,1163,1166,1167,1168,1171,1172,1173,1176,1177,1178,1180,1181,1183,1184,1185,1188,1189,1190,1192,1193,1195,1196,1197,1200,1201,1202,1205,1206,1207,1209,1210,1212,1213,1221,1223,1224,1226,1227,1228,1230,1231,1233,1234,1235,1237,1238,1240,1241,1242,1244,1245,1247,1248,1249,1251,1252,1254,1255,1256,1258,1259,1261,1262,1263,1265,1266,1268,1269,1270,1272,1273,1275,1276,1277,1279,1280,1282,1283,1284,1286,1287,1289,1290,1291,1293,1294,1296,1297,1298,1300,1301,1303,1304,1305,1307,1308,1310,1311,1312,1314,1315,1317,1318,1319,1320,1322,1323,1325,1326,1327,1328,1330,1331,1333,1334,1335,1337,1338,1340,1341,1342,1344,1345,1347,1348,1349,1351,1352,1354,1355,1356,1358,1359,1361,1362,1363,1365,1366,1368,1369,1370,1372,1373,1375,1376,1377,1380,1381,1382,1383,1384,1385,1386,1389,1391,1392,1394,1395,1396,1399,1400,1401,1403,1404,1406,1407,1408,1410,1411,1413,1414,1415,1417,1418,1420,1421,1422,1424,1425,1427,1428,1429,1432,1433,1434,1436,1437,1439,1440,1441,1443,1444,1446,1447,1448,1450,1451,1453,1454,1455,1457,1458,1460,1461,1462,1464,1465,1467,1468,1469,1471,1472,1474,1475,1476,1478,1479,1481,1482,1483,1486,1487,1488,1490,1491,1493,1494,1495,1497,1498,1500,1501,1502,1504,1505,1507,1508,1509,1517,1519,1520,1522,1523,1524,1526,1527,1529,1530,1531,1532,1533,1534,1535,1538,1540,1541,1543,1544,1545,1547,1548,1550,1551,1552,1554,1555,1557,1558,1559,1561,1562,1564,1565,1566,1568,1569,1571,1572,1573,1575,1576,1578,1579,1580,1582,1583,1585,1586])
def heap46:X->Heap:=λx=>u39 (u40 (nf (fl (tree47 x)))) (u43 u44 u44 u44 0 u45 u44 u15 (u46 u44) u44 0 u15 u15 u15 0 [2000,10,10] u15 0 u31 u44 u44 0 u15)
def heap1820:X->Heap:=λx=>u39 (u40 (nf (fl (tree1819 x)))) (u43 u44 u44 u44 0 u45 u44 u15 (u46 u44) u44 0 u15 u15 u15 0 [2000,10,10] u15 0 u31 u44 u44 0 u15)
end
end Hd
namespace PySem.W.Fast
noncomputable section
noncomputable abbrev hdq{α:Type}(f:Hd.X->α):PySem.Params->α:=λP=>f (PySem.W.Fast.tw13745409909519247493,P)
theorem hdp{α:Type}(f:Hd.X->α):(λP=>f (Hd.hs,P))=hdq f:=congrArg (λσ P=>f (σ,P)) PySem.W.Fast.te13745409909519247493
def tw8706362824032786302:=hdq Hd.heap39
def te8706362824032786302:=hdp Hd.heap39
def tw11682668100065414326:=hdq Hd.heap46
def te11682668100065414326:=hdp Hd.heap46
def tw8690428106030203572:=hdq Hd.tree47
def te8690428106030203572:=hdp Hd.tree47
def tw6384963667169664202:=hdq Hd.tree70
def te6384963667169664202:=hdp Hd.tree70
def tw9782084798336981980:=hdq Hd.tree92
def te9782084798336981980:=hdp Hd.tree92
def tw3121222736345635967:=hdq Hd.tree114
def te3121222736345635967:=hdp Hd.tree114
def tw17150480431054129735:=hdq Hd.tree136
def te17150480431054129735:=hdp Hd.tree136
def tw7072522924341753778:=hdq Hd.tree158
def te7072522924341753778:=hdp Hd.tree158
def tw14686398854770746088:=hdq Hd.tree180
def te14686398854770746088:=hdp Hd.tree180
def tw3745858938121578136:=hdq Hd.tree202
def te3745858938121578136:=hdp Hd.tree202
def tw17413695555168933197:=hdq Hd.tree224
def te17413695555168933197:=hdp Hd.tree224
def tw17878268249614543198:=hdq Hd.tree246
def te17878268249614543198:=hdp Hd.tree246
def tw15093421990111275507:=hdq Hd.tree268
def te15093421990111275507:=hdp Hd.tree268
def tw10618489782721120135:=hdq Hd.tree283
def te10618489782721120135:=hdp Hd.tree283
def tw12709104456253707778:=hdq Hd.tree305
def te12709104456253707778:=hdp Hd.tree305
def tw6045438105754856806:=hdq Hd.tree327
def te6045438105754856806:=hdp Hd.tree327
def tw2453173798761877153:=hdq Hd.tree349
def te2453173798761877153:=hdp Hd.tree349
def tw11196581025585841318:=hdq Hd.tree371
def te11196581025585841318:=hdp Hd.tree371
def tw5317053114866891447:=hdq Hd.tree393
def te5317053114866891447:=hdp Hd.tree393
def tw14054329689995741217:=hdq Hd.tree415
def te14054329689995741217:=hdp Hd.tree415
def tw6677453546208132761:=hdq Hd.tree471
def te6677453546208132761:=hdp Hd.tree471
def tw11918990276362361685:=hdq Hd.tree480
def te11918990276362361685:=hdp Hd.tree480
def tw11948010793908977035:=hdq Hd.tree566
def te11948010793908977035:=hdp Hd.tree566
def tw12109854870080076831:=hdq Hd.tree636
def te12109854870080076831:=hdp Hd.tree636
def tw15476728003320739428:=hdq Hd.tree678
def te15476728003320739428:=hdp Hd.tree678
def tw13069566569498027632:=hdq Hd.tree727
def te13069566569498027632:=hdp Hd.tree727
def tw10002013735052826540:=hdq Hd.tree778
def te10002013735052826540:=hdp Hd.tree778
def tw14862961658035763588:=hdq Hd.tree821
def te14862961658035763588:=hdp Hd.tree821
def tw4862266081219115707:=hdq Hd.tree898
def te4862266081219115707:=hdp Hd.tree898
def tw9206671465052165552:=hdq Hd.tree976
def te9206671465052165552:=hdp Hd.tree976
def tw8086111986806085985:=hdq Hd.tree1033
def te8086111986806085985:=hdp Hd.tree1033
def tw15908861230285177855:=hdq Hd.tree1071
def te15908861230285177855:=hdp Hd.tree1071
def tw12936279840833658874:=hdq Hd.tree1121
def te12936279840833658874:=hdp Hd.tree1121
def tw5445303158007837384:=hdq Hd.tree1146
def te5445303158007837384:=hdp Hd.tree1146
def tw11981785095233314171:=hdq Hd.tree1175
def te11981785095233314171:=hdp Hd.tree1175
def tw11257065625742308393:=hdq Hd.tree1205
def te11257065625742308393:=hdp Hd.tree1205
def tw13915875697186673423:=hdq Hd.tree1234
def te13915875697186673423:=hdp Hd.tree1234
def tw16793385303008702561:=hdq Hd.tree1259
def te16793385303008702561:=hdp Hd.tree1259
def tw4558153948279435484:=hdq Hd.tree1308
def te4558153948279435484:=hdp Hd.tree1308
def tw6674886877905122694:=hdq Hd.tree1346
def te6674886877905122694:=hdp Hd.tree1346
def tw4793543312045703983:=hdq Hd.tree1523
def te4793543312045703983:=hdp Hd.tree1523
def tw4323902659260982090:=hdq Hd.tree1607
def te4323902659260982090:=hdp Hd.tree1607
def tw17557658998619502144:=hdq Hd.tree1699
def te17557658998619502144:=hdp Hd.tree1699
def tw13925926511474361706:=hdq Hd.tree1734
def te13925926511474361706:=hdp Hd.tree1734
def tw8563832228895335975:=hdq Hd.tree1736
def te8563832228895335975:=hdp Hd.tree1736
def tw8272085351460065992:=hdq Hd.tree1796
def te8272085351460065992:=hdp Hd.tree1796
def tw5698757203616828616:=hdq Hd.tree1819
def te5698757203616828616:=hdp Hd.tree1819
def tw12971072538656781033:=hdq Hd.heap1820
def te12971072538656781033:=hdp Hd.heap1820
end
end PySem.W.Fast
namespace Hd
noncomputable section
abbrev pw:=PySem.Challenge.pw_keepsakes_k87_what_the_desk_refuses
def pick(p:PySem.Program)(l:List Nat):List PySem.Stmt:=l.map λi=>p.main.body.getD i (.Pass ⟨0,0,0,0⟩)
def vw(p:PySem.Program)(l:List Nat):PySem.Program:={ p with main:={ p.main with body:=pick p l } }
end
end Hd
namespace PySem.W.Fast
open PySem Hd
noncomputable section
def tw16909013978399496172:=pick pw [9]
def te16909013978399496172:=@rfl _ tw16909013978399496172
def tw9207974145483010988:=pick pw [97]
def te9207974145483010988:=@rfl _ tw9207974145483010988
def tw5536860282627203753:=pick pw [100,101,102,103,104,105,106]
def te5536860282627203753:=@rfl _ tw5536860282627203753
def tw11902468278832024010:=pick pw [87,88,89,90,91,92,93]
def te11902468278832024010:=@rfl _ tw11902468278832024010
def tw4638453845420014513:=pick pw [25]
def te4638453845420014513:=@rfl _ tw4638453845420014513
def tw11168189182815886126:=pick pw [130,131,132,133,134]
def te11168189182815886126:=@rfl _ tw11168189182815886126
def tw6308784455922888196:=pick pw [22]
def te6308784455922888196:=@rfl _ tw6308784455922888196
def tw13793884856767057925:=pick pw [11]
def te13793884856767057925:=@rfl _ tw13793884856767057925
def tw10503471420766031072:=pick pw [98]
def te10503471420766031072:=@rfl _ tw10503471420766031072
def tw15259600425398123809:=pick pw [115]
def te15259600425398123809:=@rfl _ tw15259600425398123809
def tw5926453422348217395:=pick pw [18]
def te5926453422348217395:=@rfl _ tw5926453422348217395
def tw7938903892264076938:=pick pw [14]
def te7938903892264076938:=@rfl _ tw7938903892264076938
def tw2634704188616368245:=pick pw [45,46,47,48,49,50,51,52,53,54,55,56]
def te2634704188616368245:=@rfl _ tw2634704188616368245
def tw14876046892813698051:=vw pw [0,1,2,3,4,5,7,8,9,10,11,12,13,14,15,16,17,18,19,20,21,22,23,25,26,28,30,31,32,33,34,35,36,37,39,40,42,43,44,45,46,48,49,50,51,52,54,55,57,59,61,62,64,65,66,67,68,69,70,72,73,74,75,76,77,78,79,80,81,83,84,85,87,88,89,90,91,92,93,95,96,97,98,99,100,101,103,104,106,107,108,109,110,112,113,115,116,118,119,120,121,122,123,124,125,126,127,128,129,130,131,132,133,134,135,136,138,139,140,141,142,143,144]
def te14876046892813698051:=@rfl _ tw14876046892813698051
def tw12119136054752739526:=pick pw [57]
def te12119136054752739526:=@rfl _ tw12119136054752739526
def tw13894063568330759018:=pick pw [107,108,109,110,111,112,113,114]
def te13894063568330759018:=@rfl _ tw13894063568330759018
def tw68471064327730302:=pick pw [96]
def te68471064327730302:=@rfl _ tw68471064327730302
def tw2291908421332631628:=pick pw [29,30,31,32,33,34,35,36,37,38,39,40,41]
def te2291908421332631628:=@rfl _ tw2291908421332631628
def tw14028851755044417674:=pick pw [136,137,138,139,140,141]
def te14028851755044417674:=@rfl _ tw14028851755044417674
def tw5567048010685859486:=pick pw [94,95]
def te5567048010685859486:=@rfl _ tw5567048010685859486
def tw11467196459340703187:=pick pw [58,59,60,61,62,63,64,65,66,67,68,69,70,71]
def te11467196459340703187:=@rfl _ tw11467196459340703187
def tw17060590737926472085:=pick pw [23,24]
def te17060590737926472085:=@rfl _ tw17060590737926472085
def tw3449059104575457966:=pick pw [13]
def te3449059104575457966:=@rfl _ tw3449059104575457966
def tw2592513955952735193:=pick pw [17]
def te2592513955952735193:=@rfl _ tw2592513955952735193
def tw11643757551843233043:=pick pw [12]
def te11643757551843233043:=@rfl _ tw11643757551843233043
def tw3982294141975624220:=pick pw [20]
def te3982294141975624220:=@rfl _ tw3982294141975624220
def tw11792260491730181538:=pick pw [135]
def te11792260491730181538:=@rfl _ tw11792260491730181538
def tw16078513721843614827:=pick pw [99]
def te16078513721843614827:=@rfl _ tw16078513721843614827
def tw15070977071915084336:=pick pw [42]
def te15070977071915084336:=@rfl _ tw15070977071915084336
def tw7420205011625713822:=pick pw [26,27]
def te7420205011625713822:=@rfl _ tw7420205011625713822
def tw14904275184541675354:=pick pw [43]
def te14904275184541675354:=@rfl _ tw14904275184541675354
def tw18283330952655743462:=pick pw [28]
def te18283330952655743462:=@rfl _ tw18283330952655743462
def tw10463867839712362930:=pick pw [44]
def te10463867839712362930:=@rfl _ tw10463867839712362930
def tw9396768459320820671:=pick pw [0,1,2,3,4,5,6,7]
def te9396768459320820671:=@rfl _ tw9396768459320820671
def tw10853123786651730103:=pick pw [8]
def te10853123786651730103:=@rfl _ tw10853123786651730103
def tw7375156050363585172:=pick pw [16]
def te7375156050363585172:=@rfl _ tw7375156050363585172
def tw399098159223986029:=pick pw [19]
def te399098159223986029:=@rfl _ tw399098159223986029
def tw4982784810450845714:=pick pw [116,117,118,119,120,121,122,123,124,125,126,127,128,129]
def te4982784810450845714:=@rfl _ tw4982784810450845714
def tw13026089718222088096:=pick pw [72,73,74,75,76,77,78]
def te13026089718222088096:=@rfl _ tw13026089718222088096
def tw14203439872332063803:=pick pw [15]
def te14203439872332063803:=@rfl _ tw14203439872332063803
def tw9118702811345332904:=pick pw [21]
def te9118702811345332904:=@rfl _ tw9118702811345332904
def tw8010092949766663718:=pick pw [142,143,144]
def te8010092949766663718:=@rfl _ tw8010092949766663718
def tw10959177883774783935:=pick pw [10]
def te10959177883774783935:=@rfl _ tw10959177883774783935
def tw7201003496168518146:=pick pw [79,80,81,82,83,84,85,86]
def te7201003496168518146:=@rfl _ tw7201003496168518146
end
end PySem.W.Fast
local macro_rules|`(tactic|ac_rfl)=>`(tactic|first|k_is|kit_is|kernel_rfl|decide)
namespace Hk
open PySem PySem.W
def lvO (o:Obj):Option Obj:=match o with
  | ⟨_,_,.freed,_⟩=>none
  | o=>some o
def pk:List Obj -> Nat -> List Nat -> List (Option Obj)
  | [],_,as=>as.map λ_=>none
  | _ :: _,_,[]=>[]
  | o :: r,i,a :: as=>bif Nat.beq a i then lvO o :: pk r (i + 1) as else pk r (i + 1) (a :: as)
theorem pk_at:∀ {l:List Obj} {i:Nat} {as:List Nat} {xs:List Obj},pk l i as = xs.map some -> ∀ (k a:Nat) (x:Obj),as[k]? = some a -> xs[k]? = some x -> ∃ j o,a = i + j /\ l[j]? = some o /\ lvO o = some x
  | [],i,as,xs,h,k,a,x,ha,hx=>by
    have:=congrArg (λl=>l[k]?) h
    simp [pk,ha,hx] at this
  | o :: r,i,[],xs,h,k,a,x,ha,hx=>by simp at ha
  | o :: r,i,b :: as,xs,h,k,a,x,ha,hx=>by
    unfold pk at h
    cases e:Nat.beq b i
    · rw [e] at h
      obtain ⟨j,o',h1,h2,h3⟩:=pk_at h k a x ha hx
      exact ⟨j + 1,o',by omega,by simpa using h2,h3⟩
    · rw [e] at h
      have e:=Nat.eq_of_beq_eq_true e
      subst e
      cases xs with
      | nil=>simp at hx
      | cons y xs =>
        simp only [cond_true,List.map_cons,List.cons.injEq] at h
        cases k with
        | zero =>
          simp at ha hx
          subst ha hx
          exact ⟨0,o,rfl,rfl,h.1⟩
        | succ k =>
          obtain ⟨j,o',h1,h2,h3⟩:=pk_at h.2 k a x (by simpa using ha) (by simpa using hx)
          exact ⟨j + 1,o',by omega,by simpa using h2,h3⟩
theorem get_lv {h:Heap} {a:Nat} {o x:Obj} (e:h.objs.toList[a]? = some o) (l:lvO o = some x):h.get? a = some x:=by
  unfold Heap.get?
  rw [← Array.getElem?_toList,e]
  obtain ⟨c,d,dt,s⟩:=o
  cases dt <;> first | exact l | cases l
theorem pk_map {h:Heap} {as:List Nat} {xs:List Obj} (e:pk h.objs.toList 0 as = xs.map some) (hl:as.length = xs.length):as.map h.get? = xs.map some:=by
  refine List.ext_getElem? λk=>?_
  rw [List.getElem?_map,List.getElem?_map]
  by_cases hk:k < as.length
  · have hx:k < xs.length:=by omega
    obtain ⟨j,o,h1,h2,h3⟩:=pk_at e k as[k] xs[k] (List.getElem?_eq_getElem hk) (List.getElem?_eq_getElem hx)
    rw [List.getElem?_eq_getElem hk,List.getElem?_eq_getElem hx]
    simp only [Option.map_some,Option.some.injEq]
    rw [h1,Nat.zero_add]
    exact get_lv h2 h3
  · rw [List.getElem?_eq_none (by omega),List.getElem?_eq_none (by omega)]; rfl
def qHook (K:Params -> Frag) (as:List Addr) (e:∀ P,as = (K P).map (·.1)) (ts:List Addr):Hook where
  α:=List (Option Obj) × List (Option Obj)
  obs:=λs=>(pk s.heap.objs.toList 0 as,ts.map s.heap.get?)
  val:=λw=>((K w.params).map λp=>some p.2,ts.map λ_=>some (tabObj #[]))
  says:=λw h=>InK K w h /\ ∀ P ∈ ts,h.get? P = some (tabObj #[])
  of:=λw s x=>⟨InK.of e w s (by
    have h1:=(Prod.mk.inj x).1
    have h2:((K w.params).map λp=>some p.2) = ((K w.params).map (·.2)).map some:=by rw [List.map_map]; rfl
    rw [h2] at h1 ⊢
    exact pk_map h1 (by rw [e w.params]; simp)),List.map_inj_left.mp (Prod.mk.inj x).2⟩
  keeps:=λw h h' x k=>⟨InK.keeps w h h' x.1 k,λP hP=>k _ _ (x.2 P hP)⟩
theorem in_of {K:Params -> Frag} {as:List Addr} {e:∀ P,as = (K P).map (·.1)} {ts:List Addr} {w:World} {h:Heap} (Y:(qHook K as e ts).says w h):(K w.params).In h:=Y.1
end Hk
open Lean in
local macro_rules|`(tactic|o_head ($f:ident $k $a $e $t))=>if f.getId.eraseMacroScopes==`kmHook then `(tactic|o_head (Hk.qHook $k $a $e $t)) else Macro.throwUnsupported
set_option maxRecDepth 100000 in
set_option maxHeartbeats 0 in
theorem PySem.Challenge.cw_keepsakes_k87_what_the_desk_refuses_holds : PySem.Challenge.rw_keepsakes_k87_what_the_desk_refuses.Holds := by
 w_on;o_law;k_head;(case hw=>w_witness2)
 k_fill
 refine Mine.walk (l:=PySem.Challenge.rw_keepsakes_k87_what_the_desk_refuses) rfl rfl (λ w h Y=>Hk.in_of Y) ?F
 case F =>
  intro w mg fa h KX G hmg
  refine' Mine.all_mk KX G hmg _ _ _ _ ⟨KX,G,_,_,_,_,_,_,_,_,_,_,_,_,_,_,_,_,_,_,_,_,_,_,_,_,_,_,_,_,_,_,_,_,_,_,_,_,_,_,_,_,_,_,_,_,_,_,_,_,_,_,_,_,_,_,_,_,_,_,_,_,_,_,_,_,_,_,_,_,_,_,_,_,_,_,_,_,_,_,_,_,_,_,_,_,_,_,_,_,_,_,_,_,_,_,_,_,_,_,_,_,_,_,_,_,_,_,_,_,_,_,_,_,_,_,_,_,_,_,_,_,_,_,_,_,_,_,_,_,_,_,_,_,_,_,_,_,_,_,_,_,_,_,_,_,_,_,_,_,_,_,_,_,_,_,_,_,_,_,_,_,_,_,_,_,_,_,_,_,_,_,_,_,_,_,_,_,_,_,_,_,_,_,_,_,_,_,_,_,_,_,_,_,_,_,_,_,_,_,_,_,_,_,_,_,_,_,_,_,_,_,_,_,_,_,_,_,_,_,_,_,_,_,_,_,_,_,_,_,_,_,_,_,_,_,_,_,_,_,_,_,_,_,_,_,_,_,_,_,_,_,_,_,_,_,_,_,_,_,_,_,_,_,_,_,_,_,_,_,_,_,_,_,_,_⟩
  all_goals first|(show L2.GF _ _ _;exact⟨_,_,by unfold L2.GA;ac_rfl,⟨⟨_,_,_,_,_,_,_,_,_,rfl,by ac_rfl,by ac_rfl⟩,by ac_rfl⟩⟩)|(show L2.MF _ _ _ _ _;exact⟨_,by unfold L2.FA;ac_rfl,by ac_rfl,_,⟨⟨_,_,_,_,_,_,_,_,_,rfl,by ac_rfl,by ac_rfl⟩,by ac_rfl⟩⟩)|(show L2.MV _ _ _ _ _;exact⟨by ac_rfl,_,⟨⟨_,_,_,_,_,_,_,_,_,rfl,by ac_rfl,by ac_rfl⟩,by ac_rfl⟩⟩)|(show L2.EC _ _;exact⟨⟨by ac_rfl,by ac_rfl,by ac_rfl,by ac_rfl,by ac_rfl,by ac_rfl,by ac_rfl⟩,by ac_rfl⟩)|(show L2.PX _ _;exact⟨⟨by ac_rfl,by ac_rfl,by ac_rfl,by ac_rfl⟩,by ac_rfl,by ac_rfl⟩)|((first|unfold L2.GA|unfold L2.GN|unfold L2.FA|unfold L2.aJ|skip);ac_rfl)|skip
