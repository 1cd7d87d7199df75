import PyProof.Rows.All
import Wide.FinOn
import Lean
import PyProof.EqAt
import PyProof.EqKinds
import PyProof.TupleCall
import PyProof.AttrMissHeap
import PyProof.DictWalks
import KE.KDictObj
import KE.KEqDict
import KE.KUnpack
import PyProof.Rows.SetFrom
import KE.KRevIter
import KE.KDictSum
import KE.KFmtOwn
import PyProof.FactsAll.set_1
import PyProof.FactsAll.set_2
import PyProof.FactsAll.tuple_1
import PyProof.FactsAll.tuple_2
import KE.KSortTup
import PyProof.SetRoads
import PyProof.DictValues
import PyProof.FactsAll.dict_4
import PyProof.Rows.CallKwBuiltin
import PyProof.DictCopy
import KE.KDictList
import KE.KPairComp
import PyProof.DictItems
import PyProof.MinMaxWalk
import PyProof.WalkInts
import PyProof.RulesTry
import PyProof.ListRange
import PyProof.RangeFor
import KE.KNest
import KE.KLam
import PyProof.LongRange
import PyProof.SeqRoads2
import PySem.Challenge.RW_keepsakes_k89_plans_at_the_desk
import OpenK.KSplit
import OpenK.KNot
import OpenK.KApp
import KE.KItem
import KE.IntText
import KE.IntTextLaws
import KE.BitLaws
import KE.KFromBytes
import KE.KMinKey
import KE.KIntText
import KE.KIsAll
import KE.KDictOf
import KE.KxBytes
import KE.KSortAsk
import KE.KDictLaws
import KE.KNestM
import KE.RegKIsAll
set_option compiler.extract_closed false
section
variable{A B C D E:Sort _}{G:Prop}
theorem ξ1{p:A→Prop}(h:∃a,p a)(g:∀a,p a→G):G:=h.elim g
theorem ξ2{p:A→B→Prop}(h:∃a b,p a b)(g:∀a b,p a b→G):G:=h.elim λa h=>ξ1 h (g a)
theorem ξ3{p:A→B→C→Prop}(h:∃a b c,p a b c)(g:∀a b c,p a b c→G):G:=h.elim λa h=>ξ2 h (g a)
theorem ξ4{p:A→B→C→D→Prop}(h:∃a b c d,p a b c d)(g:∀a b c d,p a b c d→G):G:=h.elim λa h=>ξ3 h (g a)
theorem ξ5{p:A→B→C→D→E→Prop}(h:∃a b c d e,p a b c d e)(g:∀a b c d e,p a b c d e→G):G:=h.elim λa h=>ξ4 h (g a)
theorem ψ2{p q:Prop}(h:p∧q)(g:p→q→G):G:=h.elim g
theorem ψ3{p q r:Prop}(h:p∧q∧r)(g:p→q→r→G):G:=h.elim λa b=>ψ2 b (g a)
theorem ψ4{p q r s:Prop}(h:p∧q∧r∧s)(g:p→q→r→s→G):G:=h.elim λa b=>ψ3 b (g a)
theorem ψ5{p q r s t:Prop}(h:p∧q∧r∧s∧t)(g:p→q→r→s→t→G):G:=h.elim λa b=>ψ4 b (g a)
theorem ψ6{p q r s t u:Prop}(h:p∧q∧r∧s∧t∧u)(g:p→q→r→s→t→u→G):G:=h.elim λa b=>ψ5 b (g a)
theorem ψ7{p q r s t u v:Prop}(h:p∧q∧r∧s∧t∧u∧v)(g:p→q→r→s→t→u→v→G):G:=h.elim λa b=>ψ6 b (g a)
theorem ψ8{p q r s t u v w:Prop}(h:p∧q∧r∧s∧t∧u∧v∧w)(g:p→q→r→s→t→u→v→w→G):G:=h.elim λa b=>ψ7 b (g a)
theorem ψ9{p q r s t u v w x:Prop}(h:p∧q∧r∧s∧t∧u∧v∧w∧x)(g:p→q→r→s→t→u→v→w→x→G):G:=h.elim λa b=>ψ8 b (g a)
end
open Lean Parser.Tactic in
local macro_rules|`(tactic|obtain ⟨$ps,*⟩:=$h:term)=>do
 let mut xs:Array Term:=#[]
 let mut tl:=#[]
 for p in ps.getElems do
  let s:=p.raw[0][0]
  let i:=s[0][0]
  if s.getNumArgs==1&&s[0].getKind== ``rcasesPat.one&&i.getId != `rfl then xs:=xs.push ⟨i⟩
  else
   let y:=mkIdent (←Macro.addMacroScope (.mkSimple s!"x{xs.size}"))
   xs:=xs.push y
   tl:=tl.push (←`(tactic|rcases $y:ident with $p))
 let c←if h.raw.isIdent then`(tactic|try clear $(⟨h⟩))else`(tactic|skip)
 let m:=xs.size
 let e s k:=mkIdent (.mkSimple s!"{s}{k}")
 let mut l:Array (TSyntax ``tacticSeq):=#[]
 for k in [0:6]do
  if k<m then
   let n:=m-k
   let b:=xs.extract k m
   let a:=xs.extract 0 k
   let q←if n==1 then`(tactic|intro $b*)else`(tactic|(intro z;refine $(e "ψ" n) z ?_;clear z;intro $b*))
   l:=l.push (←if k==0 then`(tacticSeq|refine $(e "ψ" n) $h ?_;$c;intro $b*;$[$tl];*)else`(tacticSeq|refine $(e "ξ" k) $h ?_;$c;intro $a*;$q;$[$tl];*))
 l:=l.push (←`(tacticSeq|rcases $h:term with ⟨$ps,*⟩))
 `(tactic|first $[|$l]*)
open Lean Parser.Tactic in
local macro_rules|`(tactic|rintro $ps*)=>do
 let l:=ps.back!.raw[0]
 if l.getKind != ``rcasesPat.tuple then Macro.throwUnsupported
 let q:TSyntaxArray ``rcasesPatLo:=l[1].getSepArgs.map (⟨·⟩)
 let i:=ps.pop
 let a←if i.isEmpty then`(tactic|skip)else`(tactic|rintro $i*)
 `(tactic|($a;intro z;obtain ⟨$q,*⟩:=z))
local macro_rules|`(tactic|omega)=>`(tactic|lia)
open Lean in
local macro_rules|`($x:ident)=>match x.getId with|`Z0=>`(none)|`Z1=>`(true)|`Z2=>`(false)|`Z3=>`(Prop)|`Z4=>`(Int)|`Z5=>`(Nat)|`Z6=>`(PySem.Str)|`Z7=>`(PySem.sizeLine)|`Z8=>pure (mkIdent `L2.V.int)|_=>Macro.throwUnsupported
open Lean Parser.Tactic in
def πp:Nat→Term→MacroM (TSyntax ``rcasesPatLo)
|n+1,x=>match x with|`(⟨$a,*⟩)=>do `(rcasesPatLo|⟨$(←a.getElems.mapM (πp n)),*⟩)|`(_)=>`(rcasesPatLo|_)|x=>`(rcasesPatLo|$(⟨x⟩):ident)
|_,_=>Macro.throwUnsupported
local macro_rules|`(tactic|let $d:letDecl)=>`(tactic|have $d:letDecl)
open Lean in
local macro_rules|`(tactic|let ⟨$a,*⟩:=$e)=>do `(tactic|obtain ⟨$(←a.getElems.mapM (πp 9)),*⟩:=$e)
local macro_rules|`(↥$n)=>`(($n : Int))
set_option hygiene false
local macro_rules|`(⋯)=>`(aM P w K mg base (CXx P w))
set_option hygiene true
local macro_rules|`(⇑$h)=>`(by simpa using $h)
open Lean in def μq(xs:Array Term):MacroM (Array Term):=do
 let mut a:=#[]
 for x in xs do
  match x with
  |`(1)=>a:=a++#[←`(_),←`(rfl)]
  |`(2)=>a:=a++#[←`(_),←`(rfl),←`(_),←`(rfl)]
  |`(3)=>a:=a++#[←`(_),←`(_),←`(rfl),←`(rfl)]
  |_=>a:=a.push x
 return a
local macro_rules(kind:=«term{_}»)|`({$xs,*})=>do let a←μq xs;`(⟨$a,*⟩)
local macro_rules|`(tactic|exists $xs,*)=>do let a←μq xs;`(tactic|refine ⟨$a,*, ?_⟩)
local macro_rules|`(~~~$s)=>`(($s).heap.objs.size)
set_option linter.all false
def aiE:=@List.length_map
def aiF:=@PySem.wpAny_bind
def aiG:=@List.getElem?_eq_getElem
def aiH:=@List.getElem?_eq_some_iff
def aiI:=@PySem.Heap.get?_push_of_some
def aiJ:=@if_neg
def aiK:=@PySem.wpAny_pure
def aiL:=@Nat.le_refl
def aiM:=@List.getElem?_append_left
def aiN:=@if_pos
def aiO:=@List.getElem?_append_right
def aiP:=@PySem.Heap.lt_size
def aiQ:=@List.mem_of_getElem?
def aiR:=@List.getElem?_map
def aiS:=@decide_eq_true
def aiT:=@PySem.boot_len
def aiU:=@List.mem_cons
def aiV:=@List.length_take
def aiW:=@PySem.Heap.get?_push_size
def aiX:=@decide_eq_false
def aiY:=@Option.some.inj
def aiZ:=@List.mem_cons_of_mem
def ai0:=@List.mem_append
def ai1:=@List.take_add_one
def ai2:=@List.getD_eq_getElem?_getD
def ai3:=@List.size_toArray
def ai4:=@Bool.false_ne_true
def ai5:=@PySem.W.mg_of
def ai6:=@PySem.F.plainAttrs_list
def ai7:=@List.mem_singleton
def ai8:=@List.take_length
def ai9:=@Nat.le_trans
def aja:=@Option.map_eq_some_iff
def ajb:=@List.map_append
def ajc:=@Nat.zero_le
def ajd:=@PySem.PassesOwn.leaving
def aje:=@List.mem_map
def ajf:=@PySem.F.slot_list_append
def ajg:=@PySem.F.type_list_append
def ajh:=@List.map_cons
def aji:=@List.length_append
def ajj:=@List.nodup_cons
def ajk:=@List.mem_append_right
def ajl:=@Nat.lt_of_lt_of_le
def ajm:=@PySem.W.mg_none_of
def ajn:=@of_decide_eq_true
def ajo:=@List.forall_mem_cons
def ajp:=@List.length_cons
def ajq:=@List.lookup_cons
def ajr:=@List.cons_eq_cons
def ajs:=@Nat.ne_of_lt
def ajt:=@Nat.le_of_lt
def aju:=@List.mem_iff_getElem?
def ajv:=@PyProof.Rows.callWith_type1
def ajw:=@PySem.Heap.get?_update_self
def ajx:=@List.getElem?_eq_none
def ajy:=@Array.getElem?_eq_some_iff
def ajz:=@PySem.wpAny_mono
def ajA:=@PySem.Heap.get?_update_other
def ajB:=@List.take_of_length_le
def ajC:=@PySem.wpAny_newObj_type
def ajD:=@PySem.wpAny_Call_Name_kw
def ajE:=@PySem.wpAny_field
def ajF:=@List.getElem_mem
def ajG:=@PySem.F.plainAttrs_str
def ajH:=@Ne.symm
def ajI:=@Array.getElem?_toList
def ajJ:=@Int.mul_nonneg
def ajK:=@PyProof.Rows.boot_str
def ajL:=@PySem.W.kia_one
def ajM:=@Int.le_refl
def ajN:=@List.mem_cons_self
def ajO:=@PySem.Obj.data_mapFields
def ajP:=@Int.emod_lt_of_pos
def ajQ:=@PySem.wpAny_callSpecial?_slot
def ajR:=@PyProof.Rows.boot_tuple
def ajS:=@PySem.wpAny_call_entry
def ajT:=@Array.length_toList
def ajU:=@Array.getElem?_eq_getElem
def ajV:=@PySem.wpAny_loadPart'
def ajW:=@List.length_replicate
def ajX:=@List.take_append_of_le_length
def ajY:=@PySem.F.called_set
def ajZ:=@List.mem_append_left
def aj0:=@PySem.Heap.size_push
def aj1:=@PySem.Around.under_plainId
def aj2:=@PySem.wpAny_truthy_bool
def aj3:=@Int.emod_nonneg
def aj4:=@Nat.lt_irrefl
def aj5:=@Classical.byContradiction
def aj6:=@PyProof.Rows.toString_length_le
def aj7:=@List.getElem?_take_of_lt
def aj8:=@PySem.codeAny_builtin
def aj9:=@Nat.succ.inj
def aka:=@PySem.wpAny_holding
def akb:=@Int.eq_ofNat_of_zero_le
def akc:=@beq_eq_false_iff_ne
def akd:=@PySem.Heap.SameBut.update
def ake:=@List.mem_map_of_mem
def akf:=@List.map_congr_left
def akg:=@PySem.wpAny_setField
def akh:=@List.all_eq_true
def aki:=@PySem.F.slot_str_split
def akj:=@PySem.F.type_str_split
def akk:=@PySem.Calls.spliced_cons
def akl:=@Nat.lt_of_le_of_lt
def akm:=@PySem.W.callWith_K
def akn:=@PyProof.Rows.F.plain_set_update_loop
def ako:=@PySem.F.slot_enumerate_next
def akp:=@List.map_map
def akq:=@PySem.wpAny_passesOwn
def akr:=@List.append_nil
def aks:=@PySem.Obj.isFreed_of_fields
def akt:=@PySem.W.KIN.signs_num
def aku:=@PyProof.Rows.boot_max
def akv:=@PyProof.Rows.boot_int
def akw:=@Nat.mod_two_eq_zero_or_one
def akx:=@PySem.Calls.spliced_nil
def aky:=@List.append_assoc
def akz:=@List.drop_eq_getElem_cons
def akA:=@Nat.lt_succ_self
def akB:=@Option.isSome_iff_exists
def akC:=@Bool.and_eq_true
def akD:=@Option.getD_some
def akE:=@PySem.mem_of_lookup
def akF:=@List.replicate_succ
def akG:=@List.getElem_of_mem
def akH:=@PyProof.Rows.slot_tuple_getitem
def akI:=@Bool.eq_iff_iff
def akJ:=@PySem.call_meets
def akK:=@List.range_succ
def akL:=@of_decide_eq_false
def akM:=@Int.natCast_add
def akN:=@Nat.lt_of_succ_lt_succ
def akO:=@Int.mul_le_mul_of_nonneg_left
def akP:=@Nat.lt_succ_of_lt
def akQ:=@Nat.ne_of_gt
def akR:=@PySem.codeAny_mono
def akS:=@PySem.StrLaws.glued_eq_join
def akT:=@PySem.builtinLookup_eq_fast
def akU:=@PyProof.Rows.boot_min
def akV:=@List.any_eq_true
def akW:=@PySem.wpAny_askSetting
def akX:=@List.any_cons
def akY:=@Sum.inl.inj
def akZ:=@Nat.le_succ
def ak0:=@List.length_reverse
def ak1:=@PySem.wpAny_execs_nil
def ak2:=@PySem.F.slot_dict_getitem
def ak3:=@Nat.not_lt_zero
def ak4:=@PySem.F.plain_extend_loop
def ak5:=@PySem.wpAny_pyIter_tuple
def ak6:=@Nat.le_of_eq
def ak7:=@PySem.F.args_tuple_add_2
def ak8:=@List.map_nil
def ak9:=@PySem.tupleKind_room_in1
def ala:=@Nat.pos_of_ne_zero
def alb:=@List.getElem?_drop
def alc:=@PySem.StrLaws.join_split
def ald:=@PySem.AutoSeq1.wpAny_loadPart'
def ale:=@PyProof.Rows.F.entry_set_update_loop
def alf:=@PySem.F.slot_list_extend
def alg:=@PySem.F.type_list_extend
def alh:=@List.filter_append
def ali:=@List.mem_range
def alj:=@beq_iff_eq
def alk:=@PySem.F.entry_tuple_add
def alm:=@Nat.toDigits_of_lt_base
def aln:=@List.length_eq_zero_iff
def alo:=@PySem.F.slot_list_index
def alp:=@PySem.Value.isInt_shape
def alq:=@PySem.wpAny_pyIter_list
def alr:=@List.flatten_cons
def als:=@PySem.F.args_tuple_iterator_next_1
def alu:=@List.ext_getElem?
def alv:=@PySem.wpAny_setState_of
def alw:=@List.pairwise_map
def alx:=@PySem.F.slot_tuple_add
def aly:=@PySem.Calls.callWith_builtin
def alz:=@PySem.F.entry_tuple_iterator_next
def alA:=@PySem.wpAny_of_eq
def alB:=@PySem.plainId_quiet
def alC:=@List.length_drop
def alD:=@Nat.le_of_not_lt
def alE:=@PySem.F.slot_tuple_iterator_next
def alF:=@PySem.F.slot_dict_get
def alG:=@PySem.W.methodCall_KW
def alH:=@List.take_append_drop
def alI:=@PySem.F.slot_str_join
def alJ:=@PySem.F.type_str_join
def alK:=@PyProof.Rows.callWith_builtin1
def alL:=@PyProof.Rows.intsAre_of
def alM:=@Option.map_some
def alN:=@Nat.lt_trans
def alO:=@PySem.wpAny_specialOf
def alP:=@Nat.min_eq_left
def alQ:=@PySem.typeLookup_type
def alR:=@Int.mul_le_mul_of_nonneg_right
def alS:=@PySem.F.args_enumerate_next_1
def alT:=@List.filterMap_cons
def alU:=@PySem.W.plainGet_of
def alV:=@ne_true_of_eq_false
def alW:=@List.length_pos_iff
def alX:=@PySem.wpAny_setEntries_of
def alY:=@Nat.toDigits_append_toDigits
def alZ:=@PySem.F.entry_enumerate_next
def al0:=@PySem.sizeLine_eq
def al1:=@List.filterMap_map
def al2:=@PySem.F.args_str_split_2
def al3:=@List.map_filterMap
def al4:=@PySem.wpAny_setField_rec
def al5:=@PySem.Calls.Name_function_global
def al6:=@PySem.wpAny_attempt
def al7:=@Option.isSome_map
def al8:=@PySem.F.entry_str_split
def al9:=@PySem.Obj.cls_mapFields
def ama:=@PySem.wpAny_pyIter_enum
def amb:=@List.reverse_cons
def amc:=@Nat.lt_trichotomy
def amd:=@List.length_range
def ame:=@List.nodup_append
def amf:=@Classical.not_not
def amg:=@PySem.typeIs_str
def amh:=@List.getElem?_zip_eq_some
def ami:=@List.getElem?_eq_none_iff
def amj:=@List.perm_append_left_iff
def amk:=@PySem.F.entry_extend_loop
def aml:=@PySem.noFill_tuple_add
def amm:=@PySem.wpAny_getItem_of
def amn:=@PySem.wpAny_comprehension_free
def amo:=@List.perm_middle
def amq:=@PySem.F.slot_str_split
def amr:=@List.filter_cons
def ams:=@PySem.wpAny_isInstance
def amt:=@Int.le_trans
def amu:=@Nat.lt_or_ge
def amv:=@List.map_reverse
def amw:=@Int.zero_add
def amx:=@List.getElem?_replicate
def amy:=@PySem.F.args_dict_get_2
def amz:=@PySem.StrLaws.found_one
def amA:=@List.getElem?_cons_succ
def amB:=@PySem.F.type_list_index
def amC:=@List.of_mem_zip
def amD:=@List.length_set
def amE:=@List.foldl_cons
def amF:=@PySem.wpAny_ite_split
def amG:=@PySem.wpAny_updateSeq
def amH:=@List.getElem?_set_self
def amI:=@PySem.W.cellsFrom_some
def amK:=@PySem.F.entry_dict_get
def amN:=@Int.add_mul
def amO:=@Array.getElem?_eq_none
def amP:=@List.drop_of_length_le
def amQ:=@PyProof.Rows.boot_list
def amS:=@PySem.intText_digits
def amU:=@PySem.F.plain_set_new
def amV:=@PySem.isSubtype_type
def amW:=@PySem.F.slot_set_iter
def amX:=@Nat.le_of_ble_eq_true
def amY:=@List.length_filter_le
def amZ:=@List.getElem?_set_ne
def am1:=@List.length_dropLast
def am2:=@PySem.wpAny_call
def am3:=@Nat.mod_lt
def am4:=@PySem.W.KIN.val_back
def am5:=@List.reverse_reverse
def am7:=@Nat.mul_le_mul_right
def am9:=@List.mem_of_mem_take
def anf:=@List.map_take
def ang:=@PySem.W.callWith_K0
def anh:=@List.findSome?_cons
def anj:=@List.mergeSort_perm
def ank:=@List.getElem?_range
def anl:=@List.reverse_append
def anp:=@List.mem_filterMap
def anv:=@List.ne_nil_of_mem
def anw:=@Nat.eq_zero_or_pos
def anx:=@Nat.lt_or_eq_of_le
def anA:=@Nat.sub_self
def anB:=@List.map_inj_right
def anC:=@Int.sub_add_cancel
def anD:=@List.getElem?_take
def anO:=@Nat.pow_pos
open PySem.W (instObj methodObj Frag lookIn plainGet hasDictIn findIn handedIn isFn plainOver takerIn Looks makesIn typeIn emptyDict keepIn specialIn mroIn kitOne kitx_list kitx_dict fnOf codeIn OpenLaw WalkO readsIn findCls KdlSrc nsIn)
set_option Elab.async false
set_option linter.all false
set_option maxRecDepth 100000
def o4{p:Z3}(h:p:=by decide +kernel):p:=h
def o5{p:Z3}(h:p:=by first|decide|(dsimp only;decide)):p:=h
def o6{p:Z3}(h:p:=by omega):p:=h
def o7{p:Z3}(h:p:=by decide):p:=h
def o8{p:Z3}(h:p:=by simp):p:=h
def o9{p:Z3}(h:p:=by rfl):p:=h
def J{α:Sort u}{a:α}:a=a:=Eq.refl a
abbrev fy:=List
abbrev jl:=PySem.Addr
abbrev mu:=PySem.Value
abbrev nt:=Option
abbrev q8:=PySem.Shared
abbrev q9:=PySem.FuncData
abbrev sA:=Array
abbrev t6:=PySem.Program
abbrev t7:=PySem.World
namespace L2
open PySem PySem.Spec PyProof.Rows
abbrev Key:=Sum Z4 Z6
def sJ:Key->mu->Bool
 |.inl k,v=>Value.isInt k v
 |.inr x,v=>Value.isStrOf x v
def ag2(w:t7):Key->Z4
 |.inl k=>hashInt k
 |.inr x=>hashStr w x
def dJ:∀{k:Key}{v:mu},sJ k v=Z1->(∃i t,k=Sum.inl i/\v=Value.int i t)∨(∃x t,k=Sum.inr x/\v=Value.str x t)
 |.inl i,v,h=>by let⟨t,e⟩:=alp (k:=i) (v:=v) h;exact .inl ⟨i,t,J,e⟩
 |.inr x,v,h=>by let⟨t,e⟩:=Value.isStrOf_shape (x:=x) (v:=v) h;exact .inr ⟨x,t,J,e⟩
def FP(i:Z4)(t:Tok):sJ (.inl i) (.int i t)=Z1:=by simp[sJ,Value.isInt]
def sC(x:Z6)(t:Tok):sJ (.inr x) (.str x t)=Z1:=by simp[sJ,Value.isStrOf]
def Yw(a b:Z4):decide ((Sum.inl a:Key)=Sum.inl b) =(a==b):=by
 by_cases e:a=b
 .subst e;simp
 .let h:¬(Sum.inl a:Key)=Sum.inl b:=λq=>e (akY q)
  rw[aiX h];exact(akc.mpr e).symm
def Tg(a b:Z6):decide ((Sum.inr a:Key)=Sum.inr b)=decide (a=b):=by
 by_cases e:a=b
 .subst e;simp
 .let h:¬(Sum.inr a:Key)=Sum.inr b:=λq=>e (Sum.inr.inj q)
  rw[aiX h,aiX e]
def adi(a:Z4)(b:Z6):decide ((Sum.inl a:Key)=Sum.inr b)=Z2:=aiX λq=>nomatch q
def acd(a:Z6)(b:Z4):decide ((Sum.inr a:Key)=Sum.inl b)=Z2:=aiX λq=>nomatch q
def cu(prog:t6)(w:t7):PySem.KeyKind prog w Key where
 is:=sJ
 hash:=ag2 w
 inj:=λv a b g f=>by
  rcases dJ g with⟨i,t,rfl,rfl⟩|⟨x,t,rfl,rfl⟩
  .rcases dJ f with⟨j,u,rfl,e⟩|⟨y,u,rfl,e⟩
   .injection e with e1 _;rw[e1]
   .exact nomatch e
  .rcases dJ f with⟨j,u,rfl,e⟩|⟨y,u,rfl,e⟩
   .exact nomatch e
   .injection e with e1 _;rw[e1]
 byValue:=λk v h=>by rcases dJ h with⟨i,t,rfl,rfl⟩|⟨x,t,rfl,rfl⟩ <;> rfl
 pyHash:=λc h=>by
  rcases dJ c with⟨i,t,rfl,rfl⟩|⟨x,t,rfl,rfl⟩
  .exact wpAny_pyHash_int h
  .exact wpAny_pyHash_str h
 eqBool:=λl c h=>by
  rcases dJ l with⟨i,t,rfl,rfl⟩|⟨x,t,rfl,rfl⟩
  .rcases dJ c with⟨j,u,rfl,rfl⟩|⟨y,u,rfl,rfl⟩
   .rw[Yw] at h;exact wpAny_eqBool_int h
   .rw[adi] at h;exact SeqAt.EqAt.int_str i t y u _ _ _ _ h
  .rcases dJ c with⟨j,u,rfl,rfl⟩|⟨y,u,rfl,rfl⟩
   .rw[acd] at h;exact SeqAt.EqAt.str_int x t j u _ _ _ _ h
   .rw[Tg] at h;exact wpAny_eqBool_str h
 «strs»:=λk x t v h=>by
  rcases dJ h with⟨i,u,rfl,e⟩|⟨y,u,rfl,e⟩
  .exact nomatch e
  .injection e with e1 _
   subst e1;cases v <;> rfl
def BC(prog:t6)(w:t7)(i:Z4)(t:Tok):(cu prog w).is (.inl i) (.int i t)=Z1:=FP i t
def BE(prog:t6)(w:t7)(x:Z6)(t:Tok):(cu prog w).is (.inr x) (.str x t)=Z1:=sC x t
inductive V where
 |non|bl (b:Bool)|int (i:Z4)|str (x:Z6)|byt (b:sA UInt8)|flt (b:UInt64)|ref (a:jl)|ty (n:String)
 deriving DecidableEq
def RelV:V->mu->Z3
 |.non,u=>u=Value.none
 |.bl b,u=>u=Value.bool b
 |.int i,u=>∃t,u=Value.int i t
 |.str x,u=>∃t,u=Value.str x t
 |.byt b,u=>∃t,u=Value.bytes b t
 |.flt b,u=>∃t,u=Value.float b t
 |.ref a,u=>u=Value.ref a
 |.ty n,u=>u=Value.type n
abbrev Vals:fy V->fy mu->Z3:=Paired RelV
def Vals.length{xs:fy V}{us:fy mu}(r:Vals xs us):xs.length=us.length:=Paired.length r
def Vals.get:∀{xs:fy V}{us:fy mu}{i:Z5}{x:V},Vals xs us->xs[i]?=some x->∃u,us[i]?=some u/\RelV x u
 |_,_,_,_,.nil,e=>by simp at e
 |_,_,0,_,.cons r _,e=>by simp at e;subst e;exact{1,r}
 |_,_,i+1,x,.cons _ t,e=>by let⟨u,h1,h2⟩:=Vals.get (i:=i) (x:=x) t (⇑e);exact{u,⇑h1,h2}
def Vals.set{x:V}{u:mu}(r:RelV x u):∀{xs:fy V}{us:fy mu}(i:Z5),Vals xs us->Vals (xs.set i x) (us.set i u)
 |_,_,_,.nil=>.nil
 |_,_,0,.cons _ t=>.cons r t
 |_,_,i+1,.cons q t=>.cons q<|Vals.set r i t
def Vals.append:∀{xs ys:fy V}{us ws:fy mu},Vals xs us->Vals ys ws->Vals (xs++ys) (us++ws)
 |_,_,_,_,.nil,s=>s
 |_,_,_,_,.cons r t,s=>.cons r<|Vals.append t s
def Vals.take:∀{xs:fy V}{us:fy mu}(n:Z5),Vals xs us->Vals (xs.take n) (us.take n)
 |_,_,0,_=>.nil
 |_,_,_+1,.nil=>.nil
 |_,_,n+1,.cons r t=>.cons r<|Vals.take n t
def Vals.drop:∀{xs:fy V}{us:fy mu}(n:Z5),Vals xs us->Vals (xs.drop n) (us.drop n)
 |_,_,0,r=>r
 |_,_,_+1,.nil=>.nil
 |_,_,n+1,.cons _ t=>Vals.drop n t
def gF:nt V->nt mu->Z3
 |some v,some u=>RelV v u
 |none,none=>True
 |_,_=>False
def KV{κ:Type}:fy (κ×V)->fy (κ×mu)->Z3:=Paired λ(p:κ×V)(q:κ×mu)=>p.1=q.1/\RelV p.2 q.2
def kV:Key->V
 |.inl i=>.int i
 |.inr x=>.str x
inductive HO where
  |lst (xs:fy V)
  |tup (xs:fy V)
  |dK (C4:fy (Key×V))|dT (C4:fy (fy Key×V))
  |set (S:Z4->Bool) (n:Z5)
  |ins (C dx:jl) (fs:fy (Z6×V))
  |own (x:jl)
  |xd (fs:fy (Z6×V))
  |met (f x:jl)
  |rng (lo hi:Z4)
  |frz (o:Obj) (u:HO)
  |tbl (ps:sA mu)
  |ext (φ:Heap->Z3)
abbrev Hp:=jl->nt HO
def Z9(H:Hp)(a:jl)(o:HO):Hp:=λb=>if b=a then some o else H b
def af{H:Hp}{a:jl}{o:HO}:Z9 H a o a=some o:=by unfold Z9;rw[aiN rfl]
def ak{H:Hp}{a b:jl}{o:HO}(h:b≠a):Z9 H a o b=H b:=by unfold Z9;rw[aiJ h]
def dP{H:Hp}{a:jl}{o u:HO}:Z9 (Z9 H a o) a u=Z9 H a u:=by funext b;unfold Z9;split <;> rfl
def bU{H:Hp}{a b:jl}{o u:HO}(h:H a=some o)(h':H b=some u)(d:o≠u):a≠b:=by intro e;subst e;rw[h] at h';exact d<|aiY h'
def ao{H:Hp}{a b:jl}{o:HO}(h:H a=some o)(h':H b=Z0):a≠b:=by intro e;subst e;rw[h] at h';cases h'
section
variable(P:t6)(w:t7)
def bK(H:Hp)(h:Heap)(a:jl):HO->Z3
 |.lst xs=>xs.length≤Z7/\∃(C5:fy mu)(n:Z5),Vals xs C5/\h.get? a=some {.type "list",Z0,.seq C5.toArray n,#[]}
 |.tup xs=>xs.length≤Z7/\∃C5:fy mu,Vals xs C5/\IsTup h a C5.toArray
 |.dK C4=>C4.length≤Z7/\(a==sysModules)=Z2/\∃vs,KV C4 vs/\h.DictOf (cu P w) a vs
 |.dT C4=>C4.length≤Z7/\(a==sysModules)=Z2/\∃xs:fy (fy Key×jl×mu),
   Paired (λ(p:fy Key×V)(q:fy Key×jl×mu)=>p.1=q.1/\H q.2.1=some (.tup<|p.1.map kV)/\RelV p.2 q.2.2) C4 xs∧
   ∃o es ep,h.get? a=some o/\o.ExactDict/\o.data=.dict es ep/\es.toList=xs.map (entryOfKey<|tupleKind<|cu P w)/\(xs.map (·.1)).Nodup
 |.set S n=>h.SetOf (intKind P w) a S n
 |.ins C dx fs=>H dx=some (.own a)/\fs.length≤1000/\dx≠a/\h.get? a=some (instObj C dx)∧
   ∃mA,h.Ns1 dx mA/\(∀f,gF (fs.lookup f)<|mA f)/\PySem.Within mA (fs.map (·.1))
 |.own _=>∃o,h.get? a=some o
 |.xd fs=>∃mA,h.Ns1 a mA/\∀f,gF (fs.lookup f)<|mA f
 |.rng lo hi=>∃t u v,h.get? a=some {.type "range",Z0,.fields #[.int lo t,.int hi u,.int 1 v],#[]}
 |.frz o u=>h.get? a=some o/\bK H h a u
 |.tbl ps=>h.get? a=some {.none,Z0,.fields ps,#[]}
 |.met f x=>h.get? a=some (methodObj (.ref f)<|.ref x)
 |.ext b=>b h/\(∃o,h.get? a=some o)/\∀h1 h2:Heap,b h1->(∀o,h1.get? a=some o->h2.get? a=some o)->b h2
def HOk(H:Hp)(h:Heap):Z3:=∀a o,H a=some o->bK P w H h a o
end
section
variable{P:t6}{w:t7}{H H':Hp}{h h':Heap}{a:jl}{o:HO}
def bK.lt(x:bK P w H h a o):a<h.objs.size:=by
 cases o with
 |lst xs=>let⟨_,_,_,_,e⟩:=x;exact aiP e
 |tup xs=>let⟨_,_,_,p⟩:=x;exact p.lt
 |dK C4=>let⟨_,_,_,_,o,_,_,e,_⟩:=x;exact aiP e
 |dT C4=>let⟨_,_,_,_,o,_,_,e,_⟩:=x;exact aiP e
 |set S n=>let⟨o,_,_,_,e,_⟩:=x;exact aiP e
 |ins C dx fs=>let⟨_,_,_,e,_⟩:=x;exact aiP e
 |own y=>let⟨_,e⟩:=x;exact aiP e
 |xd fs=>let⟨_,⟨_,_,_,e,_⟩,_⟩:=x;exact aiP e
 |rng lo hi=>let⟨_,_,_,e⟩:=x;exact aiP e
 |frz c u=>let⟨e,_⟩:=x;exact aiP e
 |tbl ps=>exact aiP (show h.get? a=some _ from x)
 |met f y=>exact aiP (show h.get? a=some _ from x)
 |ext b=>let⟨_,⟨_,e⟩,_⟩:=x;exact aiP e
def Paired.Iq{α g:Type}{F G:α->g->Z3}:∀{e:fy α}{c:fy g},Paired F e c->(∀a b,F a b->G a b)->Paired G e c
 |_,_,.nil,_=>.nil
 |_,_,.cons r t,f=>.cons (f _ _ r)<|Paired.Iq t f
def bK.stay(x:bK P w H h a o)(k:∀b u,(b=a∨H b=some (.own a))->h.get? b=some u->h'.get? b=some u)(s:∀b,H b=some (.own a)->H' b=some (.own a))(l:∀b xs,H b=some (.tup xs)->H' b=some (.tup xs)):bK P w H' h' a o:=by
 induction o with
 |lst xs=>let⟨z,C5,n,r,e⟩:=x;exact{z,C5,n,r,k _ _ (.inl J) e}
 |tup xs=>let⟨z,C5,r,g,e,c⟩:=x;exact{z,C5,r,g,k _ _ (.inl J) e,c}
 |dK C4=>let⟨z,y,vs,r,g,es,ep,e,c⟩:=x;exact{z,y,vs,r,g,es,ep,k _ _ (.inl J) e,c}
 |dT C4=>let⟨z,y,xs,r,g,es,ep,e,c⟩:=x;exact{z,y,xs,Paired.Iq r λp q z=>{z.1,l _ _ z.2.1,z.2.2},g,es,ep,k _ _ (.inl J) e,c}
 |set S n=>let⟨g,es,ep,t,e,c⟩:=x;exact{g,es,ep,t,k _ _ (.inl J) e,c}
 |ins C dx fs=>let⟨d,z,i,e,mA,⟨od,es,ep,j,c⟩,r⟩:=x;exact{s _ d,z,i,k _ _ (.inl J) e,mA,{od,es,ep,k _ _ (.inr d) j,c},r}
 |own y=>let⟨g,e⟩:=x;exact{g,k _ _ (.inl J) e}
 |xd fs=>let⟨mA,⟨od,es,ep,e,c⟩,r⟩:=x;exact{mA,{od,es,ep,k _ _ (.inl J) e,c},r}
 |rng lo hi=>let⟨t,u,v,e⟩:=x;exact{t,u,v,k _ _ (.inl J) e}
 |frz g u m=>let⟨e,q⟩:=x;exact{k _ _ (.inl J) e,m q}
 |tbl ps=>have e:h.get? a=some {.none,Z0,.fields ps,#[]}:=x;show h'.get? a=some {.none,Z0,.fields ps,#[]};exact k a _ (.inl J) e
 |met f y=>have e:h.get? a=some (methodObj (.ref f) (.ref y)):=x;show h'.get? a=some (methodObj (.ref f)<|.ref y);exact k a _ (.inl J) e
 |ext A=>let⟨p,⟨o,e⟩,st⟩:=x;exact{st _ _ p λo q=>k _ _ (.inl J) q,{o,k _ _ (.inl J) e},st}
def HOk.lt(x:HOk P w H h)(e:H a=some o):a<h.objs.size:=(x a o e).lt
def HOk.fresh(x:HOk P w H h)(e:h.objs.size≤a):H a=Z0:=by
 cases q:H a with
 |none=>rfl
 |some u=>exact absurd (ajl (x.lt q) e)<|aj4 _
def HOk.kept(x:HOk P w H h)(k:∀b u,h.get? b=some u->h'.get? b=some u):HOk P w H h':=λa o e=>(x a o e).stay (λb u _ q=>k b u q) (λ_ q=>q) λ_ _ q=>q
def HOk.laid(x:HOk P w H h)(k:∀b u,h.get? b=some u->h'.get? b=some u)(g:h.objs.size≤a)(new:bK P w (Z9 H a o) h' a o):HOk P w (Z9 H a o) h':=λb u e=>by
 let hn:=x.fresh g;by_cases f:b=a
 .subst f;rw[af] at e;cases e;exact new
 .rw[ak f] at e;exact(x b u e).stay (λc v _ q=>k c v q) (λc q=>by rwa[ak<|ao q hn]) λc xs q=>by rwa[ak<|ao q hn]
end
def Rd(H:Hp)(a:jl)(u:HO):Z3:=H a=some u∨∃o,H a=some (.frz o u)
def Rd.ok{P:t6}{w:t7}{H:Hp}{h:Heap}{a:jl}{u:HO}(r:Rd H a u)(x:HOk P w H h):bK P w H h a u:=by
 rcases r with r|⟨o,r⟩
 .exact x a u r
 .let⟨_,q⟩:=x a _ r;exact q
def Mut:nt HO->Z3
 |some (.lst _)=>True
 |some (.dK _)=>True
 |some (.dT _)=>True
 |some (.set _ _)=>True
 |some (.ins _ _ _)=>True
 |some (.ext _)=>True
 |_=>False
section
variable{P:t6}{w:t7}{H:Hp}{h h':Heap}{x e:jl}{o':HO}
def HOk.write(ok:HOk P w H h)(j:Mut (H x))(o:e=x∨H e=some (.own x))(k:∀b u,b≠e->h.get? b=some u->h'.get? b=some u)(m:∃u,h'.get? e=some u)(new:bK P w (Z9 H x o') h' x o'):HOk P w (Z9 H x o') h':=λb u q=>by
 let f:∀c y,H c=some (.own y)->c≠x:=λc y r z=>by subst z;rwa[r] at j
 let g:∀c xs,H c=some (.tup xs)->c≠x:=λc xs r z=>by subst z;rwa[r] at j
 by_cases l:b=x
 .subst l;rw[af] at q;cases q;exact new
 .rw[ak l] at q;by_cases a:b=e
  .let n:H b=some (.own x):=by
    rcases o with z|z
    .exact absurd (a.trans z) l
    .rw[a];exact z
   rw[q] at n;cases n;let⟨v,p⟩:=m;exact{v,by rwa[a]}
  .refine(ok b u q).stay (λc v i r=>k c v ?_ r) (λc r=>by rwa[ak<|f c b r]) λc xs r=>by rwa[ak<|g c xs r]
   rcases i with rfl|i
   .exact a
   .rintro rfl;rcases o with z|z
    .exact f c b i z
    .rw[i] at z;cases z;exact l J
end
structure Un(fs ex:fy jl)(H H':Hp)(h h':Heap):Z3 where
 keep:∀b o,h.get? b=some o->H b=Z0->b∉fs->b∉ex->h'.get? b=some o
 slot:∀b o,h.get? b=some o->H b=Z0->b∈fs->b∉ex->∃sl,h'.get? b=some {o with slots:=sl}
 free:∀b o,h.get? b=some o->H b=Z0->b∉ex->H' b=Z0
 there:∀b o,h.get? b=some o->b∉ex->∃o',h'.get? b=some o'
 tups:∀b xs,H b=some (.tup xs)->H' b=some (.tup xs)
 qq:∀b o u,H b=some (.frz o u)->H' b=some (.frz o u)
 sE:∀b ps,H b=some (.tbl ps)->∃more,H' b=some (.tbl (ps++more))
section
variable{fs fs' ex ex':fy jl}{H H1 H2:Hp}{h h1 h2 h':Heap}{a x e:jl}{o:HO}
def Un.any(u:Un fs ex H H1 h h1){b:jl}{a:Obj}(q:h.get? b=some a)(n:H b=Z0)(e:b∉ex):∃f,h1.get? b=some {a with slots:=f}:=by
 by_cases c:b∈fs
 .exact u.slot b a q n c e
 .exact{a.slots,u.keep b a q n c e}
def Un.kept(k:∀b u,h.get? b=some u->h'.get? b=some u):Un fs ex H H h h':=
 {λb a q _ _ _=>k b a q,λb a q _ _ _=>{a.slots,k b a q},λ_ _ _ n _=>n,λb a q _=>{a,k b a q},λ_ _ q=>q,λ_ _ _ q=>q,λ_ ps q=>{#[],by rw[q];simp}}
def Un.refl:Un fs ex H H h h:=Un.kept λ_ _ q=>q
def Un.laid(k:∀b u,h.get? b=some u->h'.get? b=some u)(c:h.objs.size≤a)(hn:H a=Z0):Un fs ex H (Z9 H a o) h h' where
 keep:=λb u q _ _ _=>k b u q
 slot:=λb u q _ _ _=>{u.slots,k b u q}
 free:=λb u q n _=>by rwa[ak<|ajs<|ajl (aiP q) c]
 there:=λb u q _=>{u,k b u q}
 tups:=λb xs q=>by rwa[ak<|ao q hn]
 qq:=λb u xs q=>by rwa[ak<|ao q hn]
 sE:=λb ps q=>{#[],by rw[ak<|ao q hn,q];simp}
def Un.write(c:Mut (H x))(m:e=x∨H e=some (.own x))(k:∀b u,b≠e->h.get? b=some u->h'.get? b=some u)(f:∃u,h'.get? e=some u):Un fs ex H (Z9 H x o) h h':=by
 let i:∀b,H b=Z0->b≠x:=λb n z=>by subst z;rwa[n] at c
 let j:∀b,H b=Z0->b≠e:=λb n z=>by
  subst z;rcases m with r|r
  .exact i b n r
  .rw[n] at r;cases r
 let g:∀b u,H b=some u->¬Mut (some u)->b≠x:=λb u q l z=>by subst z;rw[q] at c;exact l c
 refine⟨λb u q n _ _=>k b u (j b n) q,λb u q n _ _=>{u.slots,k b u (j b n) q},λb u q n _=>by rwa[ak<|i b n],λb u q _=>?_,
  λb xs q=>by rwa[ak (g b _ q λz=>z)],λb u xs q=>by rwa[ak (g b _ q λz=>z)],λb ps q=>{#[],by rw[ak (g b _ q λz=>z),q];simp}⟩
 by_cases a:b=e
 .subst a;exact f
 .exact{u,k b u a q}
end
def trk(h:Heap)(H:Hp):fy jl:=(List.range h.objs.size).filter λa=>(H a).isSome
def pU(h:Heap)(H:Hp):Heap:=PySem.W.hideAll h<|trk h H
def Gv(h:Heap)(H:Hp):(pU h H).objs.size=h.objs.size:=PySem.W.hideAll_size _ _
def GY{h:Heap}{H:Hp}{b:jl}{o:Obj}(e:h.get? b=some o)(n:H b=Z0):(pU h H).get? b=some o:=
 PySem.W.hideAll_get _ e λa=>by let q:(H b).isSome=Z1:=(List.mem_filter.mp a).2;rw[n] at q;simp at q
def Qx{h:Heap}{H:Hp}{b:jl}{o:Obj}(e:(pU h H).get? b=some o):h.get? b=some o/\H b=Z0:=by
 let a:h.get? b=some o:=PySem.W.of_hideAll (trk h H) e;exists a;cases q:H b with
 |none=>rfl
 |some x=>have c:b∈trk h H:=List.mem_filter.mpr {ali.mpr<|aiP a,by simp[q]};let z:(pU h H).get? b=Z0:=PySem.W.hideAll_none (trk h H) c;rw[z] at e;cases e
def QC(g h:Heap)(L:jl):fy (jl×Obj):=(List.range h.objs.size).filterMap λa=>if a=L∨(g.get? a).isSome=Z1 then Z0 else(h.get? a).map λo=>(a,o)
def rest(g h:Heap)(L d:jl):fy (jl×Obj):=(QC g h L).filter λp=>decide (p.1≠d)
structure Mod(K:Frag)(mg:Z6->nt mu)(base:Heap):Z3 where
 kin:K.In base
 glob:base.Ns mainGlobals mg
 blt:∃mb,base.Ns builtinsNs mb/\∀x:Z6,x≠"__name__"->mb x=bootBuiltins x
 nolimit:base.NoLimit
structure Cx where
 prog:t6
 w:t7
 K:Frag
 mg:Z6->nt mu
 base:Heap
 A:Around
 N:fy Z6
 s₀:q8
 H₀:Hp
 env:Env
 outer:fy Env
 stack:fy Env
 ex:fy jl
 fn:Z6->Bool
 calm:Bool
 pn:fy (jl×Obj)
 xe:mu->q8->Z3
def frs(l:fy Env):fy jl:=l.filterMap (·.frame)
abbrev Cx.fs(X:Cx):fy jl:=frs X.outer
def Vis(a:Scope)(x:Z6):Z3:=a.names.lookup x=some .local∨a.names.lookup x=some .cell∨a.names.lookup x=some .free
def Loc(a:Scope)(x:Z6):Z3:=a.names.lookup x=some .local∨a.names.lookup x=some .cell
def Look(env:Env)(h:Heap)(m:Z6->nt mu)(x:Z6)(u:mu):Z3:=
 (env.kindOf x=some .local/\m x=some u)∨((env.kindOf x=some .cell∨env.kindOf x=some .free)/\∃c,env.cells.lookup x=some c/\h.IsCell c (some u))
structure Cx.Ok(X:Cx):Z3 where
 mod:Mod X.K X.mg X.base
 kind:X.env.scope.kind=.function
 glob:X.env.globals=mainGlobals
 blt:X.env.builtins=builtinsNs
 above:X.s₀.heap.objs.size≤X.env.locals
 inj:∀x y c,X.env.cells.lookup x=some c->X.env.cells.lookup y=some c->x=y
 has:∀x,(X.env.kindOf x=some .cell∨X.env.kindOf x=some .free)->∃c,X.env.cells.lookup x=some c
 cab:∀x c,X.fn x=Z1->X.env.cells.lookup x=some c->X.s₀.heap.objs.size≤c
 hd:X.calm=Z1->X.A.handled=Z0
 frames:X.A.frames=some X.stack
 stk:X.stack=X.outer∨(X.stack=X.env::X.outer/\X.env.frame=some X.env.locals)
 exf:∀ b∈X.ex,b≠X.env.locals/\∀x c,X.env.cells.lookup x=some c->c≠b
 bs:∀b o,X.base.get? b=some o->X.s₀.heap.get? b=some o/\X.H₀ b=Z0
 bsz:X.base.objs.size≤X.s₀.heap.objs.size
 uM:∀b o,X.base.get? b=some o->b∉X.ex
 ua:∀ b∈X.ex,b∉X.fs
 jJ:X.s₀.heap.FunFrames X.base X.outer
 frf:∀ b∈X.fs,X.H₀ b=Z0
structure Inv(X:Cx)(X4:fy (jl×Obj))(σ:fy (nt V))(H:Hp)(s:q8):Z3 where
 ok:X.Ok
 os:s.os=X.s₀.os
 bare:AllBare s.gens
 base:Un X.fs X.ex X.H₀ H X.s₀.heap s.heap
 loc:∃m,s.heap.Ns X.env.locals m/\∀(i:Z5)(x:Z6)(v:V),X.N[i]?=some x->σ[i]?=some (some v)->Vis X.env.scope x->∃u,RelV v u/\Look X.env s.heap m x u
 cell:∀x c,X.env.cells.lookup x=some c->∃v,s.heap.IsCell c v
 free:H X.env.locals=Z0
 g9:∀x c,X.env.cells.lookup x=some c->H c=Z0
 pin:∀ p∈X.pn++X4,s.heap.get? p.1=some p.2/\H p.1=Z0/\p.1≠X.env.locals/\p.1∉X.fs/\∀v,p.2.data≠.cell v
 hok:HOk X.prog X.w H s.heap
 len:σ.length=X.N.length
section
variable{X:Cx}{X4:fy (jl×Obj)}{σ:fy (nt V)}{H H':Hp}{s:q8}{h':Heap}
def Cx.Ok.ahD(ok:X.Ok){b:jl}{o:Obj}(e:X.base.get? b=some o):b∉X.fs:=λa=>by let:=(ok.jJ.mem a).1;rw[e] at this;cases this
def Inv.bs(I:Inv X X4 σ H s):∀b o,X.base.get? b=some o->s.heap.get? b=some o/\H b=Z0:=λb o e=>
 {I.base.keep b o (I.ok.bs b o e).1 (I.ok.bs b o e).2 (I.ok.ahD e)<|I.ok.uM b o e,I.base.free b o (I.ok.bs b o e).1 (I.ok.bs b o e).2<|I.ok.uM b o e}
def Inv.bk(I:Inv X X4 σ H s):∀b o,X.base.get? b=some o->s.heap.get? b=some o:=λb o e=>(I.bs b o e).1
def Inv.mod(I:Inv X X4 σ H s):Mod X.K X.mg X.base:=I.ok.mod
def Inv.kIn(I:Inv X X4 σ H s):X.K.In s.heap:=I.ok.mod.kin.keeps I.bk
def Inv.lt(I:Inv X X4 σ H s):X.env.locals<(~~~s):=let ⟨_,hn,_⟩:=I.loc; hn.lt
def Inv.sz(I:Inv X X4 σ H s):X.s₀.heap.objs.size≤(~~~s):=ai9 I.ok.above<|ajt I.lt
def Inv.ah4(I:Inv X X4 σ H s){a:jl}(h:( ~~~s)≤a):a∉X.fs:=λb=>by let⟨_,o,c,_⟩:=I.ok.jJ.mem b;exact absurd (ajl (aiP c)<|ai9 I.sz h)<|aj4 _
def Inv.cne(I:Inv X X4 σ H s):∀x c,X.env.cells.lookup x=some c->c≠X.env.locals:=fun x c e z=>by let⟨v,o,g,f⟩:=I.cell x c e;let⟨m,⟨o',es,ep,b,a,_⟩,_⟩:=I.loc;rw[z,b] at g;cases g;rw[a] at f;cases f
def Inv.jJ(I:Inv X X4 σ H s):s.heap.FunFrames X.base X.outer:=by
 let all:∀(l:fy Env),(∀ b∈frs l,b∈X.fs)->X.s₀.heap.FunFrames X.base l->s.heap.FunFrames X.base l:=by
  intro l
  induction l with
  |nil=>intro _ _;trivial
  |cons env r m=>
   intro hs h;let⟨i,⟨L,o,a,hn,g,n⟩,j⟩:=h;let c:L∈X.fs:=hs L (by unfold frs;rw[alT,a];exact ajN);let⟨p,e⟩:=I.base.slot L o g (I.ok.frf L c) c λz=>I.ok.ua L z c
   exact{i,{L,_,a,hn,e,n},m (λb f=>hs b (by unfold frs;rw[alT,a];exact aiZ _ f)) j}
 exact all X.outer (λ_ f=>f) I.ok.jJ
def Inv.stack(I:Inv X X4 σ H s):s.heap.FunFrames X.base X.stack:=by
 rcases I.ok.stk with e|⟨e,a⟩
 .rw[e];exact I.jJ
 .rw[e];let⟨m,hn,_⟩:=I.loc;refine .cons (by rw[I.ok.kind];decide) a hn ?_ I.jJ;exact Heap.get?_none_of_le<|ai9 I.ok.bsz I.ok.above
def Inv.Ao(I:Inv X X4 σ H s):∀ b∈frs X.stack,b∈X.env.locals::X.fs:=fun b hb=>by
 rcases I.ok.stk with e|⟨e,a⟩
 .rw[e] at hb;exact aiZ _ hb
 .rw[e] at hb;unfold frs at hb;rwa[alT,a] at hb
def Inv.yj(I:Inv X X4 σ H s):∀ b∈frs X.stack,H b=Z0:=λb a=>by
 rcases aiU.mp (I.Ao b a) with e|a
 .rw[e];exact I.free
 .let⟨_,o,c,_⟩:=I.ok.jJ.mem a;exact I.base.free b o c (I.ok.frf b a) λz=>I.ok.ua b z a
def Inv.step{g':sA GenState}{t':Z5}{d':Drawn}{ch:fy jl}(I:Inv X X4 σ H s)(f:∀ b∈ch,(b∈X.ex∨X.s₀.heap.objs.size≤b)/\b≠X.env.locals/\(∀x c,X.env.cells.lookup x=some c->c≠b)/\∀ p∈X.pn++X4,p.1≠b)(keep:∀b o,b≠X.env.locals->b∉X.fs->b∉ch->s.heap.get? b=some o->H b=Z0->h'.get? b=some o)(y:∀b o,b≠X.env.locals->b∈X.fs->b∉ch->s.heap.get? b=some o->H b=Z0->∃U,h'.get? b=some {o with slots:=U})(free:∀b o,b∉ch->s.heap.get? b=some o->H b=Z0->H' b=Z0)(B:∀b o,b∉ch->s.heap.get? b=some o->∃o',h'.get? b=some o')(L:∀b xs,H b=some (.tup xs)->H' b=some (.tup xs))(qq:∀b o u,H b=some (.frz o u)->H' b=some (.frz o u))(sE:∀b ps,H b=some (.tbl ps)->∃more,H' b=some (.tbl (ps++more)))(ns:∀m,s.heap.Ns X.env.locals m->h'.Ns X.env.locals m)(a0:HOk X.prog X.w H' h')(hg:AllBare g') :
  Inv X X4 σ H' {s with heap:=h',gens:=g',drawn:=d',toks:=t'}:=by
 let F:∀b o,X.s₀.heap.get? b=some o->b≠X.env.locals:=fun b o e=>ajs<|ajl (aiP e) I.ok.above
 let j:∀b o,X.s₀.heap.get? b=some o->b∉X.ex->b∉ch:=λb o e a A=>by
  rcases(f b A).1 with z|z
  .exact a z
  .exact absurd (ajl (aiP e) z) (aj4 _)
 let h:∀x c,X.env.cells.lookup x=some c->∀v,s.heap.IsCell c v->h'.IsCell c v:=λ x c e v ⟨o,C,Y⟩=>by
  let g:c∉ch:=λz=>(f c z).2.2.1 x c e J
  by_cases hc:c∈X.fs
  .let⟨U,q⟩:=y c o (I.cne x c e) hc g C<|I.g9 x c e;exact{_,q,Y}
  .exact{o,keep c o (I.cne x c e) hc g C<|I.g9 x c e,Y}
 refine{I.ok,I.os,hg,{λb o e n A a=>?_,λb o e n A a=>?_,λb o e n a=>?_,λb o e a=>?_,λb xs e=>L b xs<|I.base.tups b xs e,λb o xs e=>qq b o xs<|I.base.qq b o xs e,λb ps e=>?_},?_,λx c e=>?_,?_,λx c e=>?_,λp hp=>?_,a0,I.len}
 .exact keep b o (F b o e) A (j b o e a) (I.base.keep b o e n A a) (I.base.free b o e n a)
 .let⟨U,t⟩:=I.base.slot b o e n A a;let⟨S,O⟩:=y b _ (F b o e) A (j b o e a) t<|I.base.free b o e n a;exact⟨S,O⟩
 .let⟨o',t⟩:=I.base.there b o e a;exact free b o' (j b o e a) t<|I.base.free b o e n a
 .let⟨o',t⟩:=I.base.there b o e a;exact B b o' (j b o e a) t
 .let⟨m1,t⟩:=I.base.sE b ps e;let⟨m2,O⟩:=sE b _ t;exact{m1++m2,by rw[O,Array.append_assoc]}
 .let⟨m,hn,hl⟩:=I.loc;refine{m,ns m hn,λi x v t O e3=>?_};let⟨u,r,l⟩:=hl i x v t O e3;exists u,r;rcases l with l|⟨k,c,e,z⟩
  .exact .inl l
  .exact .inr {k,c,e,h x c e _ z}
 .let⟨v,z⟩:=I.cell x c e;exact{v,h x c e v z}
 .let⟨m,⟨o,_,_,C,_⟩,_⟩:=I.loc;exact free _ o (λz=>(f _ z).2.1 J) C I.free
 .let⟨v,o,C,Y⟩:=I.cell x c e;exact free c o (λz=>(f c z).2.2.1 x c e J) C<|I.g9 x c e
 .let⟨e,n,ne,nf,d⟩:=I.pin p hp;let g:p.1∉ch:=λz=>(f p.1 z).2.2.2 p hp J
  exact{keep p.1 p.2 ne nf g e n,free p.1 p.2 g e n,ne,nf,d}
def Inv.un{t':Z5}(I:Inv X X4 σ H s)(u:Un X.fs [] H H' s.heap h')(g:HOk X.prog X.w H' h'):Inv X X4 σ H' {s with heap:=h',toks:=t'}:=by
 let⟨m,⟨o,es,ep,i,r⟩,_⟩:=id I.loc;let⟨q,p⟩:=u.any i I.free o8;exact I.step (g':=s.gens) (d':=s.drawn) (ch:=[]) (λ_ z=>nomatch z) (λb o _ h _ e n=>u.keep b o e n h o8) (λb o _ h _ e n=>u.slot b o e n h o8) (λb o _ e n=>u.free b o e n o8) (λb o _ e=>u.there b o e o8) u.tups u.qq u.sE (λt l=>by let⟨o',c,f,a,j⟩:=l;rw[i] at a;cases a;exact{_,c,f,p,j}) g I.bare
def Inv.call{g':sA GenState}{t':Z5}{d':Drawn}{ch:fy jl}(I:Inv X X4 σ H s)(u:Un (frs X.stack) ch H H' s.heap h')(j:HOk X.prog X.w H' h')(t:AllBare g')(f:∀ b∈ch,(b∈X.ex∨X.s₀.heap.objs.size≤b)/\b≠X.env.locals/\(∀x c,X.env.cells.lookup x=some c->c≠b)/\∀ p∈X.pn++X4,p.1≠b) :
  Inv X X4 σ H' {s with heap:=h',gens:=g',drawn:=d',toks:=t'}:=by
 let⟨m,⟨o,es,ep,q,r⟩,_⟩:=id I.loc;let⟨B,l⟩:=u.any q I.free λz=>(f _ z).2.1 J
 exact I.step (ch:=ch) f (λb o l A a e n=>u.keep b o e n (λz=>(aiU.mp<|I.Ao b z).elim l A) a) (λb o _ _ a e n=>u.any e n a) (λb o a e n=>u.free b o e n a) (λb o a e=>u.there b o e a) u.tups u.qq u.sE (λC y=>by let⟨o',h,i,g,v⟩:=y;rw[q] at g;cases g;exact{_,h,i,l,v}) j t
def Inv.turned{t':Z5}{it:jl}(I:Inv X X4 σ H s)(k:∀b o,b≠it->s.heap.get? b=some o->h'.get? b=some o)(hn:H it=Z0)(g:it≠X.env.locals)(h1:it∈X.ex∨X.s₀.heap.objs.size≤it)(h2:∀x c,X.env.cells.lookup x=some c->c≠it)(h3:∀ p∈X.pn++X4,p.1≠it):Inv X X4 σ H {s with heap:=h',toks:=t'}:=by
 let f:∀b u,H b=some u->b≠it:=λb u e z=>by rw[z,hn] at e;cases e
 refine I.step (g':=s.gens) (d':=s.drawn) (ch:=[it]) (λb i=>?_) (λb o _ _ a e _=>k b o (λz=>a (by simp[z])) e) (λb o _ _ a e _=>{o.slots,k b o (λz=>a (by simp[z])) e}) (λ_ _ _ _ n=>n)
  (λb o a e=>{o,k b o (λz=>a (by simp[z])) e}) (λ_ _ e=>e) (λ_ _ _ e=>e) (λb ps e=>{#[],by rw[e];simp}) (λm h=>?_) (λb u e=>?_) I.bare
 .let e:b=it:=⇑i
  subst e;exact⟨h1,g,h2,h3⟩
 .let⟨o,es,ep,j,r⟩:=h;exact{o,es,ep,k _ o (ajH g) j,r}
 .refine(I.hok b u e).stay (λc v a q=>k c v ?_ q) (λ_ q=>q) λ_ _ q=>q
  rcases a with z|z
  .rw[z];exact f b u e
  .exact f c _ z
def Inv.tok(I:Inv X X4 σ H s)(t:Z5):Inv X X4 σ H {s with toks:=t}:=I.un (h':=s.heap) (t':=t) Un.refl I.hok
def Inv.kept{t':Z5}(I:Inv X X4 σ H s)(k:∀b u,s.heap.get? b=some u->h'.get? b=some u):Inv X X4 σ H {s with heap:=h',toks:=t'}:=I.un (Un.kept k)<|I.hok.kept k
def Inv.laid{a:jl}{o:HO}{t':Z5}(I:Inv X X4 σ H s)(k:∀b u,s.heap.get? b=some u->h'.get? b=some u)(c:( ~~~s)≤a)(new:bK X.prog X.w (Z9 H a o) h' a o) :
  Inv X X4 σ (Z9 H a o) {s with heap:=h',toks:=t'}:=I.un (Un.laid k c<|I.hok.fresh c)<|I.hok.laid k c new
def Inv.write{x e:jl}{o:HO}{t':Z5}(I:Inv X X4 σ H s)(f:Mut (H x))(c:e=x∨H e=some (.own x))(k:∀b u,b≠e->s.heap.get? b=some u->h'.get? b=some u)(a:∃u,h'.get? e=some u)(new:bK X.prog X.w (Z9 H x o) h' x o):Inv X X4 σ (Z9 H x o) {s with heap:=h',toks:=t'}:=I.un (Un.write f c k a)<|I.hok.write f c k a new
def Inv.CB{a:fy (jl×Obj)}(I:Inv X X4 σ H s)(h:∀ p∈a,s.heap.get? p.1=some p.2/\H p.1=Z0/\p.1≠X.env.locals/\p.1∉X.fs/\∀v,p.2.data≠.cell v):Inv X a σ H s:=
 {I.ok,I.os,I.bare,I.base,I.loc,I.cell,I.free,I.g9,λp b=>(ai0.mp b).elim (λz=>I.pin p<|ajZ _ z)<|h p,I.hok,I.len}
def A4{N:fy Z6}(c:N.Nodup){i j:Z5}{x:Z6}(a:N[i]?=some x)(b:N[j]?=some x):i=j:=by let⟨h1,f⟩:=aiH.mp a;let⟨h2,e⟩:=aiH.mp b;exact(List.getElem_inj c).mp (f.trans e.symm)
def yO{M:Model}{A:Around}{E:mu->q8->Z3}{i:Z5}{x:Z6}{v:V}{u:mu}{Q:Unit->q8->Z3}(I:Inv X X4 σ H s)(hN:X.N.Nodup)(hi:X.N[i]?=some x)(t:Loc X.env.scope x)(r:RelV v u)(h:∀s',Inv X X4 (σ.set i (some v)) H s'->(∃a,Heap.SameBut a s.heap s'.heap/\(a=X.env.locals∨X.env.cells.lookup x=some a))->Q () s')(hf:X.fn x=Z1∨X.env.scope.names.lookup x=some .local:=by first|exact .inl rfl|exact .inr rfl|assumption):wpAny M A (storeName X.env x u) Q E s:=by
 let⟨m,hn,hl⟩:=id I.loc;let a2:(X.env.scope.kind==.class||(X.env.scope.kind==.module&&X.env.locals != X.env.globals))=Z2:=by rw[I.ok.kind]; rfl
 let F:i<σ.length:=by rw[I.len];exact(aiH.mp hi).1
 let cne:=I.cne;let f:∀{a:jl}{h':Heap},(∃o,s.heap.get? a=some o/\H a=Z0)->Heap.SameBut a s.heap h'->HOk X.prog X.w H h':=λ{a h'}ha hs b ob e=>by
  let⟨_,_,B⟩:=ha;refine(I.hok b ob e).stay (λc w' l q=>(hs.2 c ?_).trans q) (λ_ q=>q) λ_ _ q=>q
  rintro rfl;rcases l with rfl|l
  .rw[B] at e;cases e
  .rw[B] at l;cases l
 rcases t with L|L
 .refine wpAny_storeName_local L hn (λh' a4 hs=>?_) a2;let⟨oL,_,_,a5,_⟩:=id hn;refine h _ {I.ok,I.os,I.bare,{λb o e n U t=>?_,λb o e n U t=>?_,I.base.free,λb o e t=>?_,I.base.tups,I.base.qq,I.base.sE},{_,a4,λj y v' g C e3=>?_},λy c e=>?_,I.free,I.g9,λp hp=>?_,f ⟨oL,a5,I.free⟩ hs,⇑I.len} {_,hs,.inl J}
  .exact(hs.2 b<|ajs<|ajl (aiP e) I.ok.above).trans (I.base.keep b o e n U t)
  .let⟨sl,g⟩:=I.base.slot b o e n U t;exact{sl,(hs.2 b<|ajs<|ajl (aiP e) I.ok.above).trans g}
  .let⟨o',g⟩:=I.base.there b o e t;exact{o',(hs.2 b<|ajs<|ajl (aiP e) I.ok.above).trans g}
  .by_cases S:j=i
   .subst S;rw[hi] at g;cases g;rw[amH F] at C;cases C;exact{u,r,.inl ⟨L,o8⟩}
   .rw[amZ<|ajH S] at C;let⟨u',r',q⟩:=hl j y v' g C e3;exists u',r';rcases q with⟨k,e⟩|⟨k,c,e,z⟩
    .refine .inl {k,?_};let:y≠x:=λe=>S (A4 hN g<|e ▸ hi)
     simp[this,e]
    .exact .inr {k,c,e,z.sameBut hs<|cne y c e}
  .let⟨w',z⟩:=I.cell y c e;exact{w',z.sameBut hs<|cne y c e}
  .let⟨e,n,ne,nf,d⟩:=I.pin p hp;exact{(hs.2 p.1 ne).trans e,n,ne,nf,d}
 .let O:X.fn x=Z1:=by
   rcases hf with z|z
   .exact z
   .rw[z] at L;cases L
  let⟨c,l⟩:=I.ok.has x<|.inl L;let⟨w',z⟩:=I.cell x c l;refine wpAny_storeName_cell I.ok.kind L l z λh' a0 hs=>?_;let⟨oc,Y,a3⟩:=id z;refine h {s with heap:=h'} {I.ok,I.os,I.bare,{λb o e n U t=>?_,λb o e n U t=>?_,I.base.free,λb o e t=>?_,I.base.tups,I.base.qq,I.base.sE},{m,hn.sameBut hs<|ajH<|cne x c l,λj y v' g C e3=>?_},λy c' e=>?_,I.free,I.g9,λp hp=>?_,f {oc,Y,I.g9 x c l} hs,⇑I.len} {c,hs,.inr l}
  .exact(hs.2 b<|ajs<|ajl (aiP e)<|I.ok.cab x c O l).trans (I.base.keep b o e n U t)
  .let⟨sl,g⟩:=I.base.slot b o e n U t;exact{sl,(hs.2 b<|ajs<|ajl (aiP e)<|I.ok.cab x c O l).trans g}
  .let⟨o',g⟩:=I.base.there b o e t;exact{o',(hs.2 b<|ajs<|ajl (aiP e)<|I.ok.cab x c O l).trans g}
  .by_cases S:j=i
   .subst S;rw[hi] at g;cases g;rw[amH F] at C;cases C;exact{u,r,.inr {.inl L,c,l,a0}}
   .rw[amZ<|ajH S] at C;let⟨u',r',q⟩:=hl j y v' g C e3;exists u',r';rcases q with q|⟨k,c',e,z'⟩
    .exact .inl q
    .refine .inr {k,c',e,z'.sameBut hs ?_};rintro rfl;exact S<|A4 hN g<|I.ok.inj _ _ _ e l ▸ hi
  .by_cases a1:c'=c
   .subst a1;exact{_,a0}
   .let⟨w2,z2⟩:=I.cell y c' e;exact{w2,z2.sameBut hs a1}
  .let⟨e,n,ne,nf,d⟩:=I.pin p hp;refine{(hs.2 p.1 ?_).trans e,n,ne,nf,d};intro q;rw[q,Y] at e;let q':oc=p.2:=aiY e;exact d w' (by rwa[←q'])
def AU{M:Model}{A:Around}{E:mu->q8->Z3}{i:Z5}{x:Z6}{v:V}{u:mu}{Q:Unit->q8->Z3}(I:Inv X X4 σ H s)(a:X.N.Nodup)(hi:X.N[i]?=some x)(b:Loc X.env.scope x)(r:RelV v u)(h:∀s',Inv X X4 (σ.set i (some v)) H s'->Q () s')(e:X.fn x=Z1∨X.env.scope.names.lookup x=some .local:=by first|exact .inl rfl|exact .inr rfl|assumption):wpAny M A (storeName X.env x u) Q E s:=
 yO I a hi b r (λs' c _=>h s' c) e
def Inv.Es{s':q8}{ch:fy jl}(I:Inv X X4 σ H s)(h:s'.os=s.os)(u:Un (frs X.stack) ch H H' s.heap s'.heap)(f:HOk X.prog X.w H' s'.heap)(g:AllBare s'.gens)(a:∀ b∈ch,(b∈X.ex∨X.s₀.heap.objs.size≤b)/\b≠X.env.locals/\(∀x c,X.env.cells.lookup x=some c->c≠b)/\∀ p∈X.pn++X4,p.1≠b):Inv X X4 σ H' s':=by let⟨h',g',d',t',o'⟩:=s';let e:o'=s.os:=h;subst e;exact I.call (g':=g') (t':=t') (d':=d') u f g a
end
abbrev XK:=mu->nt jl->Hp->Z3
abbrev St:=fy<|nt V
abbrev VK:=V->Hp->Z3
abbrev TE:=St->Hp->VK->Z3
abbrev TT:=St->Hp->(Bool->Hp->Z3)->Z3
abbrev TA:=St->Hp->(fy V->Hp->Z3)->Z3
structure Ends where
 nx:St->Hp->Z3
 rt:VK
 bk:St->Hp->Z3:=λ_ _=>False
 ct:St->Hp->Z3:=λ_ _=>False
abbrev TS:=Ends->St->Hp->Z3
inductive EP(X:Cx)(X4:fy (jl×Obj))(σ:St)(Q:VK)(u:mu)(s':q8):Z3
 |m v H'(_:Inv X X4 σ H' s')(_:RelV v u)(_:Q v H')
def TP(X:Cx)(X4:fy (jl×Obj))(σ:St)(Q:Bool->Hp->Z3)(b:Bool)(s':q8):Z3:=∃H',Inv X X4 σ H' s'/\Q b H'
inductive AP(X:Cx)(X4:fy (jl×Obj))(σ:St)(Q:fy V->Hp->Z3)(us:fy mu)(s':q8):Z3
 |m vs H'(_:Inv X X4 σ H' s')(_:Vals vs us)(_:Q vs H')
def SP(X:Cx)(X4:fy (jl×Obj))(D:Ends)(f:Flow)(s':q8):Z3:=
 match f with
 |.next=>∃σ' H',Inv X X4 σ' H' s'/\D.nx σ' H'
 |.brk=>∃σ' H',Inv X X4 σ' H' s'/\D.bk σ' H'
 |.cont=>∃σ' H',Inv X X4 σ' H' s'/\D.ct σ' H'
 |.ret u=>∃v σ' H',Inv X X4 σ' H' s'/\RelV v u/\D.rt v H'
def PE(X:Cx)(e:Expr)(t:TE):Z3:=
 ∀(X4:fy (jl×Obj))(s:q8)(σ:St)(H:Hp)(Q:VK),Inv X X4 σ H s->t σ H Q->wpAny (model X.prog X.w) X.A (eval e X.env) (EP X X4 σ Q) X.xe s
def PT(X:Cx)(e:Expr)(t:TT):Z3:=
 ∀(X4:fy (jl×Obj))(s:q8)(σ:St)(H:Hp)(Q:Bool->Hp->Z3),Inv X X4 σ H s->t σ H Q->wpAny (model X.prog X.w) X.A (isTrue e X.env<|eval e X.env) (TP X X4 σ Q) X.xe s
def PW(X:Cx)(e:Expr)(t:TT):Z3:=
 ∀(whole:Sem mu)(X4:fy (jl×Obj))(s:q8)(σ:St)(H:Hp)(Q:Bool->Hp->Z3),Inv X X4 σ H s->t σ H Q->wpAny (model X.prog X.w) X.A (isTrue e X.env whole) (TP X X4 σ Q) X.xe s
def PW.pt{X:Cx}{e:Expr}{t:TT}(h:PW X e t):PT X e t:=h _
def PA(X:Cx)(es:fy Expr)(t:TA):Z3:=
 ∀(pos:Pos)(X4:fy (jl×Obj))(s:q8)(σ:St)(H:Hp)(Q:fy V->Hp->Z3),Inv X X4 σ H s->t σ H Q->wpAny (model X.prog X.w) X.A (spliced<|backTo pos<|starEach es X.env) (AP X X4 σ Q) X.xe s
def PS(X:Cx)(st:Stmt)(t:TS):Z3:=
 ∀(X4:fy (jl×Obj))(s:q8)(σ:St)(H:Hp)(D:Ends),Inv X X4 σ H s->t D σ H->wpAny (model X.prog X.w) X.A (exec st X.env) (SP X X4 D) X.xe s
def PSs(X:Cx)(st:fy Stmt)(t:TS):Z3:=
 ∀(X4:fy (jl×Obj))(s:q8)(σ:St)(H:Hp)(D:Ends),Inv X X4 σ H s->t D σ H->wpAny (model X.prog X.w) X.A (execs st X.env) (SP X X4 D) X.xe s
def thn{α:Type}{t:Sem α}{Q b:α->q8->Z3}{M:Model}{A:Around}{E:mu->q8->Z3}{s:q8}(h:wpAny M A t Q E s)(c:∀a s,Q a s->b a s):wpAny M A t b E s:=ajz h c λ_ _ x=>x
section
variable{X:Cx}
inductive HN(i:Z5)(σ:St)(H:Hp)(Q:VK):Z3
 |m v(_:σ[i]?=some (some v))(_:Q v H)
def tC(v:V):TE:=λ_ H Q=>Q v H
def acJ{i:Z5}{x:Z6}{pos:Pos}(p:X.N[i]?=some x)(q:Vis X.env.scope x)(g:(x ==("__debug__":Str))=Z2:=by decide)(f:(x ==("__classdict__":Str))=Z2:=by decide):PE X (.Name x pos) (HN i):=by
 intro X4 s σ H Q I h;let⟨v,e,h⟩:=h;let⟨m,hn,n⟩:=I.loc;let⟨u,r,l⟩:=n i x v p e q;let fin:EP X X4 σ Q u s:=⟨v,H,I,r,h⟩;rcases l with⟨b,o⟩|⟨b,c,j,a⟩
 .exact wpAny_Name (wpAny_loadName_local I.ok.kind b hn o fin) g
 .rcases b with b|b
  .exact wpAny_Name (wpAny_loadName_cell I.ok.kind b j a fin) g
  .exact wpAny_Name (wpAny_loadName_free I.ok.kind b j a fin f) g
def au{i j pos}:PE X (.Constant (.int i) j pos) (tC (.int i)):=λ_ _ _ H _ I h=>wpAny_Constant_int {.int i,H,I.tok _,{1},h}
def nh{b j pos}:PE X (.Constant (.bool b) j pos) (tC (.bl b)):=λ_ _ _ H _ I h=>Constant_bool {.bl b,H,I,J,h}
def dN{j pos}:PE X (.Constant .none j pos) (tC .non):=λ_ _ _ H _ I h=>Constant_none {.non,H,I,J,h}
def aN{x j pos}:PE X (.Constant (.str x) j pos) (tC (.str x)):=λ_ _ _ H _ I h=>Calls.Constant_str {.str x,H,I.tok _,{1},h}
def Gl(X:Cx)(x:Z6):Z3:=X.env.kindOf x=some .globalImplicit
def oS{E:mu->q8->Z3}{X4:fy (jl×Obj)}{s:q8}{σ:St}{H:Hp}{x:Z6}{u:mu}{pos:Pos}{Q:mu->q8->Z3}(I:Inv X X4 σ H s)(b:Gl X x)(c:X.mg x=some u)(h:Q u s)(a:(x ==("__debug__":Str))=Z2:=by decide):wpAny (model X.prog X.w) X.A (eval (.Name x pos) X.env) Q E s:=
 al5 I.ok.kind b (Calls.loadGlobal_global (by rw[I.ok.glob];exact I.mod.glob.keeps I.bk) c h) a
def gQ{E:mu->q8->Z3}{X4:fy (jl×Obj)}{s:q8}{σ:St}{H:Hp}{x:Z6}{u:mu}{pos:Pos}{Q:mu->q8->Z3}(I:Inv X X4 σ H s)(a:Gl X x)(b:X.mg x=Z0)(e:bootBuiltins x=some u)(h:Q u s)(hn:x≠"__name__":=by decide)(c:(x ==("__debug__":Str))=Z2:=by decide):wpAny (model X.prog X.w) X.A (eval (.Name x pos) X.env) Q E s:=by let⟨f,h1,h2⟩:=I.mod.blt;exact al5 I.ok.kind a (Calls.loadGlobal_builtin (by rw[I.ok.glob];exact I.mod.glob.keeps I.bk) b (by rw[I.ok.blt];exact h1.keeps I.bk) ((h2 x hn).trans e) h) c
def eL{x:Z6}{v:V}{u:mu}{pos:Pos}(b:Gl X x)(c:X.mg x=some u)(r:RelV v u)(a:(x ==("__debug__":Str))=Z2:=by decide):PE X (.Name x pos) (tC v):=
 λ_ _ _ H _ I h=>oS I b c ⟨v,H,I,r,h⟩ a
def Qe{x:Z6}{v:V}{u:mu}{pos:Pos}(b:Gl X x)(c:X.mg x=Z0)(e:bootBuiltins x=some u)(r:RelV v u)(hn:x≠"__name__":=by decide)(a:(x ==("__debug__":Str))=Z2:=by decide):PE X (.Name x pos) (tC v):=
 λ_ _ _ H _ I h=>gQ I b c e ⟨v,H,I,r,h⟩ hn a
variable{a b:Expr}{ta tb:TE}{pos:Pos}
def PC(X:Cx)(op:CmpOp)(a b:Expr)(t:TE):Z3:=
 ∀(X4:fy (jl×Obj))(s:q8)(σ:St)(H:Hp)(Q:VK),Inv X X4 σ H s->t σ H Q →
  wpAny (model X.prog X.w) X.A (eval a X.env) (λv e=>wpAny (model X.prog X.w) X.A (eval b X.env) (λu c=>wpAny (model X.prog X.w) X.A (compareOp op v u) (EP X X4 σ Q) X.xe c) X.xe e) X.xe s
def Ay(b:Expr){op:CmpOp}(h:op≠.In)(h2:op≠.NotIn):behindInMarks op b=Z2:=by
 let c:(op==CmpOp.In)=Z2:=by cases op <;> first|rfl|exact absurd J h
 let a:(op==CmpOp.NotIn)=Z2:=by cases op <;> first|rfl|exact absurd J h2
 cases b <;> simp[behindInMarks,c,a]
inductive Sx(Q:Bool->Hp->Z3)(x:V)(H1:Hp):Z3
 |m c(_:x=.bl c)(_:Q c H1)
def tB(t:TE):TT:=λσ H Q=>t σ H λx H1=>Sx Q x H1
def Ri{op:CmpOp}{t:TE}(h:PC X op a b t)(h1:behindInMarks op b=Z2:=by first|exact Ay _ o7 o7|rfl):PE X (.Compare a [op] [b] pos) t:=λX4 s σ H Q I c=>wpAny_Compare1 (h X4 s σ H Q I c) h1
def UI{op:CmpOp}{t:TE}(h:PC X op a b t)(h1:behindInMarks op b=Z2:=by first|exact Ay _ o7 o7|rfl):PT X (.Compare a [op] [b] pos) (tB t):=by intro X4 s σ H Q I e;refine wpAny_isTrue_Compare1 (thn (h X4 s σ H _ I e) λv s1 h1=>thn h1 λu s2 h2=>thn h2 λ c s3 ⟨x,H1,I1,r1,q1⟩=>?_) h1;let⟨d,rfl,q⟩:=q1;cases r1;exact aj2 ⟨H1,I1,q⟩
def oU{e:Expr}{t:TE}(h:PE X e t)(b:∀whole,isTrue e X.env whole =(do let v ←whole;standAt e.pos;holding [v] (truthy v)):=by intro _;rfl):PT X e (tB t):=by intro X4 s σ H Q I a;refine isTrue_plain (thn (h X4 s σ H _ I a) λ v s1 ⟨x,H1,I1,r1,q1⟩=>?_)<|b _;let⟨d,rfl,q⟩:=q1;cases r1;exact aj2 ⟨H1,I1,q⟩
variable{tA tB':TT}{rest:fy Expr}
def aiq(t u:TT):TT:=λσ H Q=>t σ H λc H1=>if c=Z1 then u σ H1 Q else Q Z2 H1
def tOr(t u:TT):TT:=λσ H Q=>t σ H λc H1=>if c=Z1 then Q Z1 H1 else u σ H1 Q
def ahC(t:TT):TT:=λσ H Q=>t σ H λc H1=>Q (!c) H1
def pw_and1(b:PT X a tA):PW X (.BoolOp .And [a] pos) tA:=by
 intro f X4 s σ H Q I h;refine isTrue_and (thn (b X4 s σ H Q I h) λc s1 e=>?_);cases c with
 |true=>exact isTrue_and_nil e
 |false=>exact e
def pw_or1(b:PT X a tA):PW X (.BoolOp .Or [a] pos) tA:=by
 intro f X4 s σ H Q I h;refine isTrue_or (thn (b X4 s σ H Q I h) λc s1 e=>?_);cases c with
 |false=>exact isTrue_or_nil e
 |true=>exact e
def pw_and(e:PT X a tA)(g:PW X (.BoolOp .And (b::rest) pos) tB'):PW X (.BoolOp .And (a::b::rest) pos) (aiq tA tB'):=by
 intro f X4 s σ H Q I h;refine isTrue_and (thn (e X4 s σ H _ I h) λ c s1 ⟨H1,I1,q1⟩=>?_);cases c with
 |true=>exact g f X4 s1 σ H1 Q I1 q1
 |false=>exact⟨H1,I1,q1⟩
def pw_or(e:PT X a tA)(g:PW X (.BoolOp .Or (b::rest) pos) tB'):PW X (.BoolOp .Or (a::b::rest) pos) (tOr tA tB'):=by
 intro f X4 s σ H Q I h;refine isTrue_or (thn (e X4 s σ H _ I h) λ c s1 ⟨H1,I1,q1⟩=>?_);cases c with
 |true=>exact⟨H1,I1,q1⟩
 |false=>exact g f X4 s1 σ H1 Q I1 q1
def mP(b:PT X a tA):PT X (.UnaryOp .Not a pos) (ahC tA):=by intro X4 s σ H Q I h;exact isTrue_not<|b X4 s σ H (λc H1=>Q (!c) H1) I h
inductive Dr(tb:TE)(σ:St)(Q:VK)(x:V)(H1:Hp):Z3
 |m c(_:x=.bl c)(_:if c=Z1 then tb σ H1 Q else Q (.bl Z2) H1)
def aeP(ta tb:TE):TE:=λσ H Q=>ta σ H λx H1=>Dr tb σ Q x H1
inductive Fj(tb:TE)(σ:St)(Q:VK)(x:V)(H1:Hp):Z3
 |m c(_:x=.bl c)(_:if c=Z1 then Q (.bl Z1) H1 else tb σ H1 Q)
def ag8(ta tb:TE):TE:=λσ H Q=>ta σ H λx H1=>Fj tb σ Q x H1
def r8{op}{t:TE}(h:PE X a t):PE X (.BoolOp op [a] pos) t:=λX4 s σ H Q I b=>BoolOp_one<|h X4 s σ H Q I b
def vG(e:PE X a ta)(f:PE X (.BoolOp .And (b::rest) pos) tb):PE X (.BoolOp .And (a::b::rest) pos) (aeP ta tb):=by
 intro X4 s σ H Q I h;refine BoolOp_and (thn (e X4 s σ H _ I h) λ v s1 ⟨x,H1,I1,r1,q1⟩=>?_);let⟨c,rfl,q1⟩:=q1;cases r1;refine aj2 ?_;cases c with
 |true=>exact f X4 s1 σ H1 Q I1 q1
 |false=>exact{.bl Z2,H1,I1,J,q1}
def ad3(e:PE X a ta)(f:PE X (.BoolOp .Or (b::rest) pos) tb):PE X (.BoolOp .Or (a::b::rest) pos) (ag8 ta tb):=by
 intro X4 s σ H Q I h;refine BoolOp_or (thn (e X4 s σ H _ I h) λ v s1 ⟨x,H1,I1,r1,q1⟩=>?_);let⟨c,rfl,q1⟩:=q1;cases r1;refine aj2 ?_;cases c with
 |false=>exact f X4 s1 σ H1 Q I1 q1
 |true=>exact{.bl Z1,H1,I1,J,q1}
def tIf(t:TT)(ta tb:TE):TE:=λσ H Q=>t σ H λc H1=>if c=Z1 then ta σ H1 Q else tb σ H1 Q
def uX{c:Expr}(g:PT X c tA)(e:PE X a ta)(f:PE X b tb):PE X (.IfExp c a b pos) (tIf tA ta tb):=by
 intro X4 s σ H Q I h;refine wpAny_IfExp (thn (g X4 s σ H _ I h) λ d s1 ⟨H1,I1,q1⟩=>?_);cases d with
 |true=>exact e X4 s1 σ H1 Q I1 q1
 |false=>exact f X4 s1 σ H1 Q I1 q1
end
def X0(K:Frag)(H:Hp)(a:jl)(xs:fy V):Z3:=
 Rd H a (.lst xs)∨
  ∃(o:Obj)(C5:sA mu)(n:Z5),K.lookup a=some o/\o.cls=.type "list"/\o.dict=Z0/\o.data=.seq C5 n/\C5.size≤Z7/\Vals xs C5.toList
def X3(K:Frag)(H:Hp)(a:jl)(xs:fy V):Z3:=
 Rd H a (.tup xs)∨
  ∃(o:Obj)(C5:sA mu)(n:Z5),K.lookup a=some o/\o.cls=.type "tuple"/\o.data=.seq C5 n/\C5.size≤Z7/\Vals xs C5.toList
def DM:mu->nt V
 |.none=>some .non
 |.bool b=>some<|.bl b
 |.int i _=>some<|.int i
 |.str x _=>some<|.str x
 |.bytes b _=>some<|.byt b
 |.float b _=>some<|.flt b
 |.ref a=>some<|.ref a
 |.type n=>some<|.ty n
 |_=>Z0
def RelV.abs{x:V}{u:mu}(r:RelV x u):DM u=some x:=by
 cases x with
 |non=>cases r;rfl
 |bl _=>cases r;rfl
 |int _=>let⟨t,rfl⟩:=r;rfl
 |str _=>let⟨t,rfl⟩:=r;rfl
 |byt _=>let⟨t,rfl⟩:=r;rfl
 |flt _=>let⟨t,rfl⟩:=r;rfl
 |ref _=>cases r;rfl
 |ty _=>cases r;rfl
def RelV.inj{x y:V}{u:mu}(r:RelV x u)(q:RelV y u):x=y:=aiY<|r.abs.symm.trans q.abs
def Vals.inj:∀{xs ys:fy V}{us:fy mu},Vals xs us->Vals ys us->xs=ys
 |_,_,_,.nil,.nil=>rfl
 |_,_,_,.cons r t,.cons r' t'=>by rw[r.inj r',Vals.inj t t']
section
variable{X:Cx}{X4:fy (jl×Obj)}{σ:St}{H:Hp}{s:q8}{a:jl}{xs ys:fy V}
def X0.of{K:Frag}(h:H a=some (.lst xs)):X0 K H a xs:=.inl<|.inl h
def X3.of{K:Frag}(h:H a=some (.tup xs)):X3 K H a xs:=.inl<|.inl h
def Inv.list(I:Inv X X4 σ H s)(h:X0 X.K H a xs):∃C5:fy mu,Vals xs C5/\PlainL s.heap a C5.toArray/\xs.length≤Z7:=by
 rcases h with h|⟨o,C5,n,b,f,c,hs,g,r⟩
 .let⟨z,C5,n,r,e⟩:=h.ok I.hok;exact{C5,r,{_,n,e,J,J,J},z}
 .exists C5.toList,r,{o,n,I.kIn a o b,f,c,⇑hs};let e:=r.length;simp only[Array.length_toList] at e;omega
def Inv.tuple(I:Inv X X4 σ H s)(h:X3 X.K H a xs):∃C5:fy mu,Vals xs C5/\IsTup s.heap a C5.toArray/\xs.length≤Z7:=by
 rcases h with h|⟨o,C5,n,b,c,hs,f,r⟩
 .let⟨z,C5,r,p⟩:=h.ok I.hok;exact⟨C5,r,p,z⟩
 .exists C5.toList,r,{o,I.kIn a o b,c,n,⇑hs};let e:=r.length;simp only[Array.length_toList] at e;omega
def Inv.uF(I:Inv X X4 σ H s)(h:X0 X.K H a xs)(h':X0 X.K H a ys):xs=ys:=by
 let⟨C5,r,⟨o,n,e,_,_,d⟩,_⟩:=I.list h;let⟨its',c,⟨o',f,b,_,_,d'⟩,_⟩:=I.list h';rw[e] at b;cases b;rw[d] at d';injection d' with d1 _
 let:C5=its':=⇑(congrArg Array.toList d1)
 subst this;exact r.inj c
def Inv.yE(I:Inv X X4 σ H s)(h:X3 X.K H a xs)(h':X3 X.K H a ys):xs=ys:=by
 let⟨C5,r,⟨o,e,_,n,d⟩,_⟩:=I.tuple h;let⟨its',c,⟨o',b,_,f,d'⟩,_⟩:=I.tuple h';rw[e] at b;cases b;rw[d] at d';injection d' with d1 _
 let:C5=its':=⇑(congrArg Array.toList d1)
 subst this;exact r.inj c
end
abbrev Cx.pG(X:Cx)(E:mu->q8->Z3):Cx:={X with xe:=E}
abbrev Cx.nox(X:Cx):Cx:=X.pG λ_ _=>False
def Cx.Ok.pG{X:Cx}(ok:X.Ok)(E:mu->q8->Z3):(X.pG E).Ok:=
 ⟨ok.mod,ok.kind,ok.glob,ok.blt,ok.above,ok.inj,ok.has,ok.cab,ok.hd,ok.frames,ok.stk,ok.exf,ok.bs,ok.bsz,ok.uM,ok.ua,ok.jJ,ok.frf⟩
def Cx.Ok.zU{X:Cx}{E:mu->q8->Z3}(ok:(X.pG E).Ok):X.Ok:=
 ⟨ok.mod,ok.kind,ok.glob,ok.blt,ok.above,ok.inj,ok.has,ok.cab,ok.hd,ok.frames,ok.stk,ok.exf,ok.bs,ok.bsz,ok.uM,ok.ua,ok.jJ,ok.frf⟩
section
variable{X:Cx}{X4:fy (jl×Obj)}{σ:St}{H:Hp}{s:q8}{E:mu->q8->Z3}
def Inv.pG(I:Inv X X4 σ H s)(E:mu->q8->Z3):Inv (X.pG E) X4 σ H s:={I.ok.pG E,I.os,I.bare,I.base,I.loc,I.cell,I.free,I.g9,I.pin,I.hok,I.len}
def Inv.zU(I:Inv (X.pG E) X4 σ H s):Inv X X4 σ H s:=⟨I.ok.zU,I.os,I.bare,I.base,I.loc,I.cell,I.free,I.g9,I.pin,I.hok,I.len⟩
end
section
variable{X:Cx}{st:Stmt}{rest:fy Stmt}{t u:TS}{e:Expr}{te:TE}{pos:Pos}
def p8:TS:=λD σ H=>D.nx σ H
def oh(t u:TS):TS:=λD σ H=>t {D with nx:=u D} σ H
def aP:PSs X [] p8:=λ_ _ σ H _ I h=>ak1 ⟨σ,H,I,h⟩
def ai(h1:PS X st t)(h2:PSs X rest u):PSs X (st::rest) (oh t u):=by
 intro X4 s σ H D I h;refine wpAny_execs_cons (thn (h1 X4 s σ H {D with nx:=u D} I h) λf s1 q=>?_);cases f with
 |next=>let⟨σ',H',a,q⟩:=q;exact h2 X4 s1 σ' H' D a q
 |ret v=>exact q
 |brk=>exact q
 |cont=>exact q
def aq(h1:PS X st t):PSs X [st] t:=by
 intro X4 s σ H D I h;refine wpAny_execs_cons (thn (h1 X4 s σ H D I h) λf s1 q=>?_);cases f with
 |next=>exact ak1 q
 |ret v=>exact q
 |brk=>exact q
 |cont=>exact q
def Inv.quiet{X4:fy (jl×Obj)}{σ:St}{H:Hp}{s:q8}(I:Inv X X4 σ H s):interactive X.env=Z2:=by simp[interactive,I.ok.kind]
def afw(te:TE):TS:=λD σ H=>te σ H λ_ H1=>D.nx σ H1
def aY(a:PE X e te)(hs:swapsWith e Z0 pos.line X.env=pure Z2:=by rfl):PS X (.Expr e pos) (afw te):=by intro X4 s σ H D I h;exact wpAny_Expr_any (thn (a X4 s σ H _ I h) λ v s1 ⟨x,H1,I1,r1,q1⟩=>⟨σ,H1,I1,q1⟩) I.quiet hs
def ag7(te:TE):TS:=λD σ H=>te σ H D.rt
def aJ(a:PE X e te):PS X (.Return (some e) pos) (ag7 te):=by intro X4 s σ H D I h;exact wpAny_Return_some (thn (a X4 s σ H _ I h) λ v s1 ⟨x,H1,I1,r1,q1⟩=>⟨x,σ,H1,I1,r1,q1⟩)
def tY(c:TT)(t u:TS):TS:=λD σ H=>c σ H λb H1=>if b=Z1 then t D σ H1 else u D σ H1
def aW{c:Expr}{a b:fy Stmt}{tc:TT}(g:PT X c tc)(f:PSs X a t)(e:PSs X b u):PS X (.If c a b pos) (tY tc t u):=by
 intro X4 s σ H D I h;refine wpAny_If (thn (g X4 s σ H _ I h) λ d s1 ⟨H1,I1,q1⟩=>?_);cases d with
 |true=>exact f X4 s1 σ H1 D I1 q1
 |false=>exact e X4 s1 σ H1 D I1 q1
def Wf:TS:=λ_ _ _=>False
def cA:PS X st Wf:=λ_ _ _ _ _ _ h=>h.elim
end
abbrev TG:=V->St->Hp->(St->Hp->Z3)->Z3
abbrev TGs:=fy V->St->Hp->(St->Hp->Z3)->Z3
def PG(X:Cx)(a:Expr)(t:TG):Z3:=
 ∀(X4:fy (jl×Obj))(s:q8)(σ:St)(H:Hp)(v:V)(u:mu)(Q:St->Hp->Z3),Inv X X4 σ H s->RelV v u->t v σ H Q →
  wpAny (model X.prog X.w) X.A (assign a X.env u) (λ_ s'=>∃σ' H',Inv X X4 σ' H' s'/\Q σ' H') X.xe s
def PGs(X:Cx)(ts:fy Expr)(t:TGs):Z3:=
 ∀(X4:fy (jl×Obj))(s:q8)(σ:St)(H:Hp)(vs:fy V)(us:fy mu)(Q:St->Hp->Z3),Inv X X4 σ H s->Vals vs us->t vs σ H Q →
  wpAny (model X.prog X.w) X.A (assignInOrder ((assignEach ts X.env).map (·.2)) us) (λ_ s'=>∃σ' H',Inv X X4 σ' H' s'/\Q σ' H') X.xe s
abbrev Hu:=V->V->V->Hp->(Hp->Z3)->Z3
def Vo(X:Cx)(t:Hu):Z3:=
 ∀(X4:fy (jl×Obj))(s:q8)(σ:St)(H:Hp)(o i v:V)(a b u:mu)(Q:Hp->Z3),Inv X X4 σ H s->RelV o a->RelV i b->RelV v u->t o i v H Q →
  wpAny (model X.prog X.w) X.A (setItem a b u) (λ_ s'=>∃H',Inv X X4 σ H' s'/\Q H') X.xe s
section
variable{X:Cx}{pos:Pos}
def ng(i:Z5):TG:=λv σ H Q=>Q (σ.set i<|some v) H
def QV{i:Z5}{x:Z6}(a:X.N.Nodup)(hi:X.N[i]?=some x)(b:Loc X.env.scope x)(e:X.fn x=Z1∨X.env.scope.names.lookup x=some .local:=by first|exact .inl rfl|exact .inr rfl|assumption):PG X (.Name x pos) (ng i):=by intro X4 s σ H v u Q I r h;exact wpAny_assign_Name<|AU I a hi b r (λs' c=>{_,H,c,h}) e
def aim:TGs:=λvs σ H Q=>vs=[]/\Q σ H
inductive MP(t:TG)(u:TGs)(vs:fy V)(σ:St)(H:Hp)(Q:St->Hp->Z3):Z3
 |m v r(_:vs=v::r)(_:t v σ H λσ' H'=>u r σ' H' Q)
def gD:PGs X [] aim:=by intro X4 s σ H vs us Q I r h;let⟨e,h⟩:=h;subst e;cases r;exact assignInOrder_nil ⟨σ,H,I,h⟩
def bS{e:Expr}{es:fy Expr}{t:TG}{u:TGs}(h1:PG X e t)(h2:PGs X es u)(hs:(assignEach (e::es) X.env).map (·.2)=assign e X.env ::(assignEach es X.env).map (·.2):=by rfl):PGs X (e::es) (MP t u):=by
 intro X4 s σ H vs us Q I r h;let⟨v,f,c,h⟩:=h;subst c;cases r with
 |cons r b=>rw[hs];refine assignInOrder_cons (thn (h1 X4 s σ H _ _ _ I r h) λ _ s1 ⟨a,H1,I1,q1⟩=>?_);exact h2 X4 s1 a H1 _ _ Q I1 b q1
inductive Il(K:Frag)(n:Z5)(t:TGs)(v:V)(σ:St)(H:Hp)(Q:St->Hp->Z3):Z3
 |m a xs(_:v=.ref a)(_:X3 K H a xs)(_:xs.length=n)(_:t xs σ H Q)
def lY{es:fy Expr}{k:Z5}{t:TGs}{n:Z5}(j:X.calm=Z1)(h:PGs X es t)(hn:(assignEach es X.env).length=n:=by rfl)(c:(assignEach es X.env).findIdx? (·.1)=Z0:=by rfl):PG X (.Tuple es k pos) (Il X.K n t):=by
 intro X4 s σ H v u Q I r f;let⟨a,xs,q,l,p,f⟩:=f;subst q;cases r;let⟨C5,g,x,y⟩:=I.tuple l;refine assign_Tuple_tuple (I.ok.hd j) x (by simp[hn,←p,g.length]) c λh' i=>?_
 let m:Inv X X4 σ H {s with heap:=h'}:=I.kept (t':=s.toks) λb o e=>i b o (ajs<|aiP e) e
 exact h X4 _ σ H xs _ Q m (⇑g) f
def aia(to a:TE)(t:Hu):TG:=λv σ H Q=>to σ H λo H1=>a σ H1 λi H2=>t o i v H2 λb=>Q σ b
def A8{o i:Expr}{to c:TE}{t:Hu}(g:PE X o to)(hi:PE X i c)(hs:Vo X t)(f:∀v,assign (.Subscript o i pos) X.env v =(do
   let a ←holding [v] (eval o X.env);let b ←holding [v,a] (eval i X.env)
   standAt pos
   holding [v,a,b] (setItem a b v)
   release [v,a,b] []):=by intro _;rfl):PG X (.Subscript o i pos) (aia to c t):=by
 intro X4 s σ H v u Q I r h;rw[f];refine aiF<|aka (thn (g X4 s σ H _ I h) λ a s1 ⟨x,H1,I1,r1,q1⟩=>?_);refine aiF<|aka (thn (hi X4 s1 σ H1 _ I1 q1) λ b s2 ⟨y,H2,I2,r2,q2⟩=>?_);refine aiF<|wpAny_standAt<|aiF<|aka (thn (hs X4 s2 σ H2 x y v a b u _ I2 r1 r2 r q2) λ _ s3 ⟨e,I3,q3⟩=>?_);exact wpAny_release ⟨σ,e,I3,q3⟩
def DO(te:TE)(g:TG):TS:=λD σ H=>te σ H λx H1=>g x σ H1 D.nx
def AG{tg e:Expr}{te:TE}{g:TG}(c:PE X e te)(a:PG X tg g)(hs:swapsWithSole [tg] e pos.line X.env=pure Z2:=by rfl)(b:swappedStores [tg] e X.env=pure Z0:=by rfl)(h1:(assignEach [tg] X.env).map (·.2)=[assign tg X.env]:=by rfl):PS X (.Assign [tg] e pos) (DO te g):=by intro X4 s σ H D I h;refine wpAny_Assign_stores (thn (c X4 s σ H _ I h) λ v s1 ⟨x,H1,I1,r1,q1⟩=>?_) hs b;rw[h1];exact thn (a X4 s1 σ H1 x v _ I1 r1 q1) λ_ s2 q=>q
def qW{i:Z5}{x:Z6}{e:Expr}{te:TE}{pos':Pos}(f:X.N.Nodup)(hi:X.N[i]?=some x)(a:Loc X.env.scope x)(g:PE X e te)(hs:swapsWith e (some (.Name x pos')) pos.line X.env=pure Z2:=by rfl)(b:X.fn x=Z1∨X.env.scope.names.lookup x=some .local:=by first|exact .inl rfl|exact .inr rfl|assumption) :
  PS X (.Assign [.Name x pos'] e pos) (DO te (ng i)):=by
 intro X4 s σ H D I h;refine wpAny_Assign_Name (thn (g X4 s σ H _ I h) λ v s1 ⟨y,H1,I1,r1,q1⟩=>?_) hs;exact AU I1 f hi a r1 (λs2 c=>{_,H1,c,q1}) b
end
section
variable{X:Cx}{pos:Pos}
inductive Gq(c:TT)(tb:TS)(D:Ends)(σ:St)(H:Hp):Z3
 |m (W:Z5->St->Hp->Z3)(_:∃m,W m σ H)(_:∀m σ H,W m σ H->c σ H λb H1=>if b=Z1 then ∃N:St->Hp->Z3,(∀σ' H',N σ' H'->∃m',m'<m/\W m' σ' H')/\tb {D with nx:=N,ct:=N,bk:=D.nx} σ H1 else D.nx σ H1)
def IC{c:Expr}{g:fy Stmt}{tc:TT}{tb:TS}(u:PassesOwn (model X.prog X.w) X.A X.env X.xe)(y:PT X c tc)(F:PSs X g tb):PS X (.While c g [] pos) (Gq tc tb):=by
 intro X4 s σ H D I h;let⟨W,⟨B,L⟩,j⟩:=h;refine wpAny_While<|codeAny_whileLoop (λn s'=>∃σ' H',Inv X X4 σ' H' s'/\W n σ' H') ?_ B ⟨σ,H,I,L⟩;rintro n s1 ⟨e,H1,C,z⟩;refine akq u (thn (y X4 s1 e H1 _ C<|j n e H1 z) λ b s2 ⟨H2,I2,l⟩=>?_);cases b with
 |true=>
  let⟨N,x,l⟩:=l;rw[aiN rfl];refine akq u (thn (F X4 s2 e H2 _ I2 l) λf s3 m=>?_);cases f with
  |next=>let⟨a,i,p,o⟩:=m;let⟨q,t,r⟩:=x a i o;exact⟨q,t,a,i,p,r⟩
  |cont=>let⟨a,i,p,o⟩:=m;let⟨q,t,r⟩:=x a i o;exact⟨q,t,a,i,p,r⟩
  |brk=>exact m
  |ret v=>exact m
 |false=>rw[aiJ ai4];exact ak1 ⟨e,H2,I2,l⟩
end
structure It where
 go:Z5->Hp->Z3
 yld:Z5->Hp->V->Hp->Z3
 stop:Z5->Hp->Z3
def fq(X:Cx)(X4:fy (jl×Obj))(H:Hp)(b:jl):Z3:=
 H b=Z0/\b≠X.env.locals/\b∉X.fs/\(b∈X.ex∨X.s₀.heap.objs.size≤b)/\(∀x c,X.env.cells.lookup x=some c->c≠b)/\∀ p∈X.pn++X4,p.1≠b
def Inv.nO{X:Cx}{X4:fy (jl×Obj)}{σ:St}{H H':Hp}{s:q8}{b:jl}(I:Inv X X4 σ H s)(a:( ~~~s)≤b)(hn:H' b=Z0):fq X X4 H' b:=by
 refine{hn,akQ<|ajl I.lt a,I.ah4 a,.inr<|ai9 I.sz a,λx c e z=>?_,λp f z=>?_}
 .let⟨v,q⟩:=I.cell x c e;exact absurd (ajl q.lt (by rwa[z]))<|aj4 _
 .exact absurd (ajl (aiP (I.pin p f).1) (by rwa[z])) (aj4 _)
structure Turn(P:t6)(w:t7)(K:Frag)(tg:Expr)(b4:It)(fp:fy jl)(it:jl)(tn:Z5->Heap->Z3):Z3 where
 mem:it∈fp
 obj:∀i h,tn i h->∀ b∈fp,∃o,h.get? b=some o/\∀v,o.data≠.cell v
 keep:∀i h h',tn i h->(∀ b∈fp,∀o,h.get? b=some o->h'.get? b=some o)->tn i h'
 item:∀(X:Cx),X.prog=P->X.w=w->X.K=K->X.calm=Z1->∀(i:Z5)(X4:fy (jl×Obj))(s:q8)(σ:St)(H:Hp)(E:mu->q8->Z3),Inv X X4 σ H s->(∀ b∈fp,fq X X4 H b)->tn i s.heap->b4.go i H →
  wpAny (model P w) X.A (pyNext (.ref it)) (λr s1=>∃u,r=some u∧
   wpAny (model P w) X.A (letOwnedTupleGo tg (.ref it) u) (λ_ s2=>∃x H',Inv X X4 σ H' s2/\RelV x u/\b4.yld i H x H'/\tn (i+1) s2.heap/\∀ b∈fp,H' b=Z0) E s1) E s
 done:∀(X:Cx),X.prog=P->X.w=w->X.K=K->X.calm=Z1->∀(i:Z5)(X4:fy (jl×Obj))(s:q8)(σ:St)(H:Hp)(E:mu->q8->Z3),Inv X X4 σ H s->(∀ b∈fp,fq X X4 H b)->tn i s.heap->b4.stop i H →
  wpAny (model P w) X.A (pyNext (.ref it)) (λr s1=>r=Z0/\Inv X X4 σ H s1) E s
 self:∀(A:Around)(i:Z5)(s:q8)(Q:mu->q8->Z3)(E:mu->q8->Z3),tn i s.heap->Q (.ref it) s->wpAny (model P w) A (pyIter (.ref it)) Q E s
abbrev TI:=St->Hp->(It->Hp->Z3)->Z3
def PIE(X:Cx)(X4:fy (jl×Obj))(σ:St)(tg:Expr)(R:It->Hp->Z3)(a:mu)(s2:q8):Z3:=
 ∃(it:jl)(fp:fy jl)(c:Z5->Heap->Z3)(b4:It)(H':Hp),a=.ref it/\Inv X X4 σ H' s2/\Turn X.prog X.w X.K tg b4 fp it c/\c 0 s2.heap/\(∀ b∈fp,fq X X4 H' b)/\R b4 H'
def PI(X:Cx)(tg iter:Expr)(wi:TI):Z3:=
 ∀(X4:fy (jl×Obj))(s:q8)(σ:St)(H:Hp)(R:It->Hp->Z3),Inv X X4 σ H s->wi σ H R →
  wpAny (model X.prog X.w) X.A (eval iter X.env) (λv s1=>wpAny (model X.prog X.w) X.A (pyIter v) (PIE X X4 σ tg R) X.xe s1) X.xe s
def wM{M:Model}{A:Around}{E:mu->q8->Z3}{s:q8}{tg:Expr}{it:jl}{u:mu}{o:Obj}{n:String}{vs:sA mu}{Q:Unit->q8->Z3}(b:s.heap.get? it=some o)(e:o.cls=.type n)(c:o.data=.fields vs)(hn:["enumerate","zip","dict_itemiterator","dict_reverseitemiterator","odict_iterator","itertools.zip_longest","itertools.pairwise"].contains n=Z2)(a:Q () s):wpAny M A (letOwnedTupleGo tg (.ref it) u) Q E s:=by
 unfold letOwnedTupleGo;cases tg <;> first
  |exact aiK a
  |(cases u <;> first
    |exact aiK a
    |(refine aiF (wpAny_load b ?_)
      rw[e,c];show wpAny M A (if (["enumerate","zip","dict_itemiterator","dict_reverseitemiterator","odict_iterator","itertools.zip_longest","itertools.pairwise"].contains n&&vs[0]? == some (rawInt _))=Z1 then _ else _) Q E s;rw[aiJ (by intro h;rw[hn,Bool.false_and] at h;cases h)];exact aiK a))
def Itl(K:Frag)(a:jl):It:=
 {λi H=>∃xs x,X0 K H a xs/\xs[i]?=some x,λi H x H'=>H'=H/\∀xs,X0 K H a xs->xs[i]?=some x,λi H=>∃xs,X0 K H a xs/\xs.length≤i}
def Itt(K:Frag)(a:jl):It:=
 {λi H=>∃xs x,X3 K H a xs/\xs[i]?=some x,λi H x H'=>H'=H/\∀xs,X3 K H a xs->xs[i]?=some x,λi H=>∃xs,X3 K H a xs/\xs.length≤i}
def Itr(lo:Z4)(n:Z5):It:={λi _=>i<n,λi H x H'=>H'=H/\x=.int (lo+i),λi _=>n≤i}
def Fw{P:t6}{w:t7}{K:Frag}{tg:Expr}(a it:jl):Turn P w K tg (Itl K a) [it] it (λi h=>h.IsListIter it a i) where
 mem:=by simp
 obj:=λi h st b f=>by
  let e:b=it:=⇑f
  subst e;let⟨o,e,c,d⟩:=st;exact{o,e,λv z=>by rw[d] at z;cases z}
 keep:=λi h h' st k=>st.at λo e=>k it o8 o e
 item:=by
  intro X r A n F i X4 s σ H E I l st B;subst r A n;let⟨xs,x,j,q⟩:=B;let⟨C5,m,p,L⟩:=I.list j;let⟨u,Y,ru⟩:=m.get q;let⟨f0,f1,f2,C,y,t⟩:=l it o8;refine wpAny_pyNext_list_item st p.isList (x:=u) (⇑Y) λh' g sb=>?_
  let U:Inv X X4 σ H {s with heap:=h'}:=I.turned (t':=s.toks) (λb o f e=>(sb.2 b f).trans e) f0 f1 C y t;let⟨o,e,c,d⟩:=id g;exact{u,J,wM (s:={s with heap:=h'}) e c d o7 {x,H,U,ru,{J,λys O=>by rwa[I.uF O j]},g,λb f=>(l b f).1}}
 done:=by intro X r A n F i X4 s σ H E I l st B;subst r A n;let⟨xs,j,q⟩:=B;let⟨C5,m,p,L⟩:=I.list j;let⟨f0,f1,f2,C,y,t⟩:=l it o8;let hl:=m.length;exact wpAny_pyNext_list_end (I.ok.hd F) st p.isList (by simp;omega) λh' S=>{J,I.turned (t':=s.toks) (λb o f e=>S b o f e) f0 f1 C y t}
 self:=λ_ _ _ _ _ st h=>wpAny_pyIter_listiter st h
def Ey{P:t6}{w:t7}{K:Frag}{tg:Expr}(a it:jl):Turn P w K tg (Itt K a) [it] it (λi h=>h.IsTupleIter it a i) where
 mem:=by simp
 obj:=λi h st b f=>by
  let e:b=it:=⇑f
  subst e;let⟨o,e,c,d⟩:=st;exact{o,e,λv z=>by rw[d] at z;cases z}
 keep:=λi h h' st k=>st.at λo e=>k it o8 o e
 item:=by
  intro X r A n F i X4 s σ H E I l st B;subst r A n;let⟨xs,x,j,q⟩:=B;let⟨C5,m,p,L⟩:=I.tuple j;let⟨u,Y,ru⟩:=m.get q;let⟨f0,f1,f2,C,y,t⟩:=l it o8;refine wpAny_pyNext_tuple_item st (show s.heap.IsTuple a C5.toArray from p) (x:=u) (⇑Y) λh' g sb=>?_
  let U:Inv X X4 σ H {s with heap:=h'}:=I.turned (t':=s.toks) (λb o f e=>(sb.2 b f).trans e) f0 f1 C y t;let⟨o,e,c,d⟩:=id g;exact{u,J,wM (s:={s with heap:=h'}) e c d o7 {x,H,U,ru,{J,λys O=>by rwa[I.yE O j]},g,λb f=>(l b f).1}}
 done:=by intro X r A n F i X4 s σ H E I l st B;subst r A n;let⟨xs,j,q⟩:=B;let⟨C5,m,p,L⟩:=I.tuple j;let⟨f0,f1,f2,C,y,t⟩:=l it o8;let hl:=m.length;exact wpAny_pyNext_tuple_end (I.ok.hd F) st (show s.heap.IsTuple a C5.toArray from p) (by simp;omega) λh' S=>{J,I.turned (t':=s.toks) (λb o f e=>S b o f e) f0 f1 C y t}
 self:=λ_ _ _ _ _ st h=>wpAny_pyIter_tupleiter st h
def Eg{P:t6}{w:t7}{K:Frag}{tg:Expr}(it:jl)(lo:Z4)(n:Z5):Turn P w K tg (Itr lo n) [it] it (λi h=>IsRangeIter h it (lo +(i:Z5)*1) (↥n -(i:Z5)) 1) where
 mem:=by simp
 obj:=λi h st b a=>by
  let e:b=it:=⇑a
  subst e;exact⟨_,st,λv z=>by let y:Data.fields _=Data.cell v:=z;cases y⟩
 keep:=λi h h' st k=>k it o8 _ st
 item:=by
  intro X q m u j i X4 s σ H E I f st g;subst q m u;let⟨f0,f1,f2,r,p,l⟩:=f it o8;let W:=Walks.range (prog:=X.prog) (w:=X.w) (I.ok.hd j) it lo 1 n;refine W.item i s _ _ g st λv h' x F c B=>?_
  let⟨t,rfl⟩:=F;let A:Inv X X4 σ H {s with heap:=h',toks:=x}:=I.turned (λb o a e=>B b o (⇑a) e) f0 f1 r p l;refine{1,wM (s:={s with heap:=h',toks:=x}) (n:="range_iterator") c J J o7 {.int (lo+i),H,A,{t,?_},⟨J,J⟩,c,λb a=>(f b a).1}};rw[Int.mul_one]
 done:=by intro X q m u j i X4 s σ H E I f st g;subst q m u;let⟨f0,f1,f2,r,p,l⟩:=f it o8;exact wpAny_pyNext_range_end (I.ok.hd j) st (by let:n≤i:=g;omega) λh' C=>{J,I.turned (t':=s.toks) (λb o a e=>C b o a e) f0 f1 r p l}
 self:=λ_ _ _ _ _ st h=>wpAny_pyIter_rangeiter st h
section
variable{X:Cx}{tg:Expr}
inductive Ck(K:Frag)(R:It->Hp->Z3)(x:V)(H1:Hp):Z3
 |m a(_:x=.ref a)(_:∃xs,X0 K H1 a xs)(_:R (Itl K a) H1)
def af5(K:Frag)(tl:TE):TI:=λσ H R=>tl σ H λx H1=>Ck K R x H1
inductive Fb(K:Frag)(R:It->Hp->Z3)(x:V)(H1:Hp):Z3
 |m a(_:x=.ref a)(_:∃xs,X3 K H1 a xs)(_:R (Itt K a) H1)
def aht(K:Frag)(tl:TE):TI:=λσ H R=>tl σ H λx H1=>Fb K R x H1
def ck{l:Expr}{tl:TE}(f:PE X l tl):PI X tg l (af5 X.K tl):=by
 intro X4 s σ H R I h;refine thn (f X4 s σ H _ I h) λ v s1 ⟨x,H1,I1,r1,q1⟩=>?_
 let⟨a,e,⟨xs,c⟩,q⟩:=q1;subst e;cases r1;let⟨C5,i,p,j⟩:=I1.list c;refine alq p.isList ?_;refine{(~~~s1),[~~~s1],_,_,H1,J,I1.kept (t':=s1.toks) λb o e=>aiI _ e,Fw a _,{_,aiW _ J,J,J},λb g=>?_,q};let e:b=( ~~~s1):=⇑g
 subst e;exact I1.nO (aiL _)<|I1.hok.fresh<|aiL _
def wX{l:Expr}{tl:TE}(f:PE X l tl):PI X tg l (aht X.K tl):=by
 intro X4 s σ H R I h;refine thn (f X4 s σ H _ I h) λ v s1 ⟨x,H1,I1,r1,q1⟩=>?_
 let⟨a,e,⟨xs,c⟩,q⟩:=q1;subst e;cases r1;let⟨C5,i,p,j⟩:=I1.tuple c;refine ak5 (show s1.heap.IsTuple a C5.toArray from p) ?_;refine{(~~~s1),[~~~s1],_,_,H1,J,I1.kept (t':=s1.toks) λb o e=>aiI _ e,Ey a _,{_,aiW _ J,J,J},λb g=>?_,q};let e:b=( ~~~s1):=⇑g
 subst e;exact I1.nO (aiL _)<|I1.hok.fresh<|aiL _
def Ad{X4:fy (jl×Obj)}{σ:St}{H:Hp}{s:q8}{R:It->Hp->Z3}{E:mu->q8->Z3}{lo hi:Z4}{t u v:Tok}{c:Z5}(I:Inv X X4 σ H s)(h1:-(2 ^ 62)≤lo)(h2:lo<2 ^ 62)(h3:-(2 ^ 62)≤hi)(h4:hi<2 ^ 62)(q:R (Itr lo (hi-lo).toNat) H):wpAny (model X.prog X.w) X.A (pyIter (.ref (~~~s))) (PIE X X4 σ tg R) E {s with heap:=s.heap.push {.type "range",Z0,.fields #[.int lo t,.int hi u,.int 1 v],#[]},toks:=c}:=by
 refine wpAny_pyIter_range (IsRange.new ..) (small_one h1 h2 h3 h4) ?_;let a:Inv X X4 σ H {s with heap:=s.heap.push {.type "range",Z0,.fields #[.int lo t,.int hi u,.int 1 v],#[]},toks:=c}:=I.kept λb o e=>aiI _ e
 refine⟨(s.heap.push {.type "range",Z0,.fields #[.int lo t,.int hi u,.int 1 v],#[]}).objs.size,[(s.heap.push {.type "range",Z0,.fields #[.int lo t,.int hi u,.int 1 v],#[]}).objs.size],_,_,H,J,
  a.kept (t':=c) λb o e=>aiI _ e,Eg _ lo (hi-lo).toNat,?_,λb h=>?_,q⟩
 .let g:lo +((0:Z5):Z4)*1=lo:=by simp
  let f:(((hi-lo).toNat:Z5):Z4) -((0:Z5):Z4)=Builtin.Range.rangeSize lo hi 1:=by rw[rangeSize_one];split <;> omega
  show IsRangeIter _ _ (lo +((0:Z5):Z4)*1) ((((hi-lo).toNat:Z5):Z4) -((0:Z5):Z4)) 1;rw[g,f];exact aiW _ J
 .let e:b =(s.heap.push {.type "range",Z0,.fields #[.int lo t,.int hi u,.int 1 v],#[]}).objs.size:=⇑h
  subst e;exact a.nO (aiL _)<|a.hok.fresh<|aiL _
inductive B9(R:It->Hp->Z3)(vs:fy V)(H1:Hp):Z3
 |m (j:Z4)(_:vs=[.int j])(_:-(2 ^ 62)≤j)(_:j<2 ^ 62)(_:R (Itr 0 j.toNat) H1)
def adU(ta:TA):TI:=λσ H R=>ta σ H λvs H1=>B9 R vs H1
inductive B8(R:It->Hp->Z3)(vs:fy V)(H1:Hp):Z3
 |m (i j:Z4)(_:vs=[.int i,.int j])(_:-(2 ^ 62)≤i/\i<2 ^ 62/\-(2 ^ 62)≤j/\j<2 ^ 62)(_:R (Itr i (j-i).toNat) H1)
def aez(ta:TA):TI:=λσ H R=>ta σ H λvs H1=>B8 R vs H1
def eK{a:Expr}{ta:TA}{p pos:Pos}(b:Gl X "range")(c:X.mg "range" = Z0)(g:PA X [a] ta)(hs:starEach [a] X.env=[(Z2,eval a X.env)]:=by rfl):PI X tg (.Call (.Name "range" p) [a] [] pos) (adU ta):=by
 intro X4 s σ H R I h;refine Call_<|gQ I b c boot_range<|ajv (thn (g pos X4 s σ H _ I h) λ us s1 ⟨vs,H1,I1,r1,q1⟩=>?_) hs J;let⟨j,e,q1,f,q⟩:=q1;subst e;cases r1 with
 |cons r i=>cases i;let⟨t,rfl⟩:=r;exact call_range_1<|Ad I1 o6 o6 q1 f (⇑q)
def rM{a b:Expr}{ta:TA}{p pos:Pos}(g:Gl X "range")(m:X.mg "range" = Z0)(o:PA X [a,b] ta)(hs:starEach [a,b] X.env=[(Z2,eval a X.env),(Z2,eval b X.env)]:=by rfl)(c:starEach [b] X.env=[(Z2,eval b X.env)]:=by rfl) :
  PI X tg (.Call (.Name "range" p) [a,b] [] pos) (aez ta):=by
 intro X4 s σ H R I h;refine Call_<|gQ I g m boot_range<|ajv (thn (o pos X4 s σ H _ I h) λ us s1 ⟨vs,H1,I1,r1,q1⟩=>?_) (by rw[hs,c]) (by rw[c];rfl);let⟨i,j,e,⟨q1,n,u,v⟩,q⟩:=q1;subst e;cases r1 with
 |cons r f=>
  cases f with
  |cons l f=>cases f;let⟨t,rfl⟩:=r;let⟨t',rfl⟩:=l;exact call_range_2<|Ad I1 q1 n u v q
def ah6(wi:TI)(g:TG)(tb:TS):TS:=λD σ H=>wi σ H λb4 H1=>∃W:Z5->Z5->St->Hp->Z3,(∃m,W 0 m σ H1)/\∀i m σ H,W i m σ H →
 (b4.stop i H/\D.nx σ H)∨(b4.go i H/\∃N:St->Hp->Z3,(∀σ' H',N σ' H'->∃b,b<m/\W (i+1) b σ' H')/\∀x H',b4.yld i H x H'->g x σ H' λa H2=>tb {D with nx:=N,ct:=N,bk:=D.nx} a H2)
def sG(fp:fy jl)(h:Heap):fy (jl×Obj):=fp.filterMap λb=>(h.get? b).map λo=>(b,o)
def lK{fp:fy jl}{h:Heap}{b:jl}{o:Obj}(a:b∈fp)(e:h.get? b=some o):(b,o)∈sG fp h:=anp.mpr {b,a,by rw[e];rfl}
def ET{fp:fy jl}{h:Heap}{p:jl×Obj}(c:p∈sG fp h):p.1∈fp/\h.get? p.1=some p.2:=by
 let⟨b,f,e⟩:=anp.mp c;cases q:h.get? b with
 |none=>rw[q] at e;cases e
 |some o=>rw[q] at e;let a:(b,o)=p:=aiY e;subst a;exact⟨f,q⟩
def Inv.pinned{X4:fy (jl×Obj)}{σ:St}{H:Hp}{s:q8}{fp:fy jl}(I:Inv X X4 σ H s)(g:∀ b∈fp,fq X X4 H b)(h:∀ b∈fp,∃o,s.heap.get? b=some o/\∀v,o.data≠.cell v):Inv X (X4++sG fp s.heap) σ H s:=
 I.CB λp f=>(ai0.mp f).elim (λz=>I.pin p<|ajk _ z) λz=>by let⟨c,e⟩:=ET z;let⟨f0,f1,f2,_⟩:=g p.1 c;let⟨o,a,d⟩:=h p.1 c;rw[e] at a;cases a;exact⟨e,f0,f1,f2,d⟩
def Inv.pX{X4 pl:fy (jl×Obj)}{σ:St}{H:Hp}{s:q8}(I:Inv X (X4++pl) σ H s):Inv X X4 σ H s:=I.CB λp a=>I.pin p<|ajk _<|ajZ _ a
def cR{iter:Expr}{t:fy Stmt}{wi:TI}{g:TG}{tb:TS}{pos:Pos}(B:PassesOwn (model X.prog X.w) X.A X.env X.xe)(hc:X.calm=Z1)(hi:PI X tg iter wi)(hg:PG X tg g)(l:PSs X t tb)(hs:∀x,foldedSetIterable iter X.env x=pure x:=by intro _;rfl):PS X (.For tg iter t [] pos) (ah6 wi g tb):=by
 intro X4 s σ H D I h;refine wpAny_For (thn (hi X4 s σ H _ I h) λv s1 h1=>thn h1 λa2 s2 h2=>?_) hs;let⟨it,fp,tn,b4,H2,e,I2,T,a1,f2,W,⟨m0,w0⟩,F⟩:=h2;subst e;let q:∀{H':Hp},(∀ b∈fp,H' b=Z0)->∀ b∈fp,fq X X4 H' b:=λhn b l=>{hn b l,(f2 b l).2}
 refine codeAny_forLoop_any (λn s'=>∃i σ' H',Inv X X4 σ' H' s'/\tn i s'.heap/\(∀ b∈fp,H' b=Z0)/\W i n σ' H') ?_ m0 {(0),σ,H2,I2,a1,λb l=>(f2 b l).1,w0};rintro n s3 ⟨i,p,S,I3,L,z,w3⟩;rcases F i n p S w3 with⟨O,qn⟩|⟨go,N,hN,step⟩
 .refine akq B (thn (T.done X J J J hc i X4 s3 p S X.xe I3 (q z) L O) λ r s4 ⟨U,I4⟩=>?_);subst U;exact ak1 ⟨p,S,I4,qn⟩
 .refine akq B (thn (T.item X J J J hc i X4 s3 p S X.xe I3 (q z) L go) λ r s4 ⟨u,U,h4⟩=>?_);subst U;refine akq B (thn h4 λ _ s5 ⟨x,H5,I5,r5,y5,st5,fr5⟩=>?_);let Y:=I5.pinned (q fr5)<|T.obj _ _ st5;refine akq B (thn (hg _ s5 p H5 x u _ Y r5<|step x H5 y5) λ _ s6 ⟨a0,H6,I6,q6⟩=>?_);refine akq B (thn (l _ s6 a0 H6 _ I6 q6) λf s7 y=>?_);let again:∀{a:St}{c:Hp},Inv X (X4++sG fp s5.heap) a c s7->N a c->∃m,m<n/\∃i σ' H',Inv X X4 σ' H' s7/\tn i s7.heap/\(∀ b∈fp,H' b=Z0)/\W i m σ' H':=λ{a c}j C=>by let⟨m',hm,w7⟩:=hN a c C;refine{m',hm,i+1,a,c,j.pX,T.keep _ _ _ st5 λb l o e=>(j.pin (b,o)<|ajk _<|ajk _<|lK l e).1,λb l=>?_,w7};let⟨o,e,d⟩:=T.obj _ _ st5 b l;exact(j.pin (b,o)<|ajk _<|ajk _<|lK l e).2.1
  cases f with
  |next=>let⟨a,c,j,C⟩:=y;exact again j C
  |cont=>let⟨a,c,j,C⟩:=y;exact again j C
  |brk=>let⟨a,c,j,y⟩:=y;exact⟨a,c,j.pX,y⟩
  |ret v=>let⟨x7,a,c,j,r7,y⟩:=y;exact⟨x7,a,c,j.pX,r7,y⟩
end
def gw{K:Frag}{a:jl}{xs:fy V}{g:TG}{tb:TS}{D:Ends}{σ:St}{H:Hp}(b:Z5->St->Hp->Z3)(h0:b 0 σ H)(j:∀i σ H,i≤xs.length->b i σ H->X0 K H a xs)(hs:∀i x σ H,xs[i]?=some x->b i σ H->g x σ H λc H2=>tb {D with nx:=b (i+1),ct:=b (i+1),bk:=D.nx} c H2)(n:∀σ H,b xs.length σ H->D.nx σ H) :
  ∃W:Z5->Z5->St->Hp->Z3,(∃m,W 0 m σ H)/\∀i m σ H,W i m σ H →
   ((Itl K a).stop i H/\D.nx σ H)∨((Itl K a).go i H/\∃N:St->Hp->Z3,(∀σ' H',N σ' H'->∃h,h<m/\W (i+1) h σ' H')/\∀x H',(Itl K a).yld i H x H'->g x σ H' λc H2=>tb {D with nx:=N,ct:=N,bk:=D.nx} c H2):=by
 exists λi m σ H=>m=xs.length-i/\i≤xs.length/\b i σ H,{xs.length,o8,ajc _,h0};rintro i m σ H ⟨rfl,hi,p⟩;let q:=j i σ H hi p;by_cases f:i<xs.length
 .refine .inr {{xs,xs[i],q,by simp[f]},b (i+1),λσ' H' l=>{xs.length -(i+1),o6,J,f,l},λx H' y=>?_};let⟨e,y⟩:=y;subst e;exact hs i x σ _ (y xs q) p
 .let e:i=xs.length:=by omega
  subst e;exact .inl {{xs,q,aiL _},n σ H p}
def Qy{K:Frag}{a:jl}{xs:fy V}{g:TG}{tb:TS}{D:Ends}{σ:St}{H:Hp}(b:Z5->St->Hp->Z3)(h0:b 0 σ H)(j:∀i σ H,i≤xs.length->b i σ H->X3 K H a xs)(hs:∀i x σ H,xs[i]?=some x->b i σ H->g x σ H λc H2=>tb {D with nx:=b (i+1),ct:=b (i+1),bk:=D.nx} c H2)(n:∀σ H,b xs.length σ H->D.nx σ H) :
  ∃W:Z5->Z5->St->Hp->Z3,(∃m,W 0 m σ H)/\∀i m σ H,W i m σ H →
   ((Itt K a).stop i H/\D.nx σ H)∨((Itt K a).go i H/\∃N:St->Hp->Z3,(∀σ' H',N σ' H'->∃h,h<m/\W (i+1) h σ' H')/\∀x H',(Itt K a).yld i H x H'->g x σ H' λc H2=>tb {D with nx:=N,ct:=N,bk:=D.nx} c H2):=by
 exists λi m σ H=>m=xs.length-i/\i≤xs.length/\b i σ H,{xs.length,o8,ajc _,h0};rintro i m σ H ⟨rfl,hi,p⟩;let q:=j i σ H hi p;by_cases f:i<xs.length
 .refine .inr {{xs,xs[i],q,by simp[f]},b (i+1),λσ' H' l=>{xs.length -(i+1),o6,J,f,l},λx H' y=>?_};let⟨e,y⟩:=y;subst e;exact hs i x σ _ (y xs q) p
 .let e:i=xs.length:=by omega
  subst e;exact .inl {{xs,q,aiL _},n σ H p}
def fE{lo:Z4}{n:Z5}{g:TG}{tb:TS}{D:Ends}{σ:St}{H:Hp}(a:Z5->St->Hp->Z3)(h0:a 0 σ H)(hs:∀i σ H,i<n->a i σ H->g (.int (lo+i)) σ H λc H2=>tb {D with nx:=a (i+1),ct:=a (i+1),bk:=D.nx} c H2)(j:∀σ H,a n σ H->D.nx σ H) :
  ∃W:Z5->Z5->St->Hp->Z3,(∃m,W 0 m σ H)/\∀i m σ H,W i m σ H →
   ((Itr lo n).stop i H/\D.nx σ H)∨((Itr lo n).go i H/\∃N:St->Hp->Z3,(∀σ' H',N σ' H'->∃f,f<m/\W (i+1) f σ' H')/\∀x H',(Itr lo n).yld i H x H'->g x σ H' λc H2=>tb {D with nx:=N,ct:=N,bk:=D.nx} c H2):=by
 exists λi m σ H=>m=n-i/\i≤n/\a i σ H,{n,o8,ajc _,h0};rintro i m σ H ⟨rfl,hi,p⟩;by_cases b:i<n
 .refine .inr {b,a (i+1),λσ' H' h=>{n -(i+1),o6,J,b,h},λx H' y=>?_};let⟨e,y⟩:=y;subst e y;exact hs i σ _ b p
 .let e:i=n:=by omega
  subst e;exact .inl {aiL _,j σ H p}
abbrev R2:=V->V->Hp->VK->Z3
def OpR(X:Cx)(f:mu->mu->Sem mu)(r:R2):Z3:=
 ∀(X4:fy (jl×Obj))(s:q8)(σ:St)(H:Hp)(x y:V)(v u:mu)(Q:VK),Inv X X4 σ H s->RelV x v->RelV y u->r x y H Q →
  wpAny (model X.prog X.w) X.A (f v u) (EP X X4 σ Q) X.xe s
def UnR(X:Cx)(f:mu->Sem mu)(r:V->Hp->VK->Z3):Z3:=
 ∀(X4:fy (jl×Obj))(s:q8)(σ:St)(H:Hp)(x:V)(v:mu)(Q:VK),Inv X X4 σ H s->RelV x v->r x H Q →
  wpAny (model X.prog X.w) X.A (f v) (EP X X4 σ Q) X.xe s
def dh(X:Cx)(f:mu)(r:fy V->Hp->VK->Z3):Z3:=
 ∀(X4:fy (jl×Obj))(s:q8)(σ:St)(H:Hp)(xs:fy V)(us:fy mu)(Q:VK),Inv X X4 σ H s->Vals xs us->r xs H Q →
  wpAny (model X.prog X.w) X.A (call f us) (EP X X4 σ Q) X.xe s
def tOp(r:R2)(ta tb:TE):TE:=λσ H Q=>ta σ H λx H1=>tb σ H1 λy H2=>r x y H2 Q
def tUn(r:V->Hp->VK->Z3)(ta:TE):TE:=λσ H Q=>ta σ H λx H1=>r x H1 Q
inductive rI(C:Z4->Z4->Z3)(g:Z4->Z4->V)(x:V)(y:V)(H:Hp)(Q:VK):Z3
 |m i j(_:x=.int i)(_:y=.int j)(_:C i j)(_:Q (g i j) H)
inductive rI0(g:Z4->Z4->V)(x:V)(y:V)(H:Hp)(Q:VK):Z3
 |m i j(_:x=.int i)(_:y=.int j)(_:Q (g i j) H)
inductive rU(g:Z4->V)(x:V)(H:Hp)(Q:VK):Z3
 |m i(_:x=.int i)(_:Q (g i) H)
section
variable{X:Cx}{a b c:Expr}{ta tb tc:TE}{pos:Pos}
def HG(i:PE X a ta)(j:PE X b tb){X4:fy (jl×Obj)}{s:q8}{σ:St}{H:Hp}{R:V->V->Hp->Z3}(I:Inv X X4 σ H s)(h:ta σ H λx H1=>tb σ H1 λy H2=>R x y H2){Q:mu->q8->Z3}{f:mu->mu->Sem mu}(g:∀v u s2 x y H2,Inv X X4 σ H2 s2->RelV x v->RelV y u->R x y H2->wpAny (model X.prog X.w) X.A (f v u) Q X.xe s2) :
  wpAny (model X.prog X.w) X.A (eval a X.env) (λv e=>wpAny (model X.prog X.w) X.A (eval b X.env) (λu c=>wpAny (model X.prog X.w) X.A (f v u) Q X.xe c) X.xe e) X.xe s:=by
 refine thn (i X4 s σ H _ I h) λ v s1 ⟨x,H1,I1,r1,q1⟩=>?_
 refine thn (j X4 s1 σ H1 _ I1 q1) λ u s2 ⟨y,H2,I2,r2,q2⟩=>?_
 exact g v u s2 x y H2 I2 r1 r2 q2
def aB{op:Operator}{r:R2}(j:OpR X (binaryOp op) r)(g:PE X a ta)(e:PE X b tb):PE X (.BinOp a op b pos) (tOp r ta tb):=by intro X4 s σ H Q I h;exact wpAny_BinOp (HG g e I h λv u s2 x y H2 f c i q=>j X4 s2 σ H2 x y v u Q f c i q)
def qv{op:UnaryOp}{r:V->Hp->VK->Z3}(c:UnR X (unaryOp op) r)(b:PE X a ta):PE X (.UnaryOp op a pos) (tUn r ta):=by intro X4 s σ H Q I h;exact UnaryOp_ (thn (b X4 s σ H _ I h) λ v s1 ⟨x,H1,I1,r1,q1⟩=>c X4 s1 σ H1 x v Q I1 r1 q1)
def opI{f:mu->mu->Sem mu}{C:Z4->Z4->Z3}{g:Z4->Z4->Z4}(rule:∀(i j:Z4)(t u:Tok)(s:q8)(Q:mu->q8->Z3)(E:mu->q8->Z3),C i j->Q (.int (g i j) s.toks) {s with toks:=s.toks+1}->wpAny (model X.prog X.w) X.A (f (.int i t) (.int j u)) Q E s) :
  OpR X f (rI C λi j=>.int (g i j)):=by
 intro X4 s σ H x y v u Q I b a h;let⟨i,j,rfl,rfl,c,q⟩:=h;let⟨t,rfl⟩:=b;let⟨t',rfl⟩:=a;exact rule i j t t' s _ _ c {.int<|g i j,H,I.tok _,{1},q}
def G3{f:mu->mu->Sem mu}{g:Z4->Z4->Z4}(rule:∀(i j:Z4)(t u:Tok)(s:q8)(Q:mu->q8->Z3)(E:mu->q8->Z3),Q (.int (g i j) s.toks) {s with toks:=s.toks+1}->wpAny (model X.prog X.w) X.A (f (.int i t) (.int j u)) Q E s) :
  OpR X f (rI0 λi j=>.int (g i j)):=by
 intro X4 s σ H x y v u Q I b a h;let⟨i,j,rfl,rfl,q⟩:=h;let⟨t,rfl⟩:=b;let⟨t',rfl⟩:=a;exact rule i j t t' s _ _ {.int<|g i j,H,I.tok _,{1},q}
def DY{f:mu->mu->Sem mu}{g:Z4->Z4->Bool}(rule:∀(i j:Z4)(t u:Tok)(s:q8)(Q:mu->q8->Z3)(E:mu->q8->Z3),Q (.bool (g i j)) s->wpAny (model X.prog X.w) X.A (f (.int i t) (.int j u)) Q E s) :
  OpR X f (rI0 λi j=>.bl (g i j)):=by
 intro X4 s σ H x y v u Q I b a h;let⟨i,j,rfl,rfl,q⟩:=h;let⟨t,rfl⟩:=b;let⟨t',rfl⟩:=a;exact rule i j t t' s _ _ {.bl<|g i j,H,I,J,q}
def ahM(i j:Z4):Z3:=0≤j/\j≤1000000/\i.natAbs<2 ^ 64
def IE(i j:Z4):Z3:=(-(2 ^ 64)<i/\i<2 ^ 64)∨(-(2 ^ 64)<j/\j<2 ^ 64)
def IE.ok{i j:Z4}(h:IE i j):IntMulOk i j:=by
 rcases h with⟨h1,h2⟩|⟨h1,h2⟩
 .exact .of_left (intBits_le_64 h1 h2)
 .exact .of_right (intBits_le_64 h1 h2)
def bf:OpR X (binaryOp .Add) (rI0 λi j=>.int (i+j)):=G3 λ_ _ _ _ _ _ _ q=>add_int q
def mJ:OpR X (binaryOp .Sub) (rI0 λi j=>.int (i-j)):=G3 λ_ _ _ _ _ _ _ q=>sub_int q
def eX:OpR X (binaryOp .Mult) (rI IE λi j=>.int (i*j)):=opI λ_ _ _ _ _ _ _ a q=>mul_int q a.ok
def bW:OpR X (binaryOp .Mod) (rI (λ_ j=>0<j) λi j=>.int (i % j)):=opI λi j _ _ _ _ _ a q=>by let h1:↥0<j:=a;exact mod_int' o6 (by rwa[Int.fmod_eq_emod_of_nonneg i o6])
def SK:OpR X (binaryOp .Pow) (rI ahM λi j=>.int (i ^ j.toNat)):=opI λ_ _ _ _ _ _ _ a q=>pow_int_small a.1 a.2.1 a.2.2 q
def abt:OpR X (binaryOp .BitXor) (rI0 λi j=>.int (Builtin.bitXor i j)):=G3 λ_ _ _ _ _ _ _ q=>xor_int q
def unI{f:mu->Sem mu}{g:Z4->Z4}(rule:∀(i:Z4)(t:Tok)(s:q8)(Q:mu->q8->Z3)(E:mu->q8->Z3),Q (.int (g i) s.toks) {s with toks:=s.toks+1}->wpAny (model X.prog X.w) X.A (f (.int i t)) Q E s) :
  UnR X f (rU λi=>.int (g i)):=by
 intro X4 s σ H x v Q I a h;let⟨i,rfl,q⟩:=h;let⟨t,rfl⟩:=a;exact rule i t s _ _ {.int<|g i,H,I.tok _,{1},q}
def mZ:UnR X (unaryOp .USub) (rU λi=>.int (-i)):=unI λ_ _ _ _ _ q=>neg_int q
end
def Sf:V->V->Bool
 |.non,.non=>true|.non,.int _=>true|.int _,.non=>true|.non,.bl _=>true|.bl _,.non=>true|.non,.str _=>true|.str _,.non=>Z1
 |.int _,.int _=>true|.bl _,.bl _=>true|.str _,.str _=>true|.byt _,.byt _=>Z1
 |.int _,.str _=>true|.str _,.int _=>true|.bl _,.str _=>true|.str _,.bl _=>Z1
 |_,_=>Z2
def rEq:R2:=λx y H Q=>Sf x y=Z1/\Q (.bl<|decide (x=y)) H
def rNe:R2:=λx y H Q=>Sf x y=Z1/\Q (.bl (!decide (x=y))) H
def Cp{i j:Z4}:decide (V.int i=V.int j) =(i==j):=by rw[akI];simp
def GL{i j:Bool}:decide (V.bl i=V.bl j) =(i==j):=by rw[akI];simp
def Dj{i j:Z6}:decide (V.str i=V.str j) =(i==j):=by rw[akI];simp
def Dc{i j:sA UInt8}:decide (V.byt i=V.byt j) =(i.toList==j.toList):=by rw[akI];cases i;cases j;simp
section
variable{X:Cx}{a b c:Expr}{ta tb tc:TE}{pos:Pos}
def bC{X4:fy (jl×Obj)}{σ:St}{H:Hp}{s:q8}{Q:VK}{k a:Bool}(I:Inv X X4 σ H s)(q:Q (.bl k) H)(e:k=a):EP X X4 σ Q (.bool a) s:=by subst e;exact{.bl k,H,I,J,q}
def bL:OpR X (compareOp .Eq) rEq:=by
 intro X4 s σ H x y v u Q I b a h;let⟨hs,q⟩:=h;cases x with
 |non=>
  cases b;cases y with
  |non=>cases a;exact PySem.EqNone.eq_none_none<|bC I q o8
  |bl j=>cases a;exact PySem.EqNone.eq_none_bool<|bC I q o8
  |int j=>let⟨t',rfl⟩:=a;exact PySem.EqNone.eq_none_int<|bC I q o8
  |str j=>let⟨t',rfl⟩:=a;exact PySem.EqNone.eq_none_str<|bC I q o8
  |_=>exact absurd (show Z2=Z1 from hs) ai4
 |bl i=>
  cases b;cases y with
  |non=>cases a;exact PySem.EqNone.eq_bool_none<|bC I q o8
  |bl j=>cases a;exact eq_bool<|bC I q GL
  |str j=>let⟨t',rfl⟩:=a;exact PySem.EqMixed.eq_bool_str<|bC I q o8
  |_=>exact absurd (show Z2=Z1 from hs) ai4
 |int i=>
  let⟨t,rfl⟩:=b;cases y with
  |non=>cases a;exact PySem.EqNone.eq_int_none<|bC I q o8
  |int j=>let⟨t',rfl⟩:=a;exact eq_int<|bC I q Cp
  |str j=>let⟨t',rfl⟩:=a;exact PySem.EqMixed.eq_int_str<|bC I q o8
  |_=>exact absurd (show Z2=Z1 from hs) ai4
 |str i=>
  let⟨t,rfl⟩:=b;cases y with
  |non=>cases a;exact PySem.EqNone.eq_str_none<|bC I q o8
  |bl j=>cases a;exact PySem.EqMixed.eq_str_bool<|bC I q o8
  |int j=>let⟨t',rfl⟩:=a;exact PySem.EqMixed.eq_str_int<|bC I q o8
  |str j=>let⟨t',rfl⟩:=a;exact eq_str<|bC I q Dj
  |_=>exact absurd (show Z2=Z1 from hs) ai4
 |byt i=>
  let⟨t,rfl⟩:=b;cases y with
  |byt j=>let⟨t',rfl⟩:=a;exact PySem.W.eq_bytes<|bC I q Dc
  |_=>exact absurd (show Z2=Z1 from hs) ai4
 |_=>cases y <;> exact absurd (show Z2=Z1 from hs) ai4
def pL:OpR X (compareOp .NotEq) rNe:=by
 intro X4 s σ H x y v u Q I b a h;let⟨hs,q⟩:=h;cases x with
 |non=>
  cases b;cases y with
  |non=>cases a;exact PySem.EqNone.ne_none_none<|bC I q o8
  |bl j=>cases a;exact PySem.EqNone.ne_none_bool<|bC I q o8
  |int j=>let⟨t',rfl⟩:=a;exact PySem.EqNone.ne_none_int<|bC I q o8
  |str j=>let⟨t',rfl⟩:=a;exact PySem.EqNone.ne_none_str<|bC I q o8
  |_=>exact absurd (show Z2=Z1 from hs) ai4
 |bl i=>
  cases b;cases y with
  |non=>cases a;exact PySem.EqNone.ne_bool_none<|bC I q o8
  |bl j=>cases a;exact ne_bool<|bC I q<|congrArg not GL
  |str j=>let⟨t',rfl⟩:=a;exact PySem.EqMixed.ne_bool_str<|bC I q o8
  |_=>exact absurd (show Z2=Z1 from hs) ai4
 |int i=>
  let⟨t,rfl⟩:=b;cases y with
  |non=>cases a;exact PySem.EqNone.ne_int_none<|bC I q o8
  |int j=>let⟨t',rfl⟩:=a;exact ne_int<|bC I q<|congrArg not Cp
  |str j=>let⟨t',rfl⟩:=a;exact PySem.EqMixed.ne_int_str<|bC I q o8
  |_=>exact absurd (show Z2=Z1 from hs) ai4
 |str i=>
  let⟨t,rfl⟩:=b;cases y with
  |non=>cases a;exact PySem.EqNone.ne_str_none<|bC I q o8
  |bl j=>cases a;exact PySem.EqMixed.ne_str_bool<|bC I q o8
  |int j=>let⟨t',rfl⟩:=a;exact PySem.EqMixed.ne_str_int<|bC I q o8
  |str j=>let⟨t',rfl⟩:=a;exact ne_str<|bC I q<|congrArg not Dj
  |_=>exact absurd (show Z2=Z1 from hs) ai4
 |byt i=>
  let⟨t,rfl⟩:=b;cases y with
  |byt j=>let⟨t',rfl⟩:=a;exact PySem.W.ne_bytes<|bC I q<|congrArg not Dc
  |_=>exact absurd (show Z2=Z1 from hs) ai4
 |_=>cases y <;> exact absurd (show Z2=Z1 from hs) ai4
def j7:OpR X (compareOp .Lt) (rI0 λi j=>.bl (decide (i<j))):=DY λ_ _ _ _ _ _ _ q=>lt_int q
def vR:OpR X (compareOp .LtE) (rI0 λi j=>.bl (decide (i≤j))):=DY λ_ _ _ _ _ _ _ q=>le_int q
def jt:OpR X (compareOp .Gt) (rI0 λi j=>.bl (decide (j<i))):=DY λ_ _ _ _ _ _ _ q=>gt_int q
def we:OpR X (compareOp .GtE) (rI0 λi j=>.bl (decide (j≤i))):=DY λ_ _ _ _ _ _ _ q=>ge_int q
def FW:OpR X (compareOp .In) (λx y H Q=>∃i j,x=.str i/\y=.str j/\Q (.bl (!(Builtin.Str.occurrences j i 0 j.length 1).isEmpty)) H):=by intro X4 s σ H x y v u Q I b a h;let⟨i,j,rfl,rfl,q⟩:=h;let⟨t,rfl⟩:=b;let⟨t',rfl⟩:=a;exact in_str<|bC I q J
def oH:OpR X (compareOp .Is) (λx y H Q=>y=.non/\Q (.bl (decide (x=.non))) H):=by
 intro X4 s σ H x y v u Q I a b h;let⟨rfl,q⟩:=h;cases b;refine is_none_gen<|bC I q ?_;cases x <;> first
  |(cases a;rfl)
  |(let⟨t,rfl⟩:=a;rfl)
def Qk:OpR X (compareOp .IsNot) (λx y H Q=>y=.non/\Q (.bl (!decide (x=.non))) H):=by
 intro X4 s σ H x y v u Q I a b h;let⟨rfl,q⟩:=h;cases b;refine isnot_none_gen<|bC I q ?_;cases x <;> first
  |(cases a;rfl)
  |(let⟨t,rfl⟩:=a;rfl)
def zN:OpR X (compareOp .NotIn) (λx y H Q=>∃i j,x=.str i/\y=.str j/\Q (.bl (!(!(Builtin.Str.occurrences j i 0 j.length 1).isEmpty))) H):=by intro X4 s σ H x y v u Q I b a h;let⟨i,j,rfl,rfl,q⟩:=h;let⟨t,rfl⟩:=b;let⟨t',rfl⟩:=a;exact notIn_str<|bC I q J
def aH(b:Expr){op:CmpOp}(h:op≠.In:=by decide)(h2:op≠.NotIn:=by decide):behindInMarks op b=Z2:=by
 let c:(op==CmpOp.In)=Z2:=by cases op <;> first|rfl|exact absurd J h
 let a:(op==CmpOp.NotIn)=Z2:=by cases op <;> first|rfl|exact absurd J h2
 cases b <;> simp[behindInMarks,c,a]
def fu{op:CmpOp}{r:R2}(l:OpR X (compareOp op) r)(i:PE X a ta)(e:PE X b tb)(f:behindInMarks op b=Z2):PE X (.Compare a [op] [b] pos) (tOp r ta tb):=by intro X4 s σ H Q I h;exact wpAny_Compare1 (HG i e I h λv u s2 x y H2 g c j q=>l X4 s2 σ H2 x y v u Q g c j q) f
inductive Ci(Q:Bool->Hp->Z3)(x:V)(H':Hp):Z3
 |m k(_:x=.bl k)(_:Q k H')
def JN(t:TE):TT:=λσ H Q=>t σ H λx H'=>Ci Q x H'
def aE{op:CmpOp}{r:R2}(j:OpR X (compareOp op) r)(f:PE X a ta)(i:PE X b tb)(g:behindInMarks op b=Z2):PT X (.Compare a [op] [b] pos) (JN (tOp r ta tb)):=by
 intro X4 s σ H Q I h;refine wpAny_isTrue_Compare1 (thn (f X4 s σ H _ I h) λ v s1 ⟨x,H1,I1,r1,q1⟩=>thn (i X4 s1 σ H1 _ I1 q1) λ u s2 ⟨y,H2,I2,r2,q2⟩=>thn (j X4 s2 σ H2 x y v u _ I2 r1 r2 q2) λ c s3 ⟨z,H3,I3,r3,k,e,q3⟩=>?_) g
 subst e;cases r3;exact aj2 ⟨H3,I3,q3⟩
def Zk(r e:R2)(ta tb tc:TE):TE:=λσ H Q=>ta σ H λx H1=>tb σ H1 λy H2=>r x y H2 λz a=>∃k,z=.bl k∧
 (if k=Z1 then tc σ a λb c=>e y b c Q else Q (.bl Z2) a)
def HW{op f:CmpOp}{r i:R2}(o:OpR X (compareOp op) r)(g:OpR X (compareOp f) i)(q:PE X a ta)(A:PE X b tb)(n:PE X c tc)(p:lastMarks [op,f] [b,c]=Z2:=by with_unfolding_all rfl):PT X (.Compare a [op,f] [b,c] pos) (JN (Zk r i ta tb tc)):=by
 intro X4 s σ H Q I h;refine isTrue_chain (thn (q X4 s σ H _ I h) λ v s1 ⟨x,H1,I1,r1,q1⟩=>test_link (thn (A X4 s1 σ H1 _ I1 q1) λ u s2 ⟨y,H2,I2,r2,q2⟩=>thn (o X4 s2 σ H2 x y v u _ I2 r1 r2 q2) λ d s3 ⟨z,H3,I3,r3,k,e,q3⟩=>?_)) p
 subst e;cases r3;refine aj2 ?_;cases k with
 |false=>let⟨B,t,j⟩:=q3;cases t;exact ite_ff ⟨H3,I3,j⟩
 |true=>refine ite_tt<|test_last (thn (n X4 s3 σ H3 _ I3 q3) λ m s4 ⟨l,H4,I4,r4,q4⟩=>thn (g X4 s4 σ H4 y l u m _ I4 r2 r4 q4) λ d' s5 ⟨C,H5,I5,r5,k2,e2,q5⟩=>?_);subst e2;cases r5;exact aj2 ⟨H5,I5,q5⟩
def oZ:(Z7:Z5)<2 ^ 63:=by rw[al0];decide
def vj:OpR X (binaryOp .Add) (λx y H Q=>∃i j,x=.str i/\y=.str j/\i.length+j.length≤Z7/\Q (.str (i++j)) H):=by intro X4 s σ H x y v u Q I b c h;let⟨i,j,rfl,rfl,a,q⟩:=h;let⟨t,rfl⟩:=b;let⟨t',rfl⟩:=c;exact add_str (λt' e=>{.str (i++j),H,I.tok _,{1},q}) a
def vals1{x:V}{us:fy mu}(r:Vals [x] us):∃u,us=[u]/\RelV x u:=by
 cases r with
 |cons r1 r2=>cases r2;exact{1,r1}
def vals2{x y:V}{us:fy mu}(r:Vals [x,y] us):∃u w',us=[u,w']/\RelV x u/\RelV y w':=by
 cases r with
 |cons r1 r2=>
  cases r2 with
  |cons r3 a=>cases a;exact{_,1,r1,r3}
inductive tW(xs:fy V)(H:Hp)(Q:VK):Z3
 |m i j(_:xs=[.int i,.int j])(_:Q (.int (if j>i then j else i)) H)
def nv(b:X.calm=Z1):dh X (.builtin "max") tW:=by
 intro X4 s σ H xs us Q I r h;let⟨i,j,rfl,q⟩:=h;let⟨u,e,rfl,⟨t,rfl⟩,⟨t',rfl⟩⟩:=vals2 r;refine max_two_ints (I.ok.hd b) λh' c k=>{_,H,I.kept k,?_,q}
 by_cases a:j>i
 .rw[aiN a,aiN a];exact{1}
 .rw[aiJ a,aiJ a];exact{1}
inductive tH(xs:fy V)(H:Hp)(Q:VK):Z3
 |m i j(_:xs=[.int i,.int j])(_:Q (.int (if j<i then j else i)) H)
def qR(b:X.calm=Z1):dh X (.builtin "min") tH:=by
 intro X4 s σ H xs us Q I r h;let⟨i,j,rfl,q⟩:=h;let⟨u,e,rfl,⟨t,rfl⟩,⟨t',rfl⟩⟩:=vals2 r;refine min_two_ints (I.ok.hd b) λh' c k=>{_,H,I.kept k,?_,q}
 by_cases a:j<i
 .rw[aiN a,aiN a];exact{1}
 .rw[aiJ a,aiJ a];exact{1}
inductive oB(xs:fy V)(H:Hp)(Q:VK):Z3
 |m i(_:xs=[.int i])(_:i.natAbs.log2<1920)(_:Q (.str (toString i)) H)
def eZ:dh X (.type "str") oB:=by intro X4 s σ H xs us Q I r h;let⟨i,rfl,a,q⟩:=h;let⟨u,rfl,t,rfl⟩:=vals1 r;exact PySem.P.str_of_int a {.str _,H,I.tok _,{1},q}
end
structure uV(h:Heap)(x dx C:jl)(mA:Z6->nt mu):Z3 where
 obj:h.get? x=some (instObj C dx)
 ns:h.Ns1 dx mA
 ne:dx≠x
def EK{h:Heap}{dx:jl}{mA:Z6->nt mu}(n:h.Ns1 dx mA):∃od,h.get? dx=some od/\∀name,lookIn name od=some (mA name):=by
 let⟨o,es,ep,l,j,c,_,f⟩:=n;refine{o,l,λname=>?_};let e:=f name;unfold nsFind findBy at e;rw[←Array.find?_toList] at e;unfold lookIn;rw[j];dsimp only;split
 .rename_i y q;rw[q] at e;exact congrArg some e
 .rename_i q;rw[q] at e;let a:es.toList.any (·.refKey)=Z2:=by rw[List.any_eq_false];intro y i;let⟨z,t,b⟩:=c y<|Array.mem_toList_iff.mp i;simp[DictEntry.refKey,b]
  let g:¬es.toList.any (·.refKey)=Z1:=by rw[a];exact ai4
  rw[aiJ g];exact congrArg some e
def uV.look{h:Heap}{x dx C:jl}{mA:Z6->nt mu}(I:uV h x dx C mA):∃od,PySem.W.InstAt h x (instObj C dx) C (some od)/\∀name,lookIn name od=some (mA name):=
 let ⟨od,ho,hl⟩:=EK I.ns
 {od,⟨I.obj,J,J,ho⟩,hl}
section
variable{prog:t6}{w:t7}{A:Around}{E:mu->q8->Z3}{s:q8}{K:Frag}{x dx C f:jl}{mA:Z6->nt mu}{name:Z6}{v:mu}
def get_map{a:Bool}{Q:mu->q8->Z3}(X:K.In s.heap)(I:uV s.heap x dx C mA)(c:plainGet K C name=Z1)(e:hasDictIn K C=Z1)(g:findIn K (.ref C) name=some Z0)(i:mA name=some v)(b:handedIn v=Z1)(h:Q v {s with toks:=s.toks+1}) :
  wpAny (model prog w) A (getAttr (.ref x) name a) Q E s:=by
 let⟨od,b4,f⟩:=I.look;exact PySem.W.get_value X b4 (alU c).1 (PySem.W.findObj_own e g J (by rw[f,i])) b h
def Hs{pl:Sem Bool}{Q:mu×fy mu->q8->Z3}(X:K.In s.heap)(I:uV s.heap x dx C mA)(a:plainGet K C name=Z1)(b:findIn K (.ref C) name=some (some (.ref f)))(e:isFn K (.ref f)=Z1)(g:mA name=Z0)(h:Q (.ref f,[.ref x]) s) :
  wpAny (model prog w) A (getMethod (.ref x) name pl) Q E s:=by
 let⟨od,b4,c⟩:=I.look;exact PySem.W.method_fn X b4 (alU a).1 (alU a).2 b (alj.mp e) (by show(lookIn name od).map (·.isSome)=some Z2;rw[c,g];rfl) h
def Qs{ns:fy Z6}{Q:Unit->q8->Z3}(X:K.In s.heap)(I:uV s.heap x dx C mA)(hs:findIn K (.ref C) "__setattr__" = some (some (.builtin "object.__setattr__")))(m:plainOver K C=Z1)(t:takerIn K C name=some Z0)(o:hasDictIn K C=Z1)(u:PySem.Within mA ns)(hsz:ns.length≤Z7)(h:∀h',uV h' x dx C (λy=>if y=name then some v else mA y)->Heap.SameBut dx s.heap h'->Q () {s with heap:=h',toks:=s.toks+2}) :
  wpAny (model prog w) A (setAttr (.ref x) name v) Q E s:=by
 let⟨od,b4,z⟩:=I.look;refine PySem.W.set_plain X b4 hs (PySem.W.osa_open (s:={s with toks:=s.toks+1}) (r:=Z0) X b4 m t λb=>?_);let⟨cd,n,j⟩:=PySem.W.any_some o;let l:s.heap.get? x=some ⟨.ref C,some dx,.plain,#[]⟩:=I.obj;refine aiF<|aiK<|aiF<|aiF<|wpAny_loadPart l<|aiF<|Looks.here (s:={s with toks:=s.toks+1}) (PySem.W.looks_clsIn X n) ?_;rw[j];refine aiK (a:=some dx)<|aiF<|aiK<|aiF ?_;refine wpAny_nsSet1 (s:={s with toks:=s.toks+1}) I.ns λh' c e=>?_
 let⟨B,p,q,g,f,i⟩:=c.count<|PySem.Within.cons name v u;refine aiF<|wpAny_lookBehind g (by rw[f];exact pastItsLine_dict<|ai9 i (by rw[ajp];omega)) ?_;exact aiK<|h _ {(e.2 _<|ajH I.ne).trans I.obj,c,I.ne} e
def AH{R:Result->q8->Z3}{vs:fy mu}{a:fy (Z6×mu)}(X:K.In s.heap)(b:makesIn K C=Z1)(hi:findIn K (.ref C) "__init__" = some (some (.ref f)))(c:typeIn K (.ref f)=some (.type "function"))(h:codeAny (model prog w) (A.under (.builtin "type.__call__" {.ref C::vs,a})) (.call (.ref f) {.ref (~~~s+1)::vs,a}) (PySem.W.InitBack (~~~s+1) R)
   {s with heap:=(s.heap.push emptyDict).push (instObj C (~~~s))}) :
  codeAny (model prog w) A (.call (.ref C) ⟨vs,a⟩) R s:=by
 let⟨e,g,d,t,os⟩:=s;exact PySem.W.make_core (PySem.W.makes_of X b) (PySem.W.looks_findIn X hi) (λself=>PySem.W.bind_fn X self c) (.inl J) h
end
def bq(f:Z6)(v:V):fy (Z6×V)->fy (Z6×V)
 |[]=>[(f,v)]
 |(g,x)::r=>if g=f then(g,v)::r else(g,x)::bq f v r
def tT(f g:Z6)(v:V):∀fs:fy (Z6×V),(bq f v fs).lookup g=if g=f then some v else fs.lookup g
 |[]=>by
  show List.lookup g [(f,v)]=_;by_cases h:g=f
  .let a:(g==f)=Z1:=alj.mpr h;simp only[List.lookup,a,if_pos h]
  .let a:(g==f)=Z2:=akc.mpr h;simp only[List.lookup,a,if_neg h]
 |(k,x)::r=>by
  let c:=tT f g v r;rw[show bq f v ((k,x)::r) =(if k=f then(k,v)::r else(k,x)::bq f v r) from rfl];by_cases b:k=f
  .rw[aiN b];by_cases h:g=k
   .let a:(g==k)=Z1:=alj.mpr h;simp only[List.lookup,a,if_pos<|h.trans b]
   .let a:(g==k)=Z2:=akc.mpr h;simp only[List.lookup,a,if_neg λe:g=f=>h<|e.trans b.symm]
  .rw[aiJ b];by_cases h:g=k
   .let a:(g==k)=Z1:=alj.mpr h;simp only[List.lookup,a,if_neg λe:g=f=>b<|h.symm.trans e]
   .let a:(g==k)=Z2:=akc.mpr h;simp only[List.lookup,a];exact c
def qI(f:Z6)(v:V):∀fs:fy (Z6×V),f∈(bq f v fs).map (·.1)/\∀g,g∈fs.map (·.1)->g∈(bq f v fs).map (·.1)
 |[]=>{by simp[bq],λg h=>by simp at h}
 |(k,x)::r=>by
  let⟨b,c⟩:=qI f v r;rw[show bq f v ((k,x)::r) =(if k=f then(k,v)::r else(k,x)::bq f v r) from rfl];by_cases a:k=f
  .rw[aiN a];subst a;exact{o8,λg h=>by simpa using h}
  .rw[aiJ a];refine{?_,λg h=>?_}
   .rw[ajh];exact aiZ _ b
   .rw[ajh] at h ⊢;rcases aiU.mp h with e|e
    .exact aiU.mpr (.inl e)
    .exact aiZ _ (c g e)
def fP(f:Z6)(v:V):∀fs:fy (Z6×V),(bq f v fs).length≤fs.length+1
 |[]=>by simp[bq]
 |(k,x)::r=>by
  let b:=fP f v r;rw[show bq f v ((k,x)::r) =(if k=f then(k,v)::r else(k,x)::bq f v r) from rfl];by_cases a:k=f
  .rw[aiN a,ajp,ajp];omega
  .rw[aiJ a,ajp,ajp];omega
def gF.some_of{v:V}{o:nt mu}(r:gF (some v) o):∃u,o=some u/\RelV v u:=by
 cases o with
 |none=>exact(show False from r).elim
 |some u=>exact⟨u,J,r⟩
def gF.none_of{o:nt mu}(r:gF Z0 o):o=Z0:=by
 cases o with
 |none=>rfl
 |some u=>exact(show False from r).elim
def Ge{v:V}{u:mu}(r:RelV v u):handedIn u=Z1:=by
 cases v with
 |non=>cases (show u=Value.none from r);rfl
 |bl b=>cases (show u=Value.bool b from r);rfl
 |int i=>let⟨t,e⟩:=(show ∃t,u=Value.int i t from r);cases e;rfl
 |str x=>let⟨t,e⟩:=(show ∃t,u=Value.str x t from r);cases e;rfl
 |byt b=>let⟨t,e⟩:=(show ∃t,u=Value.bytes b t from r);cases e;rfl
 |flt b=>let⟨t,e⟩:=(show ∃t,u=Value.float b t from r);cases e;rfl
 |ref a=>cases (show u=Value.ref a from r);rfl
 |ty n=>cases (show u=Value.type n from r);rfl
section
variable{P:t6}{w:t7}{H H':Hp}{h h':Heap}{a C dx:jl}{fs fs':fy (Z6×V)}
def sM(b:HOk P w H h)(e:H a=some (.ins C dx fs)):∃mA,uV h a dx C mA/\(∀f,gF (fs.lookup f) (mA f))/\PySem.Within mA (fs.map (·.1))/\fs.length≤1000/\H dx=some (.own a):=by let⟨d,z,c,g,mA,n,r,q⟩:=(show bK P w H h a (.ins C dx fs) from b a _ e);exact{mA,⟨g,n,c⟩,r,q,z,d}
end
structure Cls(K:Frag)(C:jl):Z3 where
 pg:plainGet K C Str.empty=Z1
 hd:hasDictIn K C=Z1
 po:plainOver K C=Z1
 sa:findIn K (.ref C) "__setattr__" = some (some (.builtin "object.__setattr__"))
def Cls.get{K:Frag}{C:jl}(c:Cls K C)(f:Z6):plainGet K C f=Z1:=c.pg
def aO(K:Frag)(C:jl)(f:Z6):Z3:=findIn K (.ref C) f=some Z0
def aO.adL{K:Frag}{C:jl}{f:Z6}(n:aO K C f):takerIn K C f=some Z0:=by unfold takerIn;rw[show findIn K (.ref C) f=some Z0 from n];rfl
structure Meth(K:Frag)(C:jl)(m:Z6)(f:jl):Z3 where
 at_:findIn K (.ref C) m=some (some (.ref f))
 fn:isFn K (.ref f)=Z1
 kp:keepIn K (.ref f)=Z1
section
variable{X:Cx}{X4:fy (jl×Obj)}{σ:St}{H:Hp}{s:q8}{a C dx:jl}{fs:fy (Z6×V)}{f:Z6}{v:V}{A:Around}{E:mu->q8->Z3}
def Ez{b:Bool}{Q:mu->q8->Z3}(I:Inv X X4 σ H s)(e:H a=some (.ins C dx fs))(c:Cls X.K C)(n:aO X.K C f)(l:fs.lookup f=some v)(h:∀u s',Inv X X4 σ H s'->RelV v u->Q u s'):wpAny (model X.prog X.w) A (getAttr (.ref a) f b) Q E s:=by let⟨mA,O,r,_,_,_⟩:=sM I.hok e;let⟨u,i,g⟩:=gF.some_of (v:=v) (o:=mA f) (by rw[←l];exact r f);exact get_map I.kIn O (c.get f) c.hd n i (Ge g)<|h u _ (I.tok _) g
def wB{m:Z6}{g:jl}{pl:Sem Bool}{Q:mu×fy mu->q8->Z3}(I:Inv X X4 σ H s)(e:H a=some (.ins C dx fs))(c:Cls X.K C)(k:Meth X.K C m g)(l:fs.lookup m=Z0)(h:Q (.ref g,[.ref a]) s):wpAny (model X.prog X.w) A (getMethod (.ref a) m pl) Q E s:=by let⟨mA,O,r,_,_,_⟩:=sM I.hok e;let hn:mA m=Z0:=gF.none_of (by rw[←l];exact r m);exact Hs I.kIn O (c.get m) k.at_ k.fn hn h
def DT{y:V}{u:mu}{Q:Unit->q8->Z3}(I:Inv X X4 σ H s)(e:H a=some (.ins C dx fs))(c:Cls X.K C)(n:aO X.K C f)(F:fs.length<1000)(t:RelV y u)(h:∀s',Inv X X4 σ (Z9 H a (.ins C dx (bq f y fs))) s'->Q () s'):wpAny (model X.prog X.w) A (setAttr (.ref a) f u) Q E s:=by
 let⟨mA,O,r,wi,_,j⟩:=sM I.hok e;let p:(fs.map (·.1)).length≤Z7:=by rw[aiE,al0];omega
 refine Qs I.kIn O c.sa c.po n.adL c.hd wi p λh' i B=>h _ ?_
 let v:∃o,h'.get? dx=some o:=let ⟨o,_,_,e',_⟩:=i.ns;⟨o,e'⟩;refine I.write (x:=a) (e:=dx) (by rw[e];exact True.intro) (.inr j) (λb q m z=>(B.2 b m).trans z) v ?_;refine{by rwa[ak O.ne],?_,O.ne,i.obj,_,i.ns,λg=>?_,λg l=>?_}
 .let:=fP f y fs;omega
 .show gF ((bq f y fs).lookup g) (if g=f then some u else mA g);rw[tT];by_cases q:g=f
  .rw[aiN q,aiN q];exact t
  .rw[aiJ q,aiJ q];exact r g
 .by_cases q:g=f
  .rw[q];exact(qI f y fs).1
  .refine(qI f y fs).2 g (wi g λz=>l ?_);show(if g=f then some u else mA g)=Z0;rwa[aiJ q]
def Inv.made(I:Inv X X4 σ H s):Inv X X4 σ (Z9 (Z9 H (~~~s) (.own (~~~s+1))) (~~~s+1) (.ins C (~~~s) []))
  {s with heap:=(s.heap.push emptyDict).push (instObj C (~~~s))}:=by
 let f:(s.heap.push emptyDict).get? (~~~s)=some emptyDict:=aiW s.heap rfl;let h:((s.heap.push emptyDict).push (instObj C (~~~s))).get? (~~~s+1)=some (instObj C (~~~s)):=by let:=aiW (s.heap.push emptyDict) (o:=instObj C (~~~s)) rfl;rwa[aj0] at this
 let i:(s.heap.push emptyDict).Ns (~~~s) (λ_=>Z0):={emptyDict,#[],_,f,J,(λe l=>absurd l o8),λ_=>rfl};let g:=I.laid (a:= ~~~s) (o:=.own (~~~s+1)) (h':=s.heap.push emptyDict) (t':=s.toks) (λb u q=>aiI _ q) (aiL _) {_,f};refine g.laid (a:= ~~~s+1) (o:=.ins C (~~~s) []) (t':=s.toks) (λb u q=>aiI _ q) (ak6<|aj0 _ _) ?_;let c:( ~~~s)≠(~~~s)+1:=ajs<|akA _;refine{by rw[ak c,af],ajc _,c,h,λ_=>Z0,(Heap.Ns1.of_empty i).at λo q=>aiI _ q,λ_=>True.intro,λy j=>absurd J j}
def Qo{prog:t6}{w:t7}{env:Env}{e:Expr}{f:Z6}{pos:Pos}{s:q8}{Q:mu->q8->Z3}(b:attributeBase e f env (eval e env)=eval e env)(h:wpAny (model prog w) A (eval e env) (λo a=>wpAny (model prog w) A (getAttr o f Z1) Q E a) E s):wpAny (model prog w) A (eval (.Attribute e f pos) env) Q E s:=
 Attribute_any_ h (by rw[arm_eval_Attribute,b])
end
inductive GC(K:Frag)(f:Z6)(Q:VK)(x:V)(H1:Hp):Z3
 |m a C dx fs v(_:x=.ref a)(_:H1 a=some (.ins C dx fs))(_:Cls K C)(_:aO K C f)(_:fs.lookup f=some v)(_:Q v H1)
def ait(K:Frag)(ta:TE)(f:Z6):TE:=λσ H Q=>ta σ H λx H1=>GC K f Q x H1
inductive FF(K:Frag)(f:Z6)(D:Ends)(σ:St)(y:V)(x:V)(H2:Hp):Z3
 |m a C dx fs(_:x=.ref a)(_:H2 a=some (.ins C dx fs))(_:Cls K C)(_:aO K C f)(_:fs.length<1000)(_:D.nx σ (Z9 H2 a (.ins C dx (bq f y fs))))
def XO(K:Frag)(ta tv:TE)(f:Z6):TS:=λD σ H=>tv σ H λy H1=>ta σ H1 λx H2=>FF K f D σ y x H2
section
variable{X:Cx}{o e value:Expr}{f:Z6}{pos pos' tpos:Pos}{ta tv:TE}
def aZ(j:PE X e ta)(i:attributeBase e f X.env (eval e X.env)=eval e X.env):PE X (.Attribute e f pos) (ait X.K ta f):=by intro X4 s σ H Q I h;refine Qo i (thn (j X4 s σ H _ I h) λ u s1 ⟨x,H1,I1,rx,a,C,dx,fs,v,ex,ea,c,n,l,q⟩=>?_);subst ex;obtain rfl:u=Value.ref a:=rx;exact Ez I1 ea c n l λm s2 b g=>⟨v,H1,b,g,q⟩
def bV(b:PE X o ta)(i:PE X value tv)(hs:swapsWith value (some (.Attribute o f pos')) pos.line X.env=pure Z2):PS X (.Assign [.Attribute o f pos'] value pos) (XO X.K ta tv f):=by intro X4 s σ H D I h;refine plainObj_wpAny_Assign_Attribute (thn (i X4 s σ H _ I h) λ u s1 ⟨y,H1,I1,ry,q⟩=>thn (b X4 s1 σ H1 _ I1 q) λ e s2 ⟨x,H2,I2,rx,a,C,dx,fs,ex,ea,c,n,l,q2⟩=>?_) hs;subst ex;obtain rfl:e=Value.ref a:=rx;exact DT I2 ea c n l ry λs3 g=>{σ,_,g,q2}
end
section
variable{X:Cx}{X4:fy (jl×Obj)}{σ:St}{H:Hp}{s:q8}{A:Around}{E:mu->q8->Z3}{Q:mu->q8->Z3}{c:mu}{b:Bool}
inductive jP (K:Frag) (H:Hp):V->mu->Z3 where
 |non:jP K H .non (.type "NoneType")
 |bl (x:Bool):jP K H (.bl x) (.type "bool")
 |int (i:Z4):jP K H (.int i) (.type "int")
 |str (x:Z6):jP K H (.str x) (.type "str")
 |flt (x:UInt64):jP K H (.flt x) (.type "float")
 |lst {a:jl} {xs:fy V} (e:H a=some (.lst xs)):jP K H (.ref a) (.type "list")
 |frz {a:jl} {o:Obj} {xs:fy V} (e:H a=some (.frz o (.lst xs))):jP K H (.ref a) (.type "list")
 |tup {a:jl} {xs:fy V} (e:H a=some (.tup xs)):jP K H (.ref a) (.type "tuple")
 |dK {a:jl} {C4:fy (Key×V)} (e:H a=some (.dK C4)):jP K H (.ref a) (.type "dict")
 |dT {a:jl} {C4:fy (fy Key×V)} (e:H a=some (.dT C4)):jP K H (.ref a) (.type "dict")
 |ins {a C dx:jl} {fs:fy (Z6×V)} (e:H a=some (.ins C dx fs)) (cl:Cls K C) (ha:findIn K (.ref C) "__class__" = some (some (.builtin "object.__class__")))
   (hn:specialIn K (.builtin "object.__class__") "__get__" = some (some (.builtin "getset_descriptor.__get__"))) (htk:PySem.W.takesIn K (.builtin "object.__class__")=some Z1)
   (hm:mroIn K C (.type "object")=some Z1):jP K H (.ref a) (.ref C)
def Gf{x:V}{u t:mu}(I:Inv X X4 σ H s)(f:RelV x u)(ty:jP X.K H x t)(e:kitOne X.K t c=some b)(h:∀g,Q (.bool b) {s with toks:=g}) :
  wpAny (model X.prog X.w) A (call (.builtin "isinstance") [u,c]) Q E s:=by
 cases ty with
 |non=>cases (show u=Value.none from f);exact ajL PySem.W.kitx_none I.kIn True.intro e (λz=>nomatch z) h
 |bl y=>cases (show u=Value.bool y from f);exact ajL PySem.W.kitx_bool I.kIn True.intro e (λz=>nomatch z) h
 |int i=>let⟨t,q⟩:=(show ∃t,u=Value.int i t from f);cases q;exact ajL PySem.W.kitx_int I.kIn True.intro e (λz=>nomatch z) h
 |str y=>let⟨t,q⟩:=(show ∃t,u=Value.str y t from f);cases q;exact ajL PySem.W.kitx_str I.kIn True.intro e (λz=>nomatch z) h
 |flt y=>let⟨t,q⟩:=(show ∃t,u=Value.float y t from f);cases q;exact ajL PySem.W.kitx_float I.kIn True.intro e (λz=>nomatch z) h
 |@lst a xs ea=>cases (show u=Value.ref a from f);let⟨_,_,n,_,h1⟩:=(show bK X.prog X.w H s.heap a (.lst xs) from I.hok a _ ea);exact ajL kitx_list I.kIn {_,h1,J} e (λz=>nomatch z) h
 |@frz a ob xs ea=>cases (show u=Value.ref a from f);let⟨_,_,_,n,_,h1⟩:=(show bK X.prog X.w H s.heap a (.frz ob<|.lst xs) from I.hok a _ ea);exact ajL kitx_list I.kIn {_,h1,J} e (λz=>nomatch z) h
 |@tup a xs ea=>cases (show u=Value.ref a from f);let⟨_,_,_,p⟩:=(show bK X.prog X.w H s.heap a (.tup xs) from I.hok a _ ea);let⟨o,h1,h2,_⟩:=p;exact ajL PySem.W.kitx_tuple I.kIn ⟨o,h1,h2⟩ e (λz=>nomatch z) h
 |@dK a C4 ea=>cases (show u=Value.ref a from f);let⟨_,_,vs,_,p⟩:=(show bK X.prog X.w H s.heap a (.dK C4) from I.hok a _ ea);let⟨o,es,ep,h1,h2,_⟩:=p;exact ajL kitx_dict I.kIn ⟨o,h1,h2.1⟩ e (λz=>nomatch z) h
 |@dT a C4 ea=>cases (show u=Value.ref a from f);let⟨_,_,xs,_,o,es,ep,h1,h2,_⟩:=(show bK X.prog X.w H s.heap a (.dT C4) from I.hok a _ ea);exact ajL kitx_dict I.kIn ⟨o,h1,h2.1⟩ e (λz=>nomatch z) h
 |@ins a C dx fs ea cl ha hn htk hm=>cases (show u=Value.ref a from f);let⟨mA,O,_⟩:=sM I.hok ea;let⟨od,b4,_⟩:=O.look;exact ajL (PySem.W.kitx_own (cl.get _) cl.hd ha hn htk hm) I.kIn b4 e (λz=>nomatch z) h
end
structure cH(k:Z5)(A:Around):Z3 where
 hd:A.handled=Z0
 dp:A.depth+3*k+5<recursionLimit
 un:A.units+16*k+200<cLine
def cH.mono{j k:Z5}{A:Around}(r:cH k A)(h:j≤k):cH j A:={r.hd,by let:=r.dp;omega,by let:=r.un;omega}
def cH.deeper{k:Z5}{A:Around}(r:cH (k+1) A)(env:Env):cH k (A.deeper env):=
 {r.hd,by let:=r.dp;show A.depth+1+3*k+5<_;omega,by let:=r.un;show A.units+3+16*k+200<_;omega}
def Et{A:Around}{C:jl}{us:fy mu}{a:fy (Z6×mu)}:(A.under (.builtin "type.__call__" {.ref C::us,a})).depth=A.depth+1:=by first|rfl|simp[Around.under,Code.weight,Code.isCreation,Code.isGuard,Code.isCaller,Code.frames,Code.isFrame,guardIds]
def DK{A:Around}{C:jl}{us:fy mu}{a:fy (Z6×mu)}:(A.under (.builtin "type.__call__" {.ref C::us,a})).units=A.units+1:=by first|rfl|simp[Around.under,Code.cUnits,Code.frames,Code.isFrame]
def cH.make{k:Z5}{A:Around}(r:cH (k+1) A)(C:jl)(us:fy mu)(a:fy (Z6×mu)):cH k (A.under (.builtin "type.__call__" {.ref C::us,a})):=
 {r.hd,by let:=r.dp;rw[Et];omega,by let:=r.un;rw[DK];omega}
def cH.depth{k:Z5}{A:Around}(r:cH k A):A.depth<recursionLimit:=by let:=r.dp;omega
def cH.units{k:Z5}{A:Around}(r:cH k A):A.units+64<cLine:=by let:=r.un;omega
def HS:TA:=λ_ H Q=>Q [] H
def aeZ(ta:TE)(tr:TA):TA:=λσ H Q=>ta σ H λx H1=>tr σ H1 λxs H2=>Q (x::xs) H2
section
variable{X:Cx}{e:Expr}{es:fy Expr}{te:TE}{t:TA}{pos:Pos}
def ah:PA X [] HS:=λ_ _ _ _ H Q I h=>akx {[],H,I,.nil,h}
def aa(a:PE X e te)(b:PA X es t)(hs:starEach (e::es) X.env =(Z2,eval e X.env)::starEach es X.env:=by rfl):PA X (e::es) (aeZ te t):=by intro pos X4 s σ H Q I h;rw[hs];show wpAny _ _ (spliced ((Z2,eval e X.env)::backTo pos (starEach es X.env))) _ _ s;refine akk (thn (a X4 s σ H _ I h) λ u s1 ⟨x,H1,I1,r1,q1⟩=>?_);exact thn (b pos X4 s1 σ H1 _ I1 q1) λ us s2 ⟨xs,H2,I2,r2,q2⟩=>{x::xs,H2,I2,.cons r1 r2,q2}
def ahk(t:TA):TE:=λσ H Q=>t σ H λxs H1=>xs.length≤Z7/\∀p,H1 p=Z0->Q (.ref p) (Z9 H1 p<|.tup xs)
def ahw(t:TA):TE:=λσ H Q=>t σ H λxs H1=>xs.length≤Z7/\∀p,H1 p=Z0->Q (.ref p) (Z9 H1 p<|.lst xs)
def fh{x1}(h:PA X es t):PE X (.Tuple es x1 pos) (ahk t):=by intro X4 s σ H Q I c;refine wpAny_Tuple_spliced (thn (h pos X4 s σ H _ I c) λ us s1 ⟨xs,H1,I1,r,z,q⟩=>{by rwa[←r.length],?_});let a:H1 (~~~s1)=Z0:=I1.hok.fresh<|aiL _;refine{.ref (~~~s1),Z9 H1 (~~~s1)<|.tup xs,I1.laid (t':=s1.toks) (λb u e=>aiI _ e) (aiL _) ?_,J,q _ a};exact{z,us,r,{_,aiW _ J,J,1}}
def bI(h:PA X es t):PE X (.List es pos) (ahw t):=by intro X4 s σ H Q I c;refine wpAny_List_spliced (thn (h pos X4 s σ H _ I c) λ us s1 ⟨xs,H1,I1,r,z,q⟩=>{by rwa[←r.length],?_});let a:H1 (~~~s1)=Z0:=I1.hok.fresh<|aiL _;refine{.ref (~~~s1),Z9 H1 (~~~s1)<|.lst xs,I1.laid (t':=s1.toks) (λb u e=>aiI _ e) (aiL _) ?_,J,q _ a};exact{z,us,(0),r,aiW _ J}
end
abbrev Sp:=fy V->Hp->VK->XK->Z3
abbrev CXT:=fy Env->Hp->q8->XK->mu->q8->Z3
structure uc(P:t6)(w:t7)(K:Frag)(mg:Z6->nt mu)(base:Heap)(A:Around)(outer:fy Env)(s:q8)(H:Hp):Z3 where
 frames:A.frames=some outer
 mod:Mod K mg base
 bs:∀b o,base.get? b=some o->s.heap.get? b=some o/\H b=Z0
 bsz:base.objs.size≤~~~s
 jJ:s.heap.FunFrames base outer
 frf:∀ b∈frs outer,H b=Z0
 hok:HOk P w H s.heap
 bare:AllBare s.gens
inductive CE(outer:fy Env)(P:t6)(w:t7)(H:Hp)(s:q8)(Q:VK)(u:mu)(s':q8):Z3
 |m v H'(_:s'.os=s.os)(_:AllBare s'.gens)(_:Un (frs outer) [] H H' s.heap s'.heap)(_:HOk P w H' s'.heap)(_:RelV v u)(_:Q v H')
def CR(CX:CXT)(outer:fy Env)(P:t6)(w:t7)(H:Hp)(s:q8)(Q:VK)(E:XK)(r:Result)(s':q8):Z3:=
 match r with
 |.ok (.ret u)=>CE outer P w H s Q u s'
 |.ok _=>False
 |.error e=>CX outer H s E e s'
structure aM(P:t6)(w:t7)(K:Frag)(mg:Z6->nt mu)(base:Heap)(CX:CXT)(k:Z5)(f:jl)(fd:q9)(ps:fy Z6)(sp:Sp):Z3 where
 len:∀vs H Q E,sp vs H Q E->vs.length=ps.length
 run:∀(A:Around)(outer:fy Env)(s:q8)(H:Hp)(args:Args)(us:fy mu)(vs:fy V)(Q:VK)(E:XK),cH k A->uc P w K mg base A outer s H->BindsTo s fd args (ps.zip us)->Vals vs us->sp vs H Q E →
  codeAny (model P w) A (.call (.ref f) args) (CR CX outer P w H s Q E) s
def uc.make{P:t6}{w:t7}{K:Frag}{mg:Z6->nt mu}{base:Heap}{A:Around}{outer:fy Env}{s:q8}{H:Hp}(e:uc P w K mg base A outer s H)(C:jl)(us:fy mu)(a:fy (Z6×mu)) :
  uc P w K mg base (A.under (.builtin "type.__call__" {.ref C::us,a})) outer s H:={by first|exact e.frames|(simpa[Around.under,Code.envs,Code.isFrame,pushEnvs] using e.frames),e.mod,e.bs,e.bsz,e.jJ,e.frf,e.hok,e.bare}
section
variable{X:Cx}{X4:fy (jl×Obj)}{σ:St}{H:Hp}{s s':q8}
def Inv.HB(I:Inv X X4 σ H s):uc X.prog X.w X.K X.mg X.base X.A X.stack s H:=
 {I.ok.frames,I.ok.mod,I.bs,ai9 I.ok.bsz I.sz,I.stack,I.yj,I.hok,I.bare}
def Inv.after{Q:VK}{u:mu}(I:Inv X X4 σ H s)(h:CE X.stack X.prog X.w H s Q u s'):EP X X4 σ Q u s':=by let⟨v,H',os,a,un,e,r,q⟩:=h;let⟨f,g,d,t,c⟩:=s';obtain rfl:c=s.os:=os;exact{v,H',I.call (h':=f) (g':=g) (d':=d) (t':=t) (ch:=[]) un e a λb z=>absurd z o8,r,q}
end
def Binds(K:Frag)(fd:q9)(ps:fy Z6)(ds:fy mu):Z3:=
 ∀(s:q8)(us:fy mu),K.In s.heap->(us++ds).length=ps.length->BindsTo s fd {us,[]} (ps.zip (us++ds))
def Binds.all{K:Frag}{fd:q9}{ps:fy Z6}(h:∀us:fy mu,us.length=ps.length->bindArgs fd {us,[]}=pure (ps.zip us)):Binds K fd ps []:=λs us _ a=>by rw[akr] at a ⊢;exact .of_eq<|h us a
section
variable{X:Cx}{CX:CXT}{k:Z5}{f C:jl}{fd:q9}{ps:fy Z6}{sp:Sp}{dvs:fy V}{ds:fy mu}{E:XK}{x m:Z6}{p pos apos:Pos}{e o:Expr}{es:fy Expr}{ta:TE}{t:TA}
structure Mk(K:Frag)(C f:jl):Z3 where
 makes:makesIn K C=Z1
 init:findIn K (.ref C) "__init__" = some (some (.ref f))
 fn:isFn K (.ref f)=Z1
 kp:keepIn K (.ref C)=Z1
end
structure aC(N P:fy Z6)(sc:Scope):Z3 where
 kind:sc.kind=.function
 co:sc.isCoroutine=Z2
 gen:sc.isGenerator=Z2
 nd:N.Nodup
 pre:N.take P.length=P
 par:∀ x∈P,sc.names.lookup x=some .local∨sc.names.lookup x=some .cell
 aax:∀ y∈sc.names,y.2≠.free
def yD{kindOf:Z6->nt NameKind}{x:Z6}:∀{binds:fy (Z6×mu)}{m:Z6->nt mu},(∀v,(x,v)∉binds)->bindL kindOf binds m x=m x
 |[],_,_=>rfl
 |(n,v)::r,m,h=>by
  unfold bindL;rw[yD λw a=>h w<|aiZ _ a];split
  .let:x≠n:=by rintro rfl;exact h v ajN
   simp[this]
  .rfl
def yx{kindOf:Z6->nt NameKind}{x:Z6}:∀{binds:fy (Z6×mu)}{m:Z6->nt mu},(∀v,(x,v)∉binds)->bindC kindOf binds m x=m x
 |[],_,_=>rfl
 |(n,v)::r,m,h=>by
  unfold bindC;rw[yx λw a=>h w<|aiZ _ a];split
  .rfl
  .let:x≠n:=by rintro rfl;exact h v ajN
   simp[this]
def yS{kindOf:Z6->nt NameKind}{x:Z6}{v:mu}:∀{P:fy Z6}{vs:fy mu}{i:Z5}{m:Z6->nt mu},P.Nodup->P[i]?=some x->vs[i]?=some v->kindOf x=some .local →
  bindL kindOf (P.zip vs) m x=some v
 |[],_,_,_,_,h,_,_=>by simp at h
 |_::_,[],_,_,_,_,h,_=>by simp at h
 |p::P,w::vs,0,m,nd,h1,h2,hk=>by simp at h1 h2;subst h1;subst h2;show bindL kindOf ((p,w)::P.zip vs) m p=_;unfold bindL;rw[yD λv a=>(ajj.mp nd).1 (amC a).1,aiN hk];simp
 |p::P,w::vs,i+1,m,nd,h1,h2,hk=>by show bindL kindOf ((p,w)::P.zip vs) m x=_;unfold bindL;exact yS (i:=i) (ajj.mp nd).2 (⇑h1) (⇑h2) hk
def yU{kindOf:Z6->nt NameKind}{x:Z6}{v:mu}:∀{P:fy Z6}{vs:fy mu}{i:Z5}{m:Z6->nt mu},P.Nodup->P[i]?=some x->vs[i]?=some v->kindOf x≠some .local →
  bindC kindOf (P.zip vs) m x=some v
 |[],_,_,_,_,h,_,_=>by simp at h
 |_::_,[],_,_,_,_,h,_=>by simp at h
 |p::P,w::vs,0,m,nd,h1,h2,hk=>by simp at h1 h2;subst h1;subst h2;show bindC kindOf ((p,w)::P.zip vs) m p=_;unfold bindC;rw[yx λv a=>(ajj.mp nd).1 (amC a).1,aiJ hk];simp
 |p::P,w::vs,i+1,m,nd,h1,h2,hk=>by show bindC kindOf ((p,w)::P.zip vs) m x=_;unfold bindC;exact yU (i:=i) (ajj.mp nd).2 (⇑h1) (⇑h2) hk
def start(N:fy Z6)(vs:fy V):St:=vs.map some++List.replicate (N.length-vs.length) Z0
def aX(CX:CXT)(P:t6)(w:t7)(K:Frag)(mg:Z6->nt mu)(base:Heap)(N:fy Z6)(qual:Z6)(scope:Scope)(f:jl)(cd:mu)(A:Around)(outer:fy Env)(s:q8)(H:Hp)(E:XK):Cx where
 prog:=P
 w:=w
 K:=K
 mg:=mg
 base:=base
 A:=A.deeper (envOfC qual scope (~~~s) f cd)
 N:=N
 s₀:=s
 H₀:=H
 env:=envOfC qual scope (~~~s) f cd
 outer:=outer
 stack:=envOfC qual scope (~~~s) f cd::outer
 ex:=[]
 calm:=Z1
 fn:=λ_=>Z1
 pn:=[]
 xe:=λe s'=>wpAny (model P w) (A.deeper<|envOfC qual scope (~~~s) f cd) (leaving (envOfC qual scope (~~~s) f cd) e) (λ_ a=>CX outer H s E e a) (λb a=>CX outer H s E b a) s'
def zV{a:Scope}{n:Z5}{x:Z6}(h:a.names.lookup x=some .cell):∃c,(cellsFrom n a.names []).lookup x=some c:=by let q:=amI a.names n []<|.inl h;exact akB.mp q
def GK{CX:CXT}{P:t6}{w:t7}{K:Frag}{mg:Z6->nt mu}{base:Heap}{N ps:fy Z6}{qual:Z6}{scope:Scope}{f:jl}{cd:mu}{A:Around}{outer:fy Env}{s s1:q8}{H:Hp}{E:XK}{us:fy mu}{vs:fy V}(S:aC N ps scope)(O:A.handled=Z0)(g:uc P w K mg base A outer s H)(U:vs.length=ps.length)(r:Vals vs us)(x:InCallC s (~~~s) (bindL (envOfC qual scope (~~~s) f cd).kindOf (ps.zip us) λ_=>Z0) (cellsFrom (~~~s+1) scope.names []) (bindC (envOfC qual scope (~~~s) f cd).kindOf (ps.zip us) λ_=>Z0) s1) :
  Inv (aX CX P w K mg base N qual scope f cd A outer s H E) [] (start N vs) H s1:=by
 let L:ps.length≤N.length:=by let:=congrArg List.length S.pre;rw[aiV] at this;omega
 let⟨h1,Y,rfl,t⟩:=x.done;let j:∀b:jl,b∉(aX CX P w K mg base N qual scope f cd A outer s H E).ex:=λb z=>absurd (show b∈([]:fy jl) from z) o8
 refine⟨{g.mod,S.kind,J,J,aiL _,λy z c h1 h2=>?_,λy l=>?_,λy c _ h=>?_,λ_=>O,Around.frames_deeper g.frames,.inr ⟨J,J⟩,λb z=>absurd z<|j b,g.bs,g.bsz,λb _ _=>j b,λb z=>absurd z<|j b,g.jJ,g.frf},
  J,g.bare,Un.kept t,{_,x.toInCall.ns,λi y v h1 h2 h3=>?_},λy c h=>{_,x.cell y c h},g.hok.fresh<|aiL _,λy c h=>?_,λp m=>absurd (show p∈([]:fy (jl×Obj)) from m) o8,g.hok.kept t,?_⟩
 .exact name_of_addr x.apart (akE h1) (akE h2)
 .let l:scope.names.lookup y=some .cell∨scope.names.lookup y=some .free:=l;rcases l with l|l
  .exact zV l
  .exact absurd J (S.aax _<|akE l)
 .exact ajt (x.above y c<|akE h)
 .let hi:i<vs.length:=by
   unfold start at h2;by_cases hi:i<vs.length
   .exact hi
   .rw[aiO (⇑hi)] at h2;rw[amx] at h2;split at h2 <;> cases h2
  let F:vs[i]?=some v:=by
   unfold start at h2;rw[aiM (⇑hi),aiR] at h2;cases e:vs[i]? with
   |none=>rw[e] at h2;cases h2
   |some a=>rw[e] at h2;cases h2;rfl
  let⟨u,B,C⟩:=r.get F;let m:ps[i]?=some y:=by rwa[←S.pre,aj7 o6]
  let o:ps.Nodup:=by rw[←S.pre];exact S.nd.sublist<|List.take_sublist _ _
  exists u,C;rcases S.par y (aiQ m) with k|k
  .exact .inl {k,yS o m B k}
  .let⟨c,e⟩:=zV (n:= ~~~s+1) k;refine .inr {.inl k,c,e,?_};let q:=x.cell y c e;rw[yU o m B (by show scope.names.lookup y≠_;rw[k];decide)] at q;exact q
 .exact g.hok.fresh (ajt<|x.above y c<|akE h)
 .unfold start;show _=N.length;rw[aji,aiE,ajW];omega
def Mh{CX:CXT}{P:t6}{w:t7}{K:Frag}{mg:Z6->nt mu}{base:Heap}{k:Z5}{f:jl}{name qual:Z6}{c:Arguments}{g:fy Stmt}{scope:Scope}{Y kV j U a ct oc:mu}{O od:nt jl}{z:sA (nt mu)}{N ps:fy Z6}{sp:Sp}(lk:K.lookup f=some {oc,od,.func (fnOf name qual c g scope Y kV j U O a ct),z})(F:codeIn K a qual=Z1)(S:aC N ps scope)(len:∀vs H Q E,sp vs H Q E->vs.length=ps.length)(h:∀(A:Around)(outer:fy Env)(s:q8)(H:Hp)(vs:fy V)(Q:VK)(E:XK),cH k (A.deeper (envOfC qual scope (~~~s) f a))->sp vs H Q E →
   ∃t,PSs (aX CX P w K mg base N qual scope f a A outer s H E) g t/\t {nx:=λ_ H'=>Q .non H',rt:=Q} (start N vs) H) :
  aM P w K mg base CX (k+1) f (fnOf name qual c g scope Y kV j U O a ct) ps sp:=by
 refine{len,λA outer s H args us vs Q E B l hb r m=>?_};let hl:=len _ _ _ _ m;let L:K.In s.heap:=l.mod.kin.keeps λb o e=>(l.bs b o e).1
 let C:s.heap.NoLimit:=l.mod.nolimit.keeps λb o e=>(l.bs b o e).1
 let i:∀ y∈ps.zip us,scope.names.lookup y.1=some .local∨(scope.names.lookup y.1=some .cell/\((cellsFrom (~~~s+1) scope.names []).lookup y.1).isSome=Z1):=fun ⟨n,v⟩ hy=>by
  rcases S.par n (amC hy).1 with q|q
  .exact .inl q
  .exact .inr {q,amI _ _ _<|.inl q}
 refine codeAny_call_function B.depth (L _ _ lk) J S.co S.gen J (PySem.W.codeRec_of L F)<|hb _ _ _ _ ?_;refine wpAny_newFunctionEnv_cells S.kind i λenv he s1 x=>?_
 subst he;refine{C.keeps x.toInCall.keep,codeAny_func ?_};let⟨t,ht,hq⟩:=h A outer s H vs Q E (B.deeper _) m;let I:Inv (aX CX P w K mg base N qual scope f a A outer s H E) [] (start N vs) H s1:=GK S B.hd l hl r x;refine ajz (ht [] s1 (start N vs) H _ I hq) (λfl s' hs=>?_) λe s' hs=>hs
 let fin:∀{σ':St}{H':Hp}{v:V}{u:mu},Inv (aX CX P w K mg base N qual scope f a A outer s H E) [] σ' H' s'->RelV v u->Q v H'->CE outer P w H s Q u s':=
  λ{σ' H' v u}b4 p q=>⟨v,H',b4.os,b4.bare,b4.base,b4.hok,p,q⟩
 cases fl with
 |ret u=>let⟨v,σ',H',b4,p,q⟩:=hs;exact fin b4 p q
 |next=>let⟨σ',H',b4,q⟩:=hs;exact fin (v:=V.non) (u:=Value.none) b4 J q
 |brk=>let⟨_,_,_,q⟩:=hs;exact False.elim q
 |cont=>let⟨_,_,_,q⟩:=hs;exact False.elim q
section
variable{X:Cx}{x:Z6}{p pos:Pos}{e:Expr}{es:fy Expr}{t:TA}{id T:String}{r:fy V->Hp->VK->Z3}
def tCB(r:fy V->Hp->VK->Z3)(t:TA):TE:=λσ H Q=>t σ H λvs H1=>r vs H1 Q
def aL(f:dh X (.builtin id) r)(c:Gl X x)(i:X.mg x=Z0)(l:bootBuiltins x=some (.builtin id))(j:PA X (e::es) t)(hn:x≠"__name__":=by decide)(a:(x ==("__debug__":Str))=Z2:=by decide)(g:starEach (e::es) X.env =(Z2,eval e X.env)::starEach es X.env:=by rfl)(b:(backTo pos (starEach es X.env)).any (·.1)=Z2:=by rfl):PE X (.Call (.Name x p) (e::es) [] pos) (tCB r t):=by intro X4 s σ H Q I h;refine ajD<|gQ I c i l ?_ hn a;exact alK (thn (j pos X4 s σ H _ I h) λ us s1 ⟨vs,H1,I1,r1,q1⟩=>f X4 s1 σ H1 vs us Q I1 r1 q1) g b
def bF(f:dh X (.type T) r)(c:Gl X x)(i:X.mg x=Z0)(l:bootBuiltins x=some (.type T))(j:PA X (e::es) t)(hn:x≠"__name__":=by decide)(a:(x ==("__debug__":Str))=Z2:=by decide)(g:starEach (e::es) X.env =(Z2,eval e X.env)::starEach es X.env:=by rfl)(b:(backTo pos (starEach es X.env)).any (·.1)=Z2:=by rfl):PE X (.Call (.Name x p) (e::es) [] pos) (tCB r t):=by intro X4 s σ H Q I h;refine ajD<|gQ I c i l ?_ hn a;exact ajv (thn (j pos X4 s σ H _ I h) λ us s1 ⟨vs,H1,I1,r1,q1⟩=>f X4 s1 σ H1 vs us Q I1 r1 q1) g b
end
end L2
namespace HT
open PySem PyProof.Rows
def lexLt:fy Z4->fy Z4->Bool
 |[],[]=>Z2
 |[],_::_=>Z1
 |_::_,[]=>Z2
 |x::xs,y::ys=>if x=y then lexLt xs ys else decide (x<y)
def gr(x y:Z4)(xs ys:fy Z4):lexLt (x::xs) (y::ys)=if x=y then lexLt xs ys else decide (x<y):=rfl
def yY:lexLt [] []=Z2:=rfl
def Hg(A:Around)(s:q8)(a:Z4)(t:Tok)(c:Z4)(u:Tok):∃e,SeqAt.EqAt A s (.int a t) (.int c u) e/\(e=Z1↔a=c):=
 {(a==c),SeqAt.EqAt.int_int a t c u,o8}
section
variable{prog:t6}{w:t7}{A:Around}{E:mu->q8->Z3}{s:q8}
def Qp{t b:jl}{vs ws:fy mu}{Q:mu->q8->Z3}(v:IsTup s.heap t vs.toArray)(u:IsTup s.heap b ws.toArray)(m:vs≠[])(h1:ws=[]->Q (.ref t) s)(h2:ws≠[]->Q (.ref (~~~s)) {s with heap:=s.heap.push {.type "tuple",Z0,.seq (vs++ws).toArray,#[]}})(hsz:vs.length+ws.length≤Z7):wpAny (model prog w) A (binaryOp .Add (.ref t) (.ref b)) Q E s:=by
 let⟨⟨cls,dd,data,o⟩,j,l,n,r⟩:=id v;let⟨⟨p,g,data2,h⟩,a,f,q,c⟩:=id u;simp only at l r f c;subst l r f c;let e:vs.toArray++ws.toArray =(vs++ws).toArray:=by simp
 by_cases i:ws=[]
 .exact concat_meets {_,j,J} {_,a,J} aml seq_tuple_add alx alk (ak7 _ _)
   (tuple_addW1 t b vs.toArray ws.toArray n q dd g o h (⇑m) (by simp[i])) {j,a,h1 i}
 .refine concat_meets {_,j,J} {_,a,J} aml seq_tuple_add alx alk (ak7 _ _)
   (tuple_addW2 t b vs.toArray ws.toArray n q dd g o h (⇑m) (⇑i) (by rwa[ai3,ai3])) {j,a,?_}
  rw[e];exact h2 i
def sIx(n d:Z5):nt Z4->Z5
 |none=>d
 |some v=>if v<0 then(v +↥n).toNat else min v.toNat n
def jY(n d:Z5):sIx n d Z0=d:=rfl
def gZ(n d k:Z5):sIx n d (some ↥k)=min k n:=by show(if ↥k<0 then(↥k +↥n).toNat else min (k:Z4).toNat n)=min k n;rw[aiJ o6,Int.toNat_natCast]
def S4(n d:Z5)(b:d≤n)(o:nt Z4):sIx n d o≤n:=by
 cases o with
 |none=>exact b
 |some v=>
  show(if v<0 then(v +↥n).toNat else min v.toNat n)≤n;by_cases a:v<0
  .rw[aiN a];omega
  .rw[aiJ a];exact Nat.min_le_right _ _
def Co(v:Z4)(n d:Z5):(if v<0 then max (v +↥n) 0 else min v ↥n) =((sIx n d (some v):Z5):Z4):=by
 show(if v<0 then max (v +↥n) 0 else min v ↥n) =(((if v<0 then(v +↥n).toNat else min v.toNat n):Z5):Z4);by_cases a:v<0
 .simp only[if_pos a];omega
 .simp only[if_neg a];omega
def Ek(lo hi:nt Z4)(n:Z5):Builtin.Slice.sliceAdjust lo hi 1 ↥n =(((sIx n 0 lo:Z5):Z4),((sIx n n hi:Z5):Z4)):=by
 let h1:¬(↥1<0):=by omega
 unfold Builtin.Slice.sliceAdjust;simp only[h1,if_false];refine Prod.ext ?_ ?_
 .cases lo with
  |none=>rfl
  |some v=>exact Co v n 0
 .cases hi with
  |none=>rfl
  |some v=>exact Co v n n
def Eb(i j:Z5):Builtin.Slice.slicePlaces ↥i ↥j 1=j-i:=by
 unfold Builtin.Slice.slicePlaces;let h1:↥1>0:=by omega
 simp only[h1,if_true,Int.ediv_one];split <;> omega
def vF{v:mu}{o:nt Z4}{Q:nt Z4->q8->Z3}(p:IsPart v o)(h:Q o s):wpAny (model prog w) A (Builtin.Slice.slicePartIndex v) Q E s:=by
 cases p with
 |none=>exact slicePart_none h
 |int i t=>exact slicePart_int h
def vg{f:jl}{e c:mu}{lo hi:nt Z4}{n:Z5}{Q:Z4×Z4×Z5->q8->Z3}(hs:s.heap.IsSliceOf f e c .none)(pl:IsPart e lo)(g:IsPart c hi)(h:Q (((sIx n 0 lo:Z5):Z4),1,sIx n n hi-sIx n 0 lo) s):wpAny (model prog w) A (Builtin.Slice.sliceApplied (.ref f) (pure ↥n)) Q E s:=by let⟨os,b,i,a⟩:=id hs;unfold Builtin.Slice.sliceApplied Builtin.Slice.sliceFields;refine aiF<|aiF<|ajE b a (x:=e) J<|aiF<|ajE b a (x:=c) J<|aiF<|ajE b a (x:=.none) J<|aiK ?_;refine aiF<|slicePart_none ?_;show wpAny _ _ (if (↥1==0)=Z1 then _ else _) _ _ s;rw[aiJ o7];refine aiF<|vF pl<|aiF<|vF g<|aiF<|aiK ?_;show wpAny _ _ (match Builtin.Slice.sliceAdjust lo hi 1 ↥n with|(lo,hi)=>pure (lo,↥1,Builtin.Slice.slicePlaces lo hi 1)) _ _ s;rw[Ek lo hi n];show wpAny _ _ (pure (((sIx n 0 lo:Z5):Z4),↥1,Builtin.Slice.slicePlaces ((sIx n 0 lo:Z5):Z4) ((sIx n n hi:Z5):Z4) 1)) _ _ s;rw[Eb];exact aiK h
def Ie(xs:sA mu)(i k:Z5):((List.range k).filterMap λ(m:Z5)=>xs[(↥i +↥m*1).toNat]?).toArray =((xs.toList.drop i).take k).toArray:=by
 let e:(λ(m:Z5)=>xs[(↥i +↥m*1).toNat]?)=λm=>xs[i+m]?:=by
  funext m;let:(↥i +↥m*1).toNat=i+m:=by omega
  rw[this]
 rw[e];let:=pick_run xs i k;rw[al1] at this;let a:((λx=>xs[x]?) ∘ λx=>i+x)=λm=>xs[i+m]?:=rfl
 rw[a] at this;rw[this]
def sW{t c:jl}{items:sA mu}{l j:mu}{lo hi:nt Z4}{Q:mu->q8->Z3}(b:IsTup s.heap t items)(hs:s.heap.IsSliceOf c l j .none)(pl:IsPart l lo)(o:IsPart j hi)(p:¬(sIx items.size 0 lo=0/\sIx items.size items.size hi=items.size))(h:Q (.ref (~~~s)) {s with heap:=s.heap.push {.type "tuple",Z0,.seq ((items.toList.drop (sIx items.size 0 lo)).take (sIx items.size items.size hi-sIx items.size 0 lo)).toArray,#[]}})(hsz:items.size≤Z7):wpAny (model prog w) A (getItem (.ref t) (.ref c)) Q E s:=by
 let a:sizeOk (.seq ((items.toList.drop (sIx items.size 0 lo)).take (sIx items.size items.size hi-sIx items.size 0 lo)).toArray):=by show((items.toList.drop<|sIx items.size 0 lo).take<|sIx items.size items.size hi-sIx items.size 0 lo).toArray.size≤Z7;rw[ai3,aiV,alC,ajT];omega
 let r:sIx items.size items.size hi≤items.size:=S4 _ _ (aiL _) hi;let⟨os,f,i,n⟩:=id hs;let e:s.TypeIs (.ref c) "slice":=⟨os,f,i⟩;unfold getItem
 try with_reducible refine aka ?_
 first|refine aiF (aiK ?_)|skip
 refine aiF<|wpAny_sequenceKey b.typeIs o7 ?_;refine aiF (ajQ (name:=Str.ofString "__getitem__") b.typeIs akH
  (ajS akH b.typeIs entry_tuple_getitem ?_<|args_tuple_getitem _ _))
 show wpAny _ _ (Builtin.Tuple.tupleItemsOf (.ref t) >>= _) _ _ s;refine aiF<|tupleItemsOf_ b ?_;refine aiF<|wpAny_typeOf e ?_;rw[aiN o7];refine aiF<|vg hs pl o ?_;let g:¬((((sIx items.size 0 lo:Z5):Z4)==0 &&↥1==1 &&(sIx items.size items.size hi-sIx items.size 0 lo)==items.size)=Z1):=by intro q;rw[akC,akC] at q;let q1:((sIx items.size 0 lo:Z5):Z4)=0:=eq_of_beq q.1.1;let u:sIx items.size items.size hi-sIx items.size 0 lo=items.size:=eq_of_beq q.2;exact p ⟨o6,o6⟩
 show wpAny _ _ (if (((sIx items.size 0 lo:Z5):Z4)==0 &&↥1==1 &&(sIx items.size items.size hi-sIx items.size 0 lo)==items.size)=Z1 then _ else _) _ _ s;rw[aiJ g,Ie]
 first
  |exact aiF (m:=Builtin.Tuple.tupleExact _)<|ajC (aiK {1,aiK h}) a
  |exact aiF (m:=Builtin.Tuple.tupleExact _)<|ajC (aiF<|aiK<|aiK {1,aiK h}) a
  |exact aiF<|aiF (m:=Builtin.Tuple.tupleExact _)<|ajC (aiK<|aiK {1,aiK h}) a
  |exact aiF<|aiF (m:=Builtin.Tuple.tupleExact _)<|ajC (aiK {1,aiK h}) a
end
end HT
namespace L2
open PySem PySem.Spec PyProof.Rows
abbrev TO:=St->Hp->(nt Z4->Hp->Z3)->Z3
def PO(X:Cx)(e:nt Expr)(t:TO):Z3:=
 ∀(X4:fy (jl×Obj))(s:q8)(σ:St)(H:Hp)(Q:nt Z4->Hp->Z3),Inv X X4 σ H s->t σ H Q →
  wpAny (model X.prog X.w) X.A (evalPart e X.env) (λu s'=>∃o H',Inv X X4 σ H' s'/\IsPart u o/\Q o H') X.xe s
def QH:TO:=λ_ H Q=>Q Z0 H
inductive Cr(Q:nt Z4->Hp->Z3)(x:V)(H1:Hp):Z3
 |m i(_:x=.int i)(_:Q (some i) H1)
def agR(t:TE):TO:=λσ H Q=>t σ H λx H1=>Cr Q x H1
def alL{ns:fy Z4}:∀{us:fy mu},Vals (ns.map Z8) us->IntsAre us ns:=by
 induction ns with
 |nil=>intro us r;rw[ak8] at r;cases r;exact .nil
 |cons n ns a=>
  intro us r;rw[ajh] at r;cases r with
  |cons r1 r2=>let⟨t,e⟩:=r1;subst e;exact .cons n t<|a r2
section
variable{X:Cx}{e:Expr}{te:TE}{lo hi:nt Expr}{tl th:TO}{pos p2:Pos}
def ig:PO X Z0 QH:=by intro X4 s σ H Q I h;rw[evalPart_none];exact aiK {Z0,H,I,.none,h}
def dD(h:PE X e te):PO X (some e) (agR te):=by
 intro X4 s σ H Q I a;rw[evalPart_some];refine thn (h X4 s σ H _ I a) λ u s1 ⟨x,H1,I1,r1,q1⟩=>?_
 let⟨i,rfl,q⟩:=q1;let⟨t,rfl⟩:=r1;exact{some i,H1,I1,.int i t,q}
def SlR(X:Cx)(r:V->nt Z4->nt Z4->Hp->VK->Z3):Z3:=
 ∀(X4:fy (jl×Obj))(s:q8)(σ:St)(H:Hp)(x:V)(v c a:mu)(lo hi:nt Z4)(b:jl)(Q:VK),Inv X X4 σ H s->RelV x v->s.heap.IsSliceOf b c a .none->IsPart c lo->IsPart a hi->r x lo hi H Q →
  ∃T id,typeLookup (.type T) "__getitem__" = pure (some<|.builtin id)/\s.TypeIs v T/\wpAny (model X.prog X.w) X.A (getItem v<|.ref b) (EP X X4 σ Q) X.xe s
def tSl(r:V->nt Z4->nt Z4->Hp->VK->Z3)(te:TE)(tl th:TO):TE:=λσ H Q=>te σ H λx H1=>tl σ H1 λl H2=>th σ H2 λu a=>r x l u a Q
def d7{r:V->nt Z4->nt Z4->Hp->VK->Z3}(n:SlR X r)(p:PE X e te)(i:PO X lo tl)(o:PO X hi th):PE X (.Subscript e (.Slice lo hi Z0 p2) pos) (tSl r te tl th):=by
 intro X4 s σ H Q I h;refine Subscript_ (thn (p X4 s σ H _ I h) λ v s1 ⟨x,H1,I1,r1,q1⟩=>?_);refine wpAny_Slice (thn (i X4 s1 σ H1 _ I1 q1) λ c s2 ⟨l,H2,I2,pl,q2⟩=>thn (o X4 s2 σ H2 _ I2 q2) λ a s3 ⟨u,H3,I3,pu,q3⟩=>?_);rw[evalPart_none];refine aiK ?_;let j:Inv X X4 σ H3 {s3 with heap:=s3.heap.push {.type "slice",Z0,.fields #[c,a,.none],#[]}}:=I3.kept (t':=s3.toks) λb t q=>aiI _ q
 let⟨T,id,g,m,f⟩:=n X4 {s3 with heap:=s3.heap.push {.type "slice",Z0,.fields #[c,a,.none],#[]}} σ H3 x v c a l u (~~~s3) Q j r1 (Heap.IsSliceOf.new ..) pl pu q3;show wpAny (model X.prog X.w) X.A (subscriptTail e (.Slice lo hi Z0 p2) v<|.ref (~~~s3)) (EP X X4 σ Q) X.xe {s3 with heap:=s3.heap.push {.type "slice",Z0,.fields #[c,a,.none],#[]}};exact tail_any (ops:=[.ref (~~~s3),v]) m g f (by with_unfolding_all rfl)
def cS(xs:fy V)(lo hi:nt Z4):fy V:=(xs.drop<|HT.sIx xs.length 0 lo).take<|HT.sIx xs.length xs.length hi-HT.sIx xs.length 0 lo
def tG(xs:fy V)(lo hi:nt Z4):(cS xs lo hi).length≤xs.length:=by unfold cS;rw[aiV,alC];omega
inductive HE(K:Frag)(x:V)(lo:nt Z4)(hi:nt Z4)(H:Hp)(Q:VK):Z3
 |m a xs(_:x=.ref a)(_:X3 K H a xs)(_:¬(HT.sIx xs.length 0 lo=0/\HT.sIx xs.length xs.length hi=xs.length))(_:∀p,H p=Z0->Q (.ref p) (Z9 H p (.tup (cS xs lo hi))))
def Tn:SlR X (HE X.K):=by
 intro X4 s σ H x v t n lo hi p Q I i hs pl j h;let⟨a,xs,rfl,g,l,q⟩:=h;cases i;let⟨C5,r,f,e⟩:=I.tuple g;let c:C5.toArray.size=xs.length:=by rw[ai3];exact r.length.symm
 exists "tuple",_,akH.lookup,f.typeIs;refine HT.sW f hs pl j (by rwa[c]) ?_ (by rwa[c]);rw[c];refine{.ref (~~~s),_,I.laid (t':=s.toks) (o:=.tup<|cS xs lo hi) (λb m q=>aiI _ q) (aiL _) ?_,J,q _<|I.hok.fresh<|aiL _};exact{ai9 (tG xs lo hi) e,_,(r.drop<|HT.sIx xs.length 0 lo).take<|HT.sIx xs.length xs.length hi-HT.sIx xs.length 0 lo,IsTup.new _ _}
def Vals.xJ{xs:fy V}{us:fy mu}(r:Vals xs us):us=[]↔xs=[]:=by
 cases r with
 |nil=>simp
 |cons _ _=>simp
end
def ixN(n:Z5)(i:Z4):nt Z5:=if 0≤i then(if i<n then some i.toNat else Z0) else if -↥n≤i then some (i+n).toNat else Z0
def atI{α:Type}(xs:fy α)(i:Z4):nt α:=(ixN xs.length i).bind λj=>xs[j]?
def Cq{n:Z5}{i:Z4}{j:Z5}(h:ixN n i=some j):seqIndex? i n=some j/\j<n/\-↥n≤i/\i<n:=by
 unfold ixN at h;by_cases h0:0≤i
 .rw[aiN h0] at h;by_cases h1:i<n
  .rw[aiN h1] at h;let e:i.toNat=j:=aiY h;exact{by rw[seqIndex_of h0 h1,e],o6,o6,h1}
  .rw[aiJ h1] at h;cases h
 .rw[aiJ h0] at h;by_cases h1:-↥n≤i
  .rw[aiN h1] at h;let e:(i+n).toNat=j:=aiY h;exact{by rw[seqIndex_neg o6 h1,e],o6,h1,o6}
  .rw[aiJ h1] at h;cases h
def xC{α:Type}{xs:fy α}{i:Z4}{v:α}(h:atI xs i=some v):∃j,seqIndex? i xs.length=some j/\xs[j]?=some v/\j<xs.length/\-↥xs.length≤i/\i<xs.length:=by
 unfold atI at h;cases e:ixN xs.length i with
 |none=>rw[e] at h;cases h
 |some j=>rw[e] at h;let⟨h1,h2,h3,h4⟩:=Cq e;exact⟨j,h1,h,h2,h3,h4⟩
def bx{α:Type}{xs:fy α}{j:Z5}{v:α}(h:xs[j]?=some v):atI xs ↥j=some v:=by
 let a:j<xs.length:=(aiH.mp h).1;let e:ixN xs.length ↥j=some j:=by unfold ixN;rw[aiN o6,aiN o6];simp
 unfold atI;rwa[e]
def Qz(b:Expr):Z3:=∀o i,subscripted b Z2 o i=operate [o,i] (getItem o i)
def IxR(X:Cx)(r:R2):Z3:=
 ∀(value a:Expr)(X4:fy (jl×Obj))(s:q8)(σ:St)(H:Hp)(x y:V)(v u:mu)(Q:VK),Inv X X4 σ H s->RelV x v->RelV y u->r x y H Q →
  subscripted a Z2 v u=operate [v,u] (getItem v u)->wpAny (model X.prog X.w) X.A (subscriptTail value a v u) (EP X X4 σ Q) X.xe s
def MtR(X:Cx)(id:String)(r:V->fy V->Hp->VK->Z3):Z3:=
 ∀(X4:fy (jl×Obj))(s:q8)(σ:St)(H:Hp)(x:V)(xs:fy V)(v:mu)(us:fy mu)(Q:VK),Inv X X4 σ H s->RelV x v->Vals xs us->r x xs H Q →
  wpAny (model X.prog X.w) X.A (call (.builtin id) (v::us)) (EP X X4 σ Q) X.xe s
section
variable{X:Cx}{a b:Expr}{ta tb:TE}{pos:Pos}
def aQ{r:R2}(i:IxR X r)(f:PE X a ta)(j:PE X b tb)(hs:Qz b):PE X (.Subscript a b pos) (tOp r ta tb):=by intro X4 s σ H Q I h;exact Subscript_ (HG f j I h λv u s2 x y H2 e c g q=>i a b X4 s2 σ H2 x y v u Q e c g q<|hs _ _)
inductive abo(K:Frag)(x:V)(y:V)(H:Hp)(Q:VK):Z3
 |m p xs i v(_:x=.ref p)(_:y=.int i)(_:X0 K H p xs)(_:atI xs i=some v)(_:Q v H)
inductive Hf(K:Frag)(x:V)(y:V)(H:Hp)(Q:VK):Z3
 |m p xs i v(_:x=.ref p)(_:y=.int i)(_:X3 K H p xs)(_:atI xs i=some v)(_:Q v H)
inductive Te(x:V)(y:V)(H:Hp)(Q:VK):Z3
 |m z i c(_:x=.str z)(_:y=.int i)(_:z.length≤Z7)(_:atI z.cps.toList i=some c)(_:Q (.str ⟨#[c]⟩) H)
def aT:IxR X (abo X.K):=by
 intro value b X4 s σ H x y v u Q I f m h hs;let⟨p,xs,i,z,rfl,rfl,g,n,q⟩:=h;cases f;let⟨t,rfl⟩:=m;let⟨C5,r,pl,o⟩:=I.list g;let⟨j,h1,h2,h3,h4,h5⟩:=xC n;let⟨w,e,c⟩:=r.get h2;let l:=r.length;let hn:=oZ;let fin:EP X X4 σ Q w s:=⟨z,H,I,c,q⟩;by_cases h0:0≤i
 .let a:i.toNat=j:=by rw[seqIndex_of h0 h5] at h1;exact aiY h1
  exact item_listR pl.isList h0 o6 (by rw[a];simpa using e) fin hs
 .let a:(i +↥C5.toArray.size).toNat=j:=by rw[seqIndex_neg o6 h4] at h1;rw[ai3,←l];exact aiY h1
  exact subscriptTail_builtinR (x:=w) pl.isList.typeIs slot_list_getitem.lookup
   (wpAny_getItem_list_neg (Q:=λr s'=>r=w/\EP X X4 σ Q r s') pl.isList o6 (by rw[ai3] <;> omega) o6 (by rw[a];simpa using e) ⟨J,fin⟩) hs
def bY:IxR X (Hf X.K):=by
 intro value a X4 s σ H x y v u Q I c l h hs;let⟨p,xs,i,z,rfl,rfl,e,m,q⟩:=h;cases c;let⟨t,rfl⟩:=l;let⟨C5,r,pl,n⟩:=I.tuple e;let⟨j,h1,h2,h3,h4,h5⟩:=xC m;let⟨w,g,b⟩:=r.get h2;let f:=r.length;let hn:=oZ;let fin:EP X X4 σ Q w s:=⟨z,H,I,b,q⟩;exact subscriptTail_builtinR (x:=w) pl.typeIs slot_tuple_getitem.lookup
  (getItem_tuple (j:=j) (Q:=λr s'=>r=w/\EP X X4 σ Q r s') pl o6 o6 (by rwa[ai3,←f]) (⇑g) ⟨J,fin⟩) hs
def Sm:IxR X Te:=by
 intro value a X4 s σ H x y v u Q I b g h hs;let⟨z,i,c,rfl,rfl,n,m,q⟩:=h;let⟨t,rfl⟩:=b;let⟨t',rfl⟩:=g;let⟨j,h1,h2,h3,h4,h5⟩:=xC m;let f:z.cps.toList.length=z.length:=by simp[Str.length]
 rw[f] at h1 h4 h5;let hn:=oZ;exact tail_any (amg s z t) slot_str_getitem.lookup (getItem_str (c:=c) (by let l:decide (i < -(2 ^ 63:Z4))=Z2:=aiX o6;let e:decide (i≥2 ^ 63)=Z2:=aiX o6;rw[l,e,Bool.or_false]) (by rw[h1];simpa using h2) {.str ⟨#[c]⟩,H,I.tok _,{1},q}) hs
def D5(C5:fy mu)(n j:Z5)(u:mu):Obj.mapSeq (·.setIfInBounds j u) {.type "list",Z0,.seq C5.toArray n,#[]}={.type "list",Z0,.seq (C5.set j u).toArray n,#[]}:=by simp[Obj.mapSeq]
def Inv.lst{X4:fy (jl×Obj)}{σ:St}{H:Hp}{s:q8}{p:jl}{xs:fy V}(I:Inv X X4 σ H s)(h:H p=some (.lst xs)) :
  ∃(C5:fy mu)(n:Z5),Vals xs C5/\s.heap.get? p=some {.type "list",Z0,.seq C5.toArray n,#[]}/\xs.length≤Z7:=by
 let⟨z,C5,n,r,e⟩:=I.hok p _ h;exact⟨C5,n,r,e,z⟩
def Inv.VA{X4:fy (jl×Obj)}{σ:St}{H:Hp}{s:q8}{p:jl}{xs ys:fy V}{C5 its':fy mu}{n a:Z5}{f:Obj->Obj}(I:Inv X X4 σ H s)(h:H p=some (.lst xs))(g:s.heap.get? p=some {.type "list",Z0,.seq C5.toArray n,#[]})(c:f {.type "list",Z0,.seq C5.toArray n,#[]}={.type "list",Z0,.seq its'.toArray a,#[]})(r:Vals ys its')(i:ys.length≤Z7)(t:Z5) :
  Inv X X4 σ (Z9 H p (.lst ys)) {s with heap:=s.heap.update p f,toks:=t}:=by
 let e:(s.heap.update p f).get? p=some {.type "list",Z0,.seq its'.toArray a,#[]}:=by rw[ajw f g (by rw[c] <;> rfl),c]
 refine I.write (x:=p) (e:=p) (by rw[h];trivial) (.inl J) (λb u j q=>(ajA _ _<|ajH j).trans q) {_,e} ?_;exact⟨i,its',a,r,e⟩
inductive PJ(o:V)(i:V)(v:V)(H:Hp)(Q:Hp->Z3):Z3
 |m p xs k j(_:o=.ref p)(_:i=.int k)(_:H p=some (.lst xs))(_:ixN xs.length k=some j)(_:Q (Z9 H p (.lst (xs.set j v))))
def set_list:Vo X PJ:=by
 intro X4 s σ H o i v z A u Q I m x g h;let⟨p,xs,k,j,rfl,rfl,e,l,q⟩:=h;cases m;let⟨t,rfl⟩:=x;let⟨C5,n,r,c,y⟩:=I.lst e;let⟨h1,h2,h3,h4⟩:=Cq l;let b:=r.length;let hn:=oZ;let f:Inv X X4 σ (Z9 H p (.lst (xs.set j v))) {s with heap:=s.heap.update p (Obj.mapSeq (·.setIfInBounds j u))}:=
  I.VA e c (D5 C5 n j u) (r.set g j) (by rwa[amD]) s.toks
 by_cases h0:0≤k
 .let a:k.toNat=j:=by rw[seqIndex_of h0 h4] at h1;exact aiY h1
  exact PySem.W.ki_setAt c h0 o6 (by rwa[ai3,←b]) (by rw[a];exact{_,f,q})
 .let a:(k +↥C5.toArray.size).toNat=j:=by rw[seqIndex_neg o6 h3] at h1;rw[ai3,←b];exact aiY h1
  exact PySem.W.ki_setBack c o6 (by rwa[ai3,←b]) o6 (by rw[a];exact{_,f,q})
def zE(lo hi:nt Z4)(n:Z5):(sliceBounds lo hi Z0 n).1 =((HT.sIx n 0 lo:Z5):Z4)/\(sliceBounds lo hi Z0 n).2.1 =((HT.sIx n n hi:Z5):Z4)/\(sliceBounds lo hi Z0 n).2.2=1:=by
 refine{?_,?_,J}
 .cases lo with
  |none=>simp[sliceBounds,HT.sIx]
  |some i=>
   simp only[sliceBounds,HT.sIx,Option.getD_none,show↥1>0 by decide,if_true];by_cases h:i<0
   .simp only[h,if_true] <;> omega
   .simp only[h,if_false] <;> omega
 .cases hi with
  |none=>simp[sliceBounds,HT.sIx]
  |some i=>
   simp only[sliceBounds,HT.sIx,Option.getD_none,show↥1>0 by decide,if_true];by_cases h:i<0
   .simp only[h,if_true] <;> omega
   .simp only[h,if_false] <;> omega
def za(C5:fy mu)(lo hi:nt Z4):slicePick C5.toArray lo hi Z0 =((C5.drop (HT.sIx C5.length 0 lo)).take (HT.sIx C5.length C5.length hi-HT.sIx C5.length 0 lo)).toArray:=by let⟨h1,h2,h3⟩:=zE lo hi C5.toArray.size;unfold slicePick;rw[h1,h2,h3];simp only[sliceRange_one,pick_run,List.size_toArray] <;> rfl
inductive Ir(K:Frag)(x:V)(lo:nt Z4)(hi:nt Z4)(H:Hp)(Q:VK):Z3
 |m a xs(_:x=.ref a)(_:X0 K H a xs)(_:∀p,H p=Z0->Q (.ref p) (Z9 H p (.lst (cS xs lo hi))))
def fY:SlR X (Ir X.K):=by intro X4 s σ H x v p m lo hi n Q I g hs pl i h;let⟨a,xs,rfl,f,q⟩:=h;cases g;let⟨C5,r,e,j⟩:=I.list f;let c:=r.length;exists "list",_,slot_list_getitem.lookup,e.isList.typeIs;refine wpAny_getItem_list_slice e.isList hs pl i .none o8 ?_ (by rw[ai3] <;> omega);rw[za,←c];refine{.ref (~~~s),_,I.laid (t':=s.toks) (o:=.lst<|cS xs lo hi) (λb l q=>aiI _ q) (aiL _) ?_,J,q _<|I.hok.fresh<|aiL _};exact{ai9 (tG xs lo hi) j,_,(0),(r.drop<|HT.sIx xs.length 0 lo).take<|HT.sIx xs.length xs.length hi-HT.sIx xs.length 0 lo,aiW _ J}
def j9:V->Bool
 |.non=>Z1
 |.bl _=>Z1
 |.int _=>Z1
 |.str _=>Z1
 |_=>Z2
def eqV:V->V->Bool
 |.non,.non=>Z1
 |.bl a,.bl b=>a==b
 |.bl a,.int b=>(if a then 1 else 0)==b
 |.int a,.bl b=>a ==(if b then 1 else 0)
 |.int a,.int b=>a==b
 |.str a,.str b=>a==b
 |_,_=>Z2
def RL{A:Around}{s:q8}{y x:V}{u v:mu}(e:RelV y u)(c:RelV x v)(g:j9 y=Z1)(f:j9 x=Z1):SeqAt.EqAt A s u v (eqV y x):=by
 cases y with
 |non=>
  cases e;cases x with
  |non=>cases c;exact SeqAt.EqAt.same _
  |bl b=>cases c;exact SeqAt.EqAt.none_bool b
  |int b=>let⟨t,rfl⟩:=c;exact SeqAt.EqAt.none_int b t
  |str b=>let⟨t,rfl⟩:=c;exact SeqAt.EqAt.none_str b t
  |_=>exact absurd (show Z2=Z1 from f) ai4
 |bl a=>
  cases e;cases x with
  |non=>cases c;exact SeqAt.EqAt.bool_none a
  |bl b=>cases c;exact SeqAt.EqAt.bool_bool a b
  |int b=>let⟨t,rfl⟩:=c;exact SeqAt.EqAt.bool_int a b t
  |str b=>let⟨t,rfl⟩:=c;exact SeqAt.EqAt.bool_str a b t
  |_=>exact absurd (show Z2=Z1 from f) ai4
 |int a=>
  let⟨t',rfl⟩:=e;cases x with
  |non=>cases c;exact SeqAt.EqAt.int_none a t'
  |bl b=>cases c;exact SeqAt.EqAt.int_bool a t' b
  |int b=>let⟨t,rfl⟩:=c;exact SeqAt.EqAt.int_int a t' b t
  |str b=>let⟨t,rfl⟩:=c;exact SeqAt.EqAt.int_str a t' b t
  |_=>exact absurd (show Z2=Z1 from f) ai4
 |str a=>
  let⟨t',rfl⟩:=e;cases x with
  |non=>cases c;exact SeqAt.EqAt.str_none a t'
  |bl b=>cases c;exact SeqAt.EqAt.str_bool a t' b
  |int b=>let⟨t,rfl⟩:=c;exact SeqAt.EqAt.str_int a t' b t
  |str b=>let⟨t,rfl⟩:=c;exact SeqAt.EqAt.str_str a t' b t
  |_=>exact absurd (show Z2=Z1 from f) ai4
 |_=>exact absurd (show Z2=Z1 from g) ai4
def eqU(x:V)(u:mu):Bool:=match u with
 |.none=>eqV .non x
 |.bool b=>eqV (.bl b) x
 |.int i _=>eqV (.int i) x
 |.str z _=>eqV (.str z) x
 |_=>Z2
def Fl{x y:V}{u:mu}(r:RelV y u)(f:j9 y=Z1):eqU x u=eqV y x:=by
 cases y with
 |non=>cases r;rfl
 |bl b=>cases r;rfl
 |int i=>let⟨t,rfl⟩:=r;rfl
 |str z=>let⟨t,rfl⟩:=r;rfl
 |_=>exact absurd (show Z2=Z1 from f) ai4
def oQ{x:V}:∀{xs:fy V}{us:fy mu},Vals xs us->xs.all j9=Z1->us.any (eqU x)=xs.any λy=>eqV y x
 |_,_,.nil,_=>rfl
 |y::xs,u::us,.cons r t,f=>by rw[List.all_cons,akC] at f;rw[akX,akX,Fl r f.1,oQ t f.2]
def mF{A:Around}{s:q8}{x:V}{v:mu}(b:RelV x v)(c:j9 x=Z1):∀{xs:fy V}{us:fy mu},Vals xs us->xs.all j9=Z1->∀ u∈us,SeqAt.EqAt A s u v (eqU x u)
 |_,_,.nil,_=>λu a=>by cases a
 |y::xs,u::us,.cons r t,f=>λe a=>by
  rw[List.all_cons,akC] at f;rcases aiU.mp a with rfl|a
  .rw[Fl r f.1];exact RL r b f.1 c
  .exact mF b c t f.2 e a
def inV(x:V)(xs:fy V):Bool:=xs.any λy=>eqV y x
inductive rIn(K:Frag)(neg:Bool)(x:V)(y:V)(H:Hp)(Q:VK):Z3
 |m p xs(_:y=.ref p)(_:X0 K H p xs∨X3 K H p xs)(_:j9 x=Z1)(_:xs.all j9=Z1)(_:Q (.bl (if neg then !inV x xs else inV x xs)) H)
def kH:OpR X (compareOp .In) (rIn X.K Z2):=by
 intro X4 s σ H x y v u Q I c f h;let⟨p,xs,rfl,a,e,fs,q⟩:=h;cases f;rcases a with a|a
 .let⟨C5,r,pl,g⟩:=I.list a;refine SeqAt.in_listAt (eqU x) pl.isList (λw b=>mF c e r fs w (⇑b)) {.bl _,H,I,J,?_};rwa[show C5.toArray.any (eqU x)=C5.any (eqU x) by simp,oQ r fs]
 .let⟨C5,r,pl,g⟩:=I.tuple a;refine SeqAt.in_tupleAt (eqU x) pl (λw b=>mF c e r fs w (⇑b)) {.bl _,H,I,J,?_};rwa[show C5.toArray.any (eqU x)=C5.any (eqU x) by simp,oQ r fs]
def AW:OpR X (compareOp .NotIn) (rIn X.K Z1):=by
 intro X4 s σ H x y v u Q I c f h;let⟨p,xs,rfl,a,e,fs,q⟩:=h;cases f;rcases a with a|a
 .let⟨C5,r,pl,g⟩:=I.list a;refine SeqAt.notIn_listAt (eqU x) pl.isList (λw b=>mF c e r fs w (⇑b)) {.bl _,H,I,J,?_};rwa[show C5.toArray.any (eqU x)=C5.any (eqU x) by simp,oQ r fs]
 .let⟨C5,r,pl,g⟩:=I.tuple a;refine SeqAt.notIn_tupleAt (eqU x) pl (λw b=>mF c e r fs w (⇑b)) {.bl _,H,I,J,?_};rwa[show C5.toArray.any (eqU x)=C5.any (eqU x) by simp,oQ r fs]
inductive jZ(K:Frag)(xs:fy V)(H:Hp)(Q:VK):Z3
 |m p ys(_:xs=[.ref p])(_:X0 K H p ys∨X3 K H p ys)(_:Q (.int ys.length) H)
def aK:dh X (.builtin "len") (jZ X.K):=by
 intro X4 s σ H xs us Q I r h;let⟨p,ys,rfl,b,q⟩:=h;let⟨u,rfl,e⟩:=vals1 r;cases e;let hn:=oZ;rcases b with b|b
 .let⟨C5,c,pl,f⟩:=I.list b;let a:=c.length;exact Calls.call_len_list pl.isList (by simp only[List.size_toArray] <;> omega) {.int ys.length,H,I.tok _,{s.toks+1,by rw[ai3,a]},q}
 .let⟨C5,c,pl,f⟩:=I.tuple b;let a:=c.length;exact len_tuple pl (by simp only[List.size_toArray] <;> omega) {.int ys.length,H,I.tok _,{s.toks+1,by rw[ai3,a]},q}
inductive oM(xs:fy V)(H:Hp)(Q:VK):Z3
 |m z(_:xs=[.str z])(_:z.length≤Z7)(_:Q (.int z.length) H)
def m6:dh X (.builtin "len") oM:=by intro X4 s σ H xs us Q I r h;let⟨z,rfl,a,q⟩:=h;let⟨u,rfl,t,rfl⟩:=vals1 r;let hn:=oZ;exact len_str o6 {.int z.length,H,I.tok _,{1},q}
inductive oE(K:Frag)(xs:fy V)(H:Hp)(Q:VK):Z3
 |m p ys(_:xs=[.ref p])(_:X0 K H p ys∨X3 K H p ys)(_:∀l,H l=Z0->Q (.ref l) (Z9 H l (.lst ys)))
def qO:dh X (.type "list") (oE X.K):=by
 intro X4 s σ H xs us Q I r h;let⟨p,ys,rfl,f,q⟩:=h;let⟨u,rfl,v⟩:=vals1 r;cases v;let fin:∀(C5:fy mu),Vals ys C5->ys.length≤Z7->∀(h':Heap)(c:Z5),(∀b o',s.heap.get? b=some o'->h'.get? b=some o') →
   h'.get? (~~~s)=some {.type "list",Z0,.seq C5.toArray c,#[]}->EP X X4 σ Q (.ref (~~~s)) {s with heap:=h'}:=λC5 a j h' c i e=>
  {.ref (~~~s),_,I.laid (t':=s.toks) i (aiL _) (show bK X.prog X.w _ h' _ (.lst ys) from⟨j,C5,c,a,e⟩),J,q _<|I.hok.fresh<|aiL _}
 rcases f with f|f
 .let⟨C5,a,pl,j⟩:=I.list f;let g:=a.length;let⟨o,t,l,n,m⟩:=pl.isList;exact call_list_seq p (.inl J) t l m (λh' c i e=>fin C5 a j h' c i e) (by simp only[List.size_toArray] <;> omega)
 .let⟨C5,a,pl,j⟩:=I.tuple f;let g:=a.length;let⟨o,t,l,n,m⟩:=pl;exact call_list_seq p (.inr J) t l m (λh' c i e=>fin C5 a j h' c i e) (by simp only[List.size_toArray] <;> omega)
inductive jD(K:Frag)(xs:fy V)(H:Hp)(Q:VK):Z3
 |m p ys(_:xs=[.ref p])(_:(X0 K H p ys/\∀l,H l=Z0->Q (.ref l) (Z9 H l (.tup ys)))∨(X3 K H p ys/\Q (.ref p) H))
def dZ:dh X (.type "tuple") (jD X.K):=by
 intro X4 s σ H xs us Q I r h;let⟨p,ys,rfl,h⟩:=h;let⟨u,rfl,j⟩:=vals1 r;cases j;rcases h with⟨a,q⟩|⟨a,q⟩
 .let⟨C5,c,pl,i⟩:=I.list a;let g:=c.length;refine call_tuple_list pl.isList (λh' m=>?_) (by simp only[List.size_toArray] <;> omega);let f:Inv X X4 σ H {s with heap:=h'}:=I.kept (t':=s.toks) m;let l:Inv X X4 σ (Z9 H h'.objs.size (.tup ys)) {s with heap:=h'.push {.type "tuple",Z0,.seq C5.toArray,#[]}}:=
   f.laid (t':=s.toks) (λb o e=>aiI _ e) (aiL _) (show bK X.prog X.w _ _ _ (.tup ys) from{i,C5,c,IsTup.new _ _})
  exact{.ref h'.objs.size,_,l,J,q _<|f.hok.fresh<|aiL _}
 .let⟨C5,c,pl,i⟩:=I.tuple a;exact call_tuple_same pl {.ref p,H,I,J,q}
def tyV(K:Frag)(T:String)(x:V)(H:Hp):Z3:=match x with
 |.str _=>T = "str"
 |.int _=>T = "int"
 |.ref p=>(T = "list"/\∃xs,X0 K H p xs)∨(T = "tuple"/\∃o,K.lookup p=some o/\o.cls=.type "tuple"/\o.dict=Z0)∨
   (T = "dict"/\((∃C4,H p=some (.dK C4))∨∃C4,H p=some (.dT C4)))∨(T = "set"/\∃S n,H p=some (.set S n))
 |_=>False
def Fp{X4:fy (jl×Obj)}{σ:St}{H:Hp}{s:q8}{T:String}{x:V}{v:mu}(I:Inv X X4 σ H s)(r:RelV x v)(ty:tyV X.K T x H) :
  s.TypeIs v T/\∀a,v=.ref a->∃h,s.heap.get? a=some h/\h.dict=Z0:=by
 cases x with
 |str z=>let⟨t,rfl⟩:=r;cases (show T = "str" from ty);exact{amg s z t,λ_ e=>nomatch e}
 |int i=>let⟨t,rfl⟩:=r;cases (show T = "int" from ty);exact{typeIs_int s i t,λ_ e=>nomatch e}
 |ref p=>
  cases r;rcases ty with⟨rfl,xs,j⟩|⟨rfl,o,b,l,g⟩|⟨rfl,b⟩|⟨rfl,S,n,b⟩
  .let⟨C5,_,pl,_⟩:=I.list j;refine{pl.isList.typeIs,λa e=>?_};cases e;let⟨o,n,e,c,g,_⟩:=pl;exact⟨o,e,g⟩
  .refine{{o,I.kIn p o b,l},λa e=>?_};cases e;exact{o,I.kIn _ o b,g}
  .let z:∃o,s.heap.get? p=some o/\o.ExactDict:=by
    rcases b with⟨C4,b⟩|⟨C4,b⟩
    .let⟨_,_,_,_,o,_,_,e,ex,_⟩:=I.hok p _ b;exact⟨o,e,ex⟩
    .let⟨_,_,_,_,o,_,_,e,ex,_⟩:=I.hok p _ b;exact⟨o,e,ex⟩
   let⟨o,e,ex⟩:=z;refine{⟨o,e,ex.1⟩,λa f=>?_};cases f;exact⟨o,e,ex.2.1⟩
  .let⟨o,_,_,_,e,ex,_⟩:=I.hok p _ b;refine{⟨o,e,ex.1⟩,λa f=>?_};cases f;exact⟨o,e,ex.2.1⟩
 |_=>exact False.elim ty
def ahH(K:Frag)(T:String)(r:V->fy V->Hp->VK->Z3)(to:TE):TE:=λσ H Q=>to σ H λx H1=>tyV K T x H1/\r x [] H1 Q
def tBM(K:Frag)(T:String)(r:V->fy V->Hp->VK->Z3)(to:TE)(t:TA):TE:=λσ H Q=>to σ H λx H1=>tyV K T x H1/\t σ H1 λxs H2=>r x xs H2 Q
variable{o e:Expr}{es:fy Expr}{to:TE}{t:TA}{name:Z6}{apos cpos:Pos}{T id:String}{r:V->fy V->Hp->VK->Z3}
def ac4(f:PlainAttrs T)(c:Slot T name id)(e:typeOf (.builtin id)=pure (.type "method_descriptor"))(g:MtR X id r)(i:PE X o to)(a:attributeBase o name X.env (eval o X.env)=eval o X.env:=by rfl)(b:(apos.endLine==cpos.line)=Z1:=by rfl):PE X (.Call (.Attribute o name apos) [] [] cpos) (ahH X.K T r to):=by intro X4 s σ H Q I h;refine wpAny_Call_method0_late a b (thn (i X4 s σ H _ I h) λ v s1 ⟨x,H1,I1,r1,ty,q1⟩=>?_);let⟨h1,h2⟩:=Fp I1 r1 ty;exact{T,id,f,c,e,h1,h2,aly J<|PySem.evalArgs_none<|g X4 s1 σ H1 x [] v [] Q I1 r1 .nil q1}
def cK(l:PlainAttrs T)(g:Slot T name id)(i:typeOf (.builtin id)=pure (.type "method_descriptor"))(m:MtR X id r)(p:PE X o to)(n:PA X (e::es) t)(b:attributeBase o name X.env (eval o X.env)=eval o X.env:=by rfl)(f:((backTo cpos (starEach (e::es) X.env)).all (λx=>!x.1) &&(backToKw cpos (keywordEach [] X.env)).all (λx=>x.1.isSome)
   && decide ((e::es).length +([]:fy Keyword).length +(if ([]:fy Keyword).isEmpty then 0 else 1)<30))=Z1:=by rfl)(c:(apos.endLine==cpos.line)=Z1:=by rfl)(hs:starEach (e::es) X.env =(Z2,eval e X.env)::starEach es X.env:=by rfl)(a:(backTo cpos (starEach es X.env)).any (·.1)=Z2:=by rfl) :
  PE X (.Call (.Attribute o name apos) (e::es) [] cpos) (tBM X.K T r to t):=by
 intro X4 s σ H Q I h;refine wpAny_Call_method_late b f c J (thn (p X4 s σ H _ I h) λ v s1 ⟨x,H1,I1,r1,ty,q1⟩=>?_);let⟨h1,h2⟩:=Fp I1 r1 ty;exists T,id,l,g,i,h1,h2;let j:=n cpos X4 s1 σ H1 _ I1 q1;rw[hs] at j ⊢;refine aly (by show(Z2 ||(backTo cpos<|starEach es X.env).any (·.1))=Z2;rw[a] <;> rfl)<|Calls.evalArgs_plain ?_;exact thn j λ us s2 ⟨vs,H2,I2,r2,q2⟩=>m X4 s2 σ H2 x vs v us Q I2 r1 r2 q2
end
def MtM(X:Cx)(id:String)(r:V->fy V->Hp->VK->Z3):Z3:=
 ∀(X4:fy (jl×Obj))(s:q8)(σ:St)(H:Hp)(x:V)(xs:fy V)(v:mu)(us:fy mu)(Q:VK),Inv X X4 σ H s->RelV x v->Vals xs us->r x xs H Q →
  wpAny (model X.prog X.w) X.A (call (.builtin id) (v::us)) (EP X X4 σ Q) X.xe s
def Vals.one:∀{x:V}{us:fy mu},Vals [x] us->∃u,us=[u]/\RelV x u
 |_,_,.cons r .nil=>{1,r}
def Vals.zero:∀{us:fy mu},Vals [] us->us=[]
 |_,.nil=>rfl
def Vals.dropLast{xs:fy V}{us:fy mu}(h:Vals xs us):Vals xs.dropLast us.dropLast:=by
 induction h with
 |nil=>exact .nil
 |cons r t a=>
  cases t with
  |nil=>exact .nil
  |cons q t'=>exact .cons r a
def Vals.rep{xs:fy V}{us:fy mu}(h:Vals xs us):∀k:Z5,Vals (List.replicate k xs).flatten (List.replicate k us).flatten
 |0=>.nil
 |k+1=>by rw[akF,akF,alr,alr];exact Vals.append h<|Vals.rep h k
def DV{α:Type}(l:fy α):l.eraseIdx (l.length-1)=l.dropLast:=by
 induction l with
 |nil=>rfl
 |cons a r c=>
  cases r with
  |nil=>rfl
  |cons b r=>
   let e:(a::b::r).length-1 =((b::r).length-1)+1:=by let h1:(a::b::r).length=r.length+2:=rfl;let h2:(b::r).length=r.length+1:=rfl;omega
   rw[e,List.eraseIdx_cons_succ,c]
   all_goals rfl
def foldl_rep(C5:fy mu):∀(k:Z5)(acc:fy mu),
  List.foldl (λa c=>a++c) acc.toArray (List.replicate k C5.toArray) =(acc ++(List.replicate k C5).flatten).toArray
 |0,acc=>by simp
 |k+1,acc=>by
  let e:acc.toArray++C5.toArray =(acc++C5).toArray:=by simp
  let b:(acc++C5) ++(List.replicate k C5).flatten=acc ++(List.replicate (k+1) C5).flatten:=by rw[akF,alr,aky]
  rw[←b,←foldl_rep C5 k (acc++C5),←e,akF,amE]
section
variable{X:Cx}{X4:fy (jl×Obj)}{σ:St}{H:Hp}{s:q8}{l b:jl}{xs ys zs:fy V}
def Inv.Er{C5 its':fy mu}{n:Z5}{f:sA mu->sA mu}{t':Z5}(I:Inv X X4 σ H s)(c:H l=some (.lst xs))(e:s.heap.get? l=some {.type "list",Z0,.seq C5.toArray n,#[]})(a:f C5.toArray=its'.toArray)(i:Vals ys its')(g:ys.length≤Z7) :
  Inv X X4 σ (Z9 H l (.lst ys)) {s with heap:=s.heap.update l (Obj.mapSeq f),toks:=t'}:=by
 let q:=PySem.IsL.update e f;rw[a] at q;refine I.write (x:=l) (e:=l) (by rw[c];exact trivial) (.inl J) (λj u b h=>(ajA s.heap (Obj.mapSeq f)<|ajH b).trans h) {_,q} ?_;exact{g,its',_,i,q}
def Inv.RX{C5:fy mu}{t':Z5}(I:Inv X X4 σ H s)(b:Vals ys C5)(a:ys.length≤Z7) :
  Inv X X4 σ (Z9 H (~~~s) (.lst ys)) {s with heap:=s.heap.push {.type "list",Z0,.seq C5.toArray,#[]},toks:=t'}:=
 I.laid (λ_ _ q=>aiI _ q) (aiL _) {a,C5,(0),b,aiW _ J}
def Inv.fresh(I:Inv X X4 σ H s):H (~~~s)=Z0:=I.hok.fresh<|aiL _
def Inv.mD(I:Inv X X4 σ H s)(a:H l=some (.lst xs)):xs.length≤Z7/\∃(C5:fy mu)(n:Z5),Vals xs C5/\xs.length=C5.length/\s.heap.get? l=some {.type "list",Z0,.seq C5.toArray n,#[]}:=by let⟨z,C5,n,r,e⟩:=I.hok l _ a;exact⟨z,C5,n,r,r.length,e⟩
def AO{n:Z5}(h:n≤Z7):Builtin.List.listTooLong n=Z2:=by unfold Builtin.List.listTooLong;exact aiX o6
end
section
variable{X:Cx}
inductive CO(x:V)(vs:fy V)(H:Hp)(Q:VK):Z3
 |m l xs y(_:x=.ref l)(_:vs=[y])(_:H l=some (.lst xs))(_:xs.length<Z7)(_:Q .non (Z9 H l (.lst (xs++[y]))))
def cC:MtM X "list.append" CO:=by intro X4 s σ H x vs v us Q I b c h;let⟨l,xs,y,rfl,rfl,a,i,q⟩:=h;cases b;let⟨u,rfl,f⟩:=c.one;let⟨z,C5,n,r,g,e⟩:=I.mD a;refine akJ F.slot_list_append {_,e,J} F.entry_list_append (F.args_list_append_2 _ _) (PySem.list_append l C5.toArray n u (by rw[ai3];omega)) {e,?_};refine{.non,_,I.Er (its':=C5++[u]) a e o8 (r.append<|.cons f .nil) ?_,J,q};rw[aji,List.length_singleton];omega
inductive CF(x:V)(vs:fy V)(H:Hp)(Q:VK):Z3
 |m l b xs zs(_:x=.ref l)(_:vs=[.ref b])(_:H l=some (.lst xs))(_:H b=some (.lst zs))(_:xs.length+zs.length≤Z7)(_:Q .non (Z9 H l (.lst (xs++zs))))
def rZ:MtM X "list.extend" CF:=by
 intro X4 s σ H x vs v us Q I j i h;let⟨l,b,xs,zs,rfl,rfl,f,o,B,q⟩:=h;cases j;let⟨u,rfl,p⟩:=i.one;cases p;let⟨z,C5,n,r,A,e⟩:=I.mD f;let⟨y,a,t,r2,g,m⟩:=I.mD o;let hsz:C5.toArray.size+a.toArray.size≤Z7:=by rw[ai3,ai3];omega
 let c:¬(!C5.toArray.isEmpty&&Builtin.List.listTooLong (C5.toArray.size+a.toArray.size))=Z1:=by rw[AO hsz,Bool.and_false];exact ai4
 refine akJ F.slot_list_extend {_,e,J} F.entry_list_extend (F.args_list_extend_2 _ _)
  (AutoSeq1.list_extend_list_list_0 l C5.toArray n b a.toArray t c (by rw[ai3];omega) o6) {e,m,?_}
 refine{.non,_,I.Er (its':=C5++a) f e o8 (r.append r2) ?_,J,q};rw[aji];omega
inductive aaH(x:V)(vs:fy V)(H:Hp)(Q:VK):Z3
 |m l xs y(_:x=.ref l)(_:vs=[])(_:H l=some (.lst xs))(_:xs[xs.length-1]?=some y)(_:Q y (Z9 H l (.lst xs.dropLast)))
def Xd:MtM X "list.pop" aaH:=by
 intro X4 s σ H x vs v us Q I f g h;let⟨l,xs,y,rfl,rfl,c,m,q⟩:=h;cases f;let b:=g.zero;subst b;let⟨z,C5,n,r,i,e⟩:=I.mD c;let⟨u,o,j⟩:=r.get m;let a:C5.toArray[C5.toArray.size-1]?=some u:=by show C5.toArray[C5.length-1]?=some u;rwa[←ajI,←i]
 refine akJ F.slot_list_pop {_,e,J} F.entry_list_pop (F.args_list_pop_1 _) (MeetsSeq.list_pop_last l C5.toArray n u a (by rw[ai3];omega)) {e,?_};refine{y,_,I.Er (its':=C5.dropLast) c e ?_ r.dropLast ?_,j,q}
 .show C5.toArray.eraseIdxIfInBounds (C5.toArray.size-1)=C5.dropLast.toArray;rw[ai3,List.eraseIdxIfInBounds_toArray,DV]
 .rw[am1];omega
inductive YJ(x:V)(y:V)(H:Hp)(Q:VK):Z3
 |m l b xs zs(_:x=.ref l)(_:y=.ref b)(_:H l=some (.lst xs))(_:H b=some (.lst zs))(_:xs.length+zs.length≤Z7)(_:∀p,H p=Z0->Q (.ref p) (Z9 H p (.lst (xs++zs))))
def oO:OpR X (binaryOp .Add) YJ:=by
 intro X4 s σ H x y v u Q I f j h;let⟨l,b,xs,zs,rfl,rfl,o,m,A,q⟩:=h;cases f;cases j;let⟨z,C5,n,r,t,e⟩:=I.mD o;let⟨p,a,B,r2,c,i⟩:=I.mD m;refine PySem.P.add_list e i ?_ (by rw[ai3,ai3];omega);let g:C5.toArray++a.toArray =(C5++a).toArray:=by simp
 rw[g];exact{.ref _,_,I.RX (t':=s.toks) (r.append r2) (by rw[aji];omega),J,q _ I.fresh}
inductive acf(x:V)(y:V)(H:Hp)(Q:VK):Z3
 |m l k xs(_:x=.ref l)(_:y=.int k)(_:H l=some (.lst xs))(_:-(2 ^ 63)≤k)(_:k<2 ^ 63)(_:xs.length*k.toNat≤Z7)(_:∀p,H p=Z0->Q (.ref p) (Z9 H p (.lst (List.replicate k.toNat xs).flatten)))
def len_rep{α:Type}(xs:fy α)(k:Z5):(List.replicate k xs).flatten.length=k*xs.length:=by
 induction k with
 |zero=>simp
 |succ k a=>rw[akF,alr,aji,a,Nat.succ_mul,Nat.add_comm]
def VO:OpR X (binaryOp .Mult) acf:=by
 intro X4 s σ H x y v u Q I A C h;let⟨l,k,xs,rfl,rfl,L,h1,h2,p,q⟩:=h;cases A;let⟨t,rfl⟩:=C;let⟨z,C5,n,r,B,e⟩:=I.mD L;let g:C5.toArray.size*k.toNat≤Z7:=by rwa[ai3,←B]
 let c:¬C5.toArray.size*k.toNat >(2 ^ 63-1) / 8:=by
  let:(Z7:Z5)≤(2 ^ 63-1) / 8:=by decide
  omega
 let i:¬(!Builtin.List.listFitsIndex k)=Z1:=by rw[fitsIndex_both h1 h2];exact ai4
 let b:¬Builtin.List.listTooLong (C5.toArray.size*k.toNat)=Z1:=by rw[AO g];exact ai4
 let f:List.foldl (λj o=>j++o) #[] (List.replicate (if C5.toArray.isEmpty=Z1 then 0 else k.toNat) C5.toArray) =(List.replicate k.toNat C5).flatten.toArray:=by
  let f0:∀m:Z5,List.foldl (λj o=>j++o) #[] (List.replicate m C5.toArray) =(List.replicate m C5).flatten.toArray:=λm=>by let:=foldl_rep C5 m [];rwa[List.nil_append] at this
  rw[f0];cases C5 with
  |nil=>simp
  |cons a O=>rw[aiJ o8]
 refine wpAny_binaryOp_repeat_ref (T:="list") (U:="int") o7 {_,e,J} (λs'=>typeIs_int s' k t) noFill_list_mul F.fills_int_mul F.slot_int_rmul repeat_list F.slot_int_index.lookup
  (akJ F.slot_int_rmul (typeIs_int s k t) F.entry_int_rmul (F.args_int_rmul_2 _ _) (int___rmul___int_list k t l C5.toArray n)
   {e,J,{_,e,J},akJ F.slot_list_mul {_,e,J} F.entry_list_mul (F.args_list_mul_2 _ _) (AutoListH.list___mul___list_int_3 l C5.toArray n k t i c b) {e,?_}})
 rw[f];exact{.ref _,_,I.RX (t':=s.toks) (r.rep k.toNat) (by rwa[len_rep,Nat.mul_comm]),J,q _ I.fresh}
end
section
variable{prog:t6}{w:t7}{A:Around}{E:mu->q8->Z3}{s:q8}
set_option maxRecDepth 100000 in
end
end L2
namespace Att
open PySem PySem.W PySem.Calls PyProof.Rows
def wH{P:Params}{h:Heap}:∀(ns:fy Z4)(vs:fy mu),WellAll P h vs (ns.map WData.int)->IntsAre vs ns:=by
 intro ns
 induction ns with
 |nil=>intro vs w;rw[ak8] at w;cases w;exact .nil
 |cons n ns c=>
  intro vs w;rw[ajh] at w;cases w with
  |cons a b=>cases a;exact .cons _ _<|c _ b
def GD{l:OpenLaw}{n:Z5}(hn:l.most=some n){P:Params}{h:Heap}{args:fy WData}{b:fy mu}(c:l.row.toRowW.claim.pre args=Z1)(g:WellAll P h b args) :
  ∃a vs ns,b=[Value.ref a]/\args=[WData.list (ns.map WData.int)]/\h.get? a=some {.type "list",Z0,.seq vs.toArray,#[]}/\IntsAre vs ns/\ns.length≤n:=by
 let i:WShape.hasAll [] args [.list .int]=Z1:=(pre_splitW c).1;let j:l.pre.holds [] {args:=args}=Z1:=(pre_splitW c).2;let⟨d,r,rfl,h1,h2⟩:=hasAllW_cons i;obtain rfl:=hasAllW_nil h2;let⟨xs,rfl,h3⟩:=hasW_list h1;let⟨ns,rfl⟩:=items_int h3;let f:ns.length≤n:=by
  unfold OpenLaw.pre at j;let h4:(WTm.not (.lt (.lit (.int ↥n)) (.len (.arg 0)))).holds [] {args:=[.list (ns.map .int)]}=Z1:=by let h4:=(holds_andW j).1;rwa[hn] at h4
  let h5:=condW_of h4<|w_not<|w_lt w_lit<|w_len_list<|w_arg J;rw[aiE] at h5;refine alD λq=>?_
  let m:↥n <((ns.length:Z5):Z4):=by omega
  first
   |(rw[aiS m] at h5;exact absurd h5 o7)
   |(simp at h5;omega)
 cases g with
 |cons o p=>
  cases p;cases o with
  |list s e=>exact{_,_,ns,J,J,s,wH ns _ e,f}
def Fg(l:OpenLaw)(args:fy WData):l.row.toRowW.claim.post args (.bool Z1) args=Z1:=
 postW_of (r:=l.row.toRowW) (X:=(Z1==Z1))
  (show WShape.has [] (.bool Z1) .bool=Z1 by first|rfl|decide|simp[WShape.has,WShape.arms,WShape.armsAll])
  (show(WTm.eq .res<|.lit<|.bool Z1).value [] {args:=args,res:=some<|.bool Z1,after:=args}=some (.bool (Z1==Z1)) from w_eq_bool (w_res J) w_lit) J
def Bw{l:OpenLaw}{n:Z5}{q:t6}{c:fy Z6}{B:(Z6->nt mu)->Heap->Z3}{z:t7->Heap->Z3}{d:DefRec}(hn:l.most=some n)(p:d.params.defaults=[])(call:∀(w:t7)(s₀ b:q8)(mg t:Z6->nt mu)(m:jl)(o:Obj)(v cd e:mu)(a:jl)(vs:fy mu)(ns:fy Z4),
   Ground q c [] B w s₀ mg t b.heap->z w b.heap →
   b.heap.get? m=some o->o.data=.func (docDef d.name d.params d.body d.scope v cd e)->b.heap.CodeRec cd d.name->mg d.name=some (.ref m) →
   b.heap.get? a=some {.type "list",Z0,.seq vs.toArray,#[]}->IntsAre vs ns->ns.length≤n->b.gens=#[] →
   codeAny (model l.prog w) callerA (.call (.ref m) {[.ref a],[]}) (λr s'=>r=.ok (.ret (.bool Z1))/\OldK b.heap s'.heap/\s'.os=b.os/\AllBare s'.gens) b) :
  WalkO q c B z l.row.toRowW d [] (λf vs=>PySem.call f vs):=by
 intro w s₀ b mg t G Y m o v cd e dV kV ho L u C s S args A as j y H x O;obtain rfl:dV=.none:=Dflts.none C p;obtain rfl:kV=.none:=Dflts.noKw C;let⟨a,vs,ns,rfl,rfl,h,g,i⟩:=GD hn j x;refine enter_call (akR (call w s₀ b mg t m o v cd e a vs ns G Y ho (fd_plain L) u s h g i S) λr s' F=>?_);let⟨rfl,h2,h3,h4⟩:=F;exact{.inl {.bool Z1,.bool Z1,[],J,λ_=>rfl,.bool Z1,Fg l _,λ_=>{List.Pairwise.nil,λ_ U=>(nomatch U)}},h2,h3,h4}
section
variable{prog:t6}{w:t7}{A:Around}{E:mu->q8->Z3}{s:q8}{K:Frag}
def ledger(h:Heap)(L d:jl):fy (jl×Obj):=(List.range h.objs.size).filterMap λa=>if a=L∨a=d then Z0 else(h.get? a).map λo=>(a,o)
end
end Att
namespace L2
open PySem PySem.Spec PyProof.Rows
def yV:∀{vs:fy mu}{ns:fy Z4},IntsAre vs ns->Vals (ns.map Z8) vs
 |_,_,.nil=>.nil
 |_,_,.cons n t h=>.cons ⟨t,J⟩<|yV h
def Im(H:Hp):Z3:=∀b,H b=Z0∨∃o xs,H b=some (.frz o<|.lst xs)
def G8{P:t6}{w:t7}{K:Frag}{mg Y:Z6->nt mu}{CX:CXT}{k:Z5}{fa a:jl}{fd:q9}{x:Z6}{sp:Sp}{s₁:q8}{vs:fy mu}{ns:fy Z4}(KX:K.In s₁.heap)(p:s₁.heap.Ns mainGlobals mg)(f:s₁.heap.Ns builtinsNs Y)(U:∀x:Z6,x≠"__name__"->Y x=bootBuiltins x)(y:s₁.heap.NoLimit)(hg:s₁.gens=#[])(O:s₁.heap.get? a=some {.type "list",Z0,.seq vs.toArray,#[]})(hi:IntsAre vs ns)(hl:ns.length≤Z7)(hr:cH k callerA)(F:∀base:Heap,K.In base->base.Ns mainGlobals mg->aM P w K mg base CX k fa fd [x] sp)(j:∀(s:q8)(u:mu),BindsTo s fd {[u],[]} [(x,u)])(a1:∀H:Hp,Im H->X0 K H a (ns.map Z8)->sp [.ref a] H (λv _=>v=.bl Z1) λ_ _ _=>False)(a0:∀H e s',CX [] H s₁ (λ_ _ _=>False) e s'->False) :
  codeAny (model P w) callerA (.call (.ref fa) {[.ref a],[]}) (λr s'=>r=.ok (.ret (.bool Z1))/\OldK s₁.heap s'.heap/\s'.os=s₁.os/\AllBare s'.gens) s₁:=by
 let rv:=yV hi;let L:=hi.length;let i:∀H:Hp,Im H->X0 K H a (ns.map Z8)->HOk P w H s₁.heap->(∀b,H b≠Z0->b=a)->(H a≠Z0->K.lookup a=Z0) →
   codeAny (model P w) callerA (.call (.ref fa) {[.ref a],[]}) (λr s'=>r=.ok (.ret<|.bool Z1)/\OldK s₁.heap s'.heap/\s'.os=s₁.os/\AllBare s'.gens) s₁:=by
  intro H hO hS C hA hK;let c:∀{b:jl}{o:Obj},s₁.heap.get? b=some o->H b=Z0->(pU s₁.heap H).get? b=some o:=λe n=>GY e n
  let S:∀{b:jl}{o:Obj}{es:sA DictEntry}{ep:Z5},s₁.heap.get? b=some o->o.data=.dict es ep->H b=Z0:=λ{b o es ep}e d=>by
   cases q:H b with
   |none=>rfl
   |some u=>have e':b=a:=hA b (by rw[q];simp);subst e';rw[O] at e;cases e;let d':Data.seq vs.toArray _=Data.dict es ep:=d;cases d'
  let g:∀{b:jl}{m:Z6->nt mu},s₁.heap.Ns b m->(pU s₁.heap H).Ns b m:=λ {b m} ⟨o,es,ep,e,d,r⟩=>{o,es,ep,c e<|S e d,d,r}
  let t:K.In (pU s₁.heap H):=λb o e=>c (KX b o e) (by
   cases q:H b with
   |none=>rfl
   |some u=>have e':b=a:=hA b (by rw[q];simp);subst e';rw[hK (by rw[q];simp)] at e;cases e)
  let hM:Mod K mg (pU s₁.heap H):={t,g p,{Y,g f,U},let ⟨mc,h1,h2⟩:=y;{mc,g h1,h2}};let e0:uc P w K mg (pU s₁.heap H) callerA [] s₁ H:={J,hM,λb o e=>Qx e,ak6<|Gv _ _,trivial,λb f=>absurd (show b∈([]:fy jl) from f) o8,C,.of_eq hg};refine akR ((F _ t<|g p).run callerA [] s₁ H {[.ref a],[]} [.ref a] [.ref a] _ _ hr e0 (j s₁<|.ref a) (.cons J .nil)<|a1 H hO hS) λr s' h=>?_
  cases r with
  |error e=>exact(a0 H e s' h).elim
  |ok fl=>
   cases fl with
   |next=>exact False.elim h
   |brk=>exact False.elim h
   |cont=>exact False.elim h
   |ret u=>
    let⟨v,H',os,A,un,B,r',q⟩:=h;let q':v=.bl Z1:=q;subst q';obtain rfl:u=Value.bool Z1:=r';refine{J,OldK.of_keep λb o e=>?_,os,A};cases q:H b with
    |none=>exact un.keep b o e q (by intro z;exact absurd (show b∈([]:fy jl) from z) o8) o8
    |some u=>
     rcases hO b with z|⟨ob,xs,z⟩
     .rw[q] at z;cases z
     .let z2:=un.qq b ob _ z;let⟨e1,_⟩:=C b _ z;let⟨e2,_⟩:=B b _ z2;rw[e] at e1;cases e1;exact e2
 cases hk:K.lookup a with
 |some o=>have e:=KX a o hk;rw[O] at e;cases e;refine i (λ_=>Z0) (λ_=>.inl J) (.inr {_,vs.toArray,_,hk,J,J,J,by rwa[ai3,L],⇑rv}) (λb u z=>by let l:(Z0:nt HO)=some u:=z;cases l) (λb z=>absurd J z) λz=>absurd J z
 |none=>
  refine i (λb=>if b=a then some (.frz {.type "list",Z0,.seq vs.toArray,#[]}<|.lst<|ns.map Z8) else Z0) (λb=>?_) (.inl<|.inr {{.type "list",Z0,.seq vs.toArray,#[]},aiN J}) (λb u z=>?_) (λb z=>?_) λ_=>hk
  .by_cases f:b=a
   .exact .inr {_,_,aiN f}
   .exact .inl (aiJ f)
  .by_cases f:b=a
   .let l:=(aiN f).symm.trans z;cases l;subst f;exact{O,by rwa[aiE],vs,_,rv,O}
   .let l:=(aiJ f).symm.trans z;cases l
  .by_cases f:b=a
   .exact f
   .exact absurd (aiJ f) z
abbrev KOf{K:Frag}{h:Heap}(_:K.In h):Frag:=K
def QD{l:OpenLaw}{n k:Z5}{q:t6}{j:fy Z6}{XP:(Z6->nt mu)->Heap->Z3}{L:t7->Heap->Z3}{d:DefRec}{K:Params->Frag}{CX:t7->CXT}{sp:t7->Sp}{x:Z6}(hn:l.most=some n)(z:n≤Z7)(t:d.params.defaults=[])(S:cH k callerA)(hY:∀(w:t7)(h:Heap),L w h->(K w.params).In h)(F:∀(w:t7)(mg:Z6->nt mu)(r:jl)(h:Heap),(K w.params).In h->h.Ns mainGlobals mg->mg d.name=some (.ref r) →
   ∃fd:q9,(∀(s:q8)(u:mu),BindsTo s fd {[u],[]} [(x,u)])∧
    ∀base:Heap,(K w.params).In base->base.Ns mainGlobals mg->aM l.prog w (K w.params) mg base (CX w) k r fd [x] (sp w))(B:∀(w:t7)(H:Hp)(a:jl)(ns:fy Z4),ns.length≤n->Im H->X0 (K w.params) H a (ns.map Z8)->sp w [.ref a] H (λv _=>v=.bl Z1) λ_ _ _=>False)(A:∀(w:t7)(H:Hp)(s:q8)(e:mu)(s':q8),CX w [] H s (λ_ _ _=>False) e s'->False) :
  WalkO q j XP L l.row.toRowW d [] (λf vs=>PySem.call f vs):=by
 refine Att.Bw hn t λw s₀ m mg mb r o pm cd O a vs ns G Y ho hd a0 y p i c hg=>?_
 let C:=hY w _ Y;let⟨fd,hb,U⟩:=F w mg r _ C G.T.g y;exact G8 C G.T.g G.T.b G.T.builtins G.T.nolimit hg p i (ai9 c z) S U hb (λH hO hS=>B w H a ns c hO hS) λH e s'=>A w H m e s'
end L2
namespace L2
open PySem PySem.Spec PyProof.Rows
def inClass(s:Stmt)(j:Z5):Stmt:=match s with
 |.ClassDef _ _ _ a _ _ _ _ _ _ _=>a.getD j<|.Pass {(0),(0),(0),(0)}
 |_=>.Pass {(0),(0),(0),(0)}
def fz(s:Stmt):Arguments:=match s with
 |.FunctionDef _ a _ _ _ _ _ _ _ _=>a
 |_=>{posonlyargs:=[],args:=[],vararg:=Z0,kwonlyargs:=[],kw_defaults:=[],kwarg:=Z0,defaults:=[]}
def dj(s:Stmt):fy Stmt:=match s with
 |.FunctionDef _ _ b _ _ _ _ _ _ _=>b
 |_=>[]
def ay(s:Stmt):Scope:=match s with
 |.FunctionDef _ _ _ _ _ _ a _ _ _=>a
 |_=>{kind:=.function,names:=[],isGenerator:=Z2,isCoroutine:=Z2}
abbrev E0:XK:=λ_ _ _=>False
structure Fun(K:Frag)(x qual:Z6)(st:Stmt)(f:jl)(fd:q9):Z3 where
 ex:∃(oc:mu)(od:nt jl)(kV doc pm:mu)(an:nt jl)(cdv ct:mu)(osl:sA (nt mu)),
  fd=fnOf x qual (fz st) (dj st) (ay st) .none kV doc pm an cdv ct/\K.lookup f=some {oc,od,.func fd,osl}/\codeIn K cdv qual=Z1
 kp:keepIn K (.ref f)=Z1
section
variable{P:t6}{w:t7}{K:Frag}{mg:Z6->nt mu}{base:Heap}
def Fun.binds{x qual:Z6}{st:Stmt}{f:jl}{fd:q9}{ps:fy Z6}(F:Fun K x qual st f fd)(h:∀(kV a e:mu)(c:nt jl)(b ct:mu)(us:fy mu),us.length=ps.length->bindArgs (fnOf x qual (fz st) (dj st) (ay st) .none kV a e c b ct) {us,[]}=pure (ps.zip us)):Binds K fd ps []:=by let⟨j,od,kV,a,e,c,b,ct,g,rfl,l,i⟩:=F.ex;exact .all<|h kV a e c b ct
def abI{x qual:Z6}{st:Stmt}{f:jl}{i:mu}{od g:nt jl}{e:sA (nt mu)}{kV b h a ct:mu}(l:K.lookup f=some {i,od,.func (fnOf x qual (fz st) (dj st) (ay st) .none kV b h g a ct),e})(c:codeIn K a qual=Z1)(k:keepIn K (.ref f)=Z1):Fun K x qual st f (fnOf x qual (fz st) (dj st) (ay st) .none kV b h g a ct):={⟨i,od,kV,b,h,g,a,ct,e,J,l,c⟩,k}
end
def kh{A:Around}{k:Z5}(a:cH k A):A.units+1<cLine:=akl (Nat.add_le_add_left (by decide:1≤64) _) a.units
def aF{n:Z5}(h:n≤1000):n<Z7:=akl h o7
section
variable{X:Cx}
def pv(i:Z5){x:Z6}{pos:Pos}(b:X.N[i]?=some x:=by rfl)(e:Vis X.env.scope x:=by first|exact Or.inl rfl|exact Or.inr (Or.inl J)|exact Or.inr (Or.inr J))(c:(x ==("__debug__":Str))=Z2:=by decide)(a:(x ==("__classdict__":Str))=Z2:=by decide):PE X (.Name x pos) (HN i):=acJ b e c a
end
def fR{A B:Z3}(h:B):if Z2=Z1 then A else B:=by rwa[aiJ ai4]
def fS{A B:Z3}(h:A):if Z1=Z1 then A else B:=by rwa[aiN rfl]
def xu{c A B:Z3}[Decidable c](h1:c->A)(h2:¬c->B):if c then A else B:=by
 by_cases h:c
 .rw[aiN h];exact h1 h
 .rw[aiJ h];exact h2 h
def zA{c A B:Z3}[Decidable c](a:c)(h:B):if (!decide c)=Z1 then A else B:=by rw[aiS a];exact fR h
def aj(H H':Hp):Z3:=∀b o,H b=some o->H' b=some o
def aj.refl(H:Hp):aj H H:=λ_ _ h=>h
def aj.trans{H H1 H2:Hp}(a:aj H H1)(b:aj H1 H2):aj H H2:=λc o h=>b c o<|a c o h
def aj.free{H H':Hp}(e:aj H H'){l:jl}(h:H' l=Option.none):H l=Option.none:=by
 cases q:H l with
 |none=>rfl
 |some o=>rw[e l o q] at h;cases h
def aj.seq{K:Frag}{H H':Hp}{a:jl}{xs:fy V}(e:aj H H')(h:X0 K H a xs):X0 K H' a xs:=by
 rcases h with(h|⟨o,h⟩)|h
 .exact .inl (.inl<|e _ _ h)
 .exact .inl (.inr {o,e _ _ h})
 .exact .inr h
end L2
set_option maxHeartbeats 4000000
namespace L2
open PySem PySem.Spec PyProof.Rows
section
variable{κ:Type}[DecidableEq κ]
def bD(C4:fy (κ×V))(k:κ):nt V:=(C4.find? λa=>decide (a.1=k)).map (·.2)
def putK(C4:fy (κ×V))(k:κ)(v:V):fy (κ×V):=
 if (C4.any λa=>decide (a.1=k))=Z1 then C4.map (λa=>if a.1=k then(a.1,v) else a) else C4++[(k,v)]
def Ih{k:κ}:bD ([]:fy (κ×V)) k=Z0:=rfl
def dY{p:κ×V}{r:fy (κ×V)}{k:κ}(e:p.1=k):bD (p::r) k=some p.2:=by simp[bD,List.find?_cons,e]
def dX{p:κ×V}{r:fy (κ×V)}{k:κ}(e:¬p.1=k):bD (p::r) k=bD r k:=by simp[bD,List.find?_cons,e]
def gO(k:κ):∀C4:fy (κ×V),(C4.any λa=>decide (a.1=k)) =(bD C4 k).isSome
 |[]=>rfl
 |p::r=>by
  rw[akX];by_cases e:p.1=k
  .simp only[dY e,decide_eq_true e,Bool.true_or,Option.isSome_some]
  .rw[dX e,aiX e,Bool.false_or];exact gO k r
def A9(k j:κ)(y:V):∀C4:fy (κ×V),bD (C4.map λa=>if a.1=k then(a.1,y) else a) j =(bD C4 j).map λx=>if j=k then y else x
 |[]=>rfl
 |p::r=>by
  let b:=A9 k j y r;rw[ajh];by_cases h:p.1=k
  .rw[aiN h];by_cases e:p.1=j
   .rw[dY (p:=(p.1,y)) e,dY e,alM,aiN<|e.symm.trans h]
   .rw[dX (p:=(p.1,y)) e,dX e,b]
  .rw[aiJ h];by_cases e:p.1=j
   .rw[dY (p:=p) e,dY e,alM,aiJ λz=>h<|e.trans z]
   .rw[dX (p:=p) e,dX e,b]
def yK(k j:κ)(y:V):∀C4:fy (κ×V),bD C4 k=Z0->bD (C4++[(k,y)]) j=if j=k then some y else bD C4 j
 |[],_=>by
  by_cases e:k=j
  .rw[aiN e.symm];exact dY (p:=(k,y)) e
  .rw[aiJ λz=>e z.symm];exact dX (p:=(k,y)) e
 |p::r,hn=>by
  rw[List.cons_append];let a:¬p.1=k:=λz=>by rw[dY z] at hn;cases hn
  rw[dX a] at hn;let b:=yK k j y r hn;by_cases e:p.1=j
  .rw[dY e,dY e,aiJ λz=>a<|e.trans z]
  .rw[dX e,dX e,b]
def cX(C4:fy (κ×V))(k j:κ)(y:V):bD (putK C4 k y) j=if j=k then some y else bD C4 j:=by
 unfold putK;by_cases a:(C4.any λc=>decide (c.1=k))=Z1
 .rw[aiN a,A9];rw[gO] at a;by_cases e:j=k
  .let⟨x,b⟩:=akB.mp a;rw[aiN e,e,b,alM,aiN rfl]
  .rw[aiJ e];cases bD C4 j with
   |none=>rfl
   |some x=>rw[alM,aiJ e]
 .rw[aiJ a];refine yK k j y C4 ?_;rw[gO] at a;cases q:bD C4 k with
  |none=>rfl
  |some x=>rw[q] at a;exact(a J).elim
def cU(C4:fy (κ×V))(k:κ)(v:V):(putK C4 k v).length≤C4.length+1:=by
 unfold putK;split
 .rw[aiE];omega
 .rw[aji,ajp,List.length_nil];omega
def Hl{C4:fy (κ×V)}{k:κ}(v:V)(h:bD C4 k=Z0):putK C4 k v=C4++[(k,v)]:=by unfold putK;rw[gO,h];exact aiJ o7
def gF.sF{o:nt V}{u:nt mu}(r:gF o u):o.isSome=u.isSome:=by
 cases o with
 |none=>cases u with
  |none=>rfl
  |some _=>exact(show False from r).elim
 |some _=>cases u with
  |none=>exact(show False from r).elim
  |some _=>rfl
def gF.getD{o:nt V}{u:nt mu}{d:V}{d':mu}(r:gF o u)(rd:RelV d d'):RelV (o.getD d) (u.getD d'):=by
 cases o with
 |none=>cases u with
  |none=>exact rd
  |some _=>exact(show False from r).elim
 |some _=>cases u with
  |none=>exact(show False from r).elim
  |some _=>exact r
def KV.val{C4:fy (κ×V)}{vs:fy (κ×mu)}(r:KV C4 vs)(k:κ):gF (bD C4 k) (valueAt vs k):=by
 unfold KV at r
 induction r with
 |nil=>exact True.intro
 |@cons p q ps qs h t ih=>
  let⟨h1,h2⟩:=h;by_cases e:p.1=k
  .let a:q.1=k:=h1.symm.trans e;let b:valueAt (q::qs) k=some q.2:=by simp[valueAt,List.find?_cons,a]
   rwa[dY e,b]
  .let a:¬q.1=k:=λz=>e (h1.trans z)
   let b:valueAt (q::qs) k=valueAt qs k:=by simp[valueAt,List.find?_cons,a]
   rwa[dX e,b]
def KV.any{C4:fy (κ×V)}{vs:fy (κ×mu)}(r:KV C4 vs)(k:κ):(C4.any λa=>decide (a.1=k))=vs.any λa=>decide (a.1=k):=by
 unfold KV at r
 induction r with
 |nil=>rfl
 |cons h t b=>rw[akX,akX,b,h.1]
def KV.repl{C4:fy (κ×V)}{vs:fy (κ×mu)}(r:KV C4 vs)(k:κ){y:V}{u:mu}(b:RelV y u) :
  KV (C4.map λa=>if a.1=k then(a.1,y) else a) (vs.map λa=>if a.1=k then(a.1,u) else a):=by
 unfold KV at r ⊢
 induction r with
 |nil=>exact .nil
 |@cons p q ps qs h t ih=>
  rw[ajh,ajh];refine .cons ?_ ih;let⟨h1,h2⟩:=h;by_cases e:p.1=k
  .rw[aiN e,aiN<|h1.symm.trans e];exact⟨h1,b⟩
  .rw[aiJ e,aiJ λz=>e<|h1.trans z];exact⟨h1,h2⟩
def KV.put{C4:fy (κ×V)}{vs:fy (κ×mu)}(r:KV C4 vs)(k:κ){y:V}{u:mu}(a:RelV y u):KV (putK C4 k y) (stored vs k u):=by
 unfold putK stored;rw[r.any k];by_cases e:(vs.any λb=>decide (b.1=k))=Z1
 .rw[aiN e,aiN e];exact r.repl k a
 .rw[aiJ e,aiJ e];exact Paired.snoc r ⟨J,a⟩
def KV.length{C4:fy (κ×V)}{vs:fy (κ×mu)}(r:KV C4 vs):C4.length=vs.length:=Paired.length r
end
def lg{P:t6}{w:t7}{k:Key}{u:mu}(r:RelV (kV k) u):(cu P w).is k u=Z1:=by
 cases k with
 |inl i=>let⟨t,e⟩:=(show ∃t,u=Value.int i t from r);subst e;exact BC P w i t
 |inr x=>let⟨t,e⟩:=(show ∃t,u=Value.str x t from r);subst e;exact BE P w x t
def yy{P:t6}{w:t7}:∀{a:fy Key}{us:fy mu},Vals (a.map kV) us->ItemsAre (cu P w) a us
 |[],_,r=>by rw[ak8] at r;cases r;exact .nil
 |k::a,_,r=>by
  rw[ajh] at r;cases r with
  |cons h t=>exact .cons (lg h)<|yy t
abbrev KT(H:Hp):fy (fy Key×V)->fy (fy Key×jl×mu)->Z3:=Paired λp q=>p.1=q.1/\H q.2.1=some (.tup<|p.1.map kV)/\RelV p.2 q.2.2
def KT.val{H:Hp}{C4:fy (fy Key×V)}{xs:fy (fy Key×jl×mu)}(r:KT H C4 xs)(k:fy Key):gF (bD C4 k) ((atKey xs k).map (·.2)):=by
 induction r with
 |nil=>exact True.intro
 |@cons p q ps qs h t ih=>
  let⟨h1,_,h2⟩:=h;by_cases e:p.1=k
  .let a:q.1=k:=h1.symm.trans e;let b:atKey (q::qs) k=some q.2:=by simp[atKey,List.find?_cons,a]
   rwa[dY e,b]
  .let a:¬q.1=k:=λz=>e (h1.trans z)
   let b:atKey (q::qs) k=atKey qs k:=by simp[atKey,List.find?_cons,a]
   rwa[dX e,b]
def KT.repl{H:Hp}{C4:fy (fy Key×V)}{xs:fy (fy Key×jl×mu)}(r:KT H C4 xs)(k:fy Key){y:V}{u:mu}(b:RelV y u) :
  KT H (C4.map λa=>if a.1=k then(a.1,y) else a) (xs.map (putAt k u)):=by
 induction r with
 |nil=>exact .nil
 |@cons p q ps qs h t ih=>
  rw[ajh,ajh];refine .cons ?_ ih;let⟨h1,h2,h3⟩:=h;unfold putAt;by_cases e:p.1=k
  .rw[aiN e,aiN<|h1.symm.trans e];exact⟨h1,h2,b⟩
  .rw[aiJ e,aiJ λz=>e<|h1.trans z];exact⟨h1,h2,h3⟩
def KT.put{H:Hp}{C4:fy (fy Key×V)}{xs:fy (fy Key×jl×mu)}(r:KT H C4 xs)(k:fy Key){b:jl}{y:V}{u:mu}(f:H b=some (.tup (k.map kV)))(a:RelV y u) :
  KT H (putK C4 k y) (storedH xs k b u):=by
 let e:(C4.any λc=>decide (c.1=k)) =(atKey xs k).isSome:=by rw[gO,(r.val k).sF,al7]
 unfold putK storedH;rw[e];by_cases q:(atKey xs k).isSome=Z1
 .rw[aiN q,aiN q];exact r.repl k a
 .rw[aiJ q,aiJ q];exact Paired.snoc r ⟨J,f,a⟩
def KT.keeps{H H':Hp}{C4:fy (fy Key×V)}{xs:fy (fy Key×jl×mu)}(r:KT H C4 xs)(a:∀b ys,H b=some (.tup ys)->H' b=some (.tup ys)):KT H' C4 xs:=
 Paired.Iq r λ_ _ z=>{z.1,a _ _ z.2.1,z.2.2}
section
variable{P:t6}{w:t7}{H:Hp}{h:Heap}{a:jl}
def Ny{u:HO}(ok:HOk P w H h)(e:Rd H a u):bK P w H h a u:=e.ok ok
def pZ{C4:fy (Key×V)}(ok:HOk P w H h)(e:Rd H a (.dK C4)):C4.length≤Z7/\(a==sysModules)=Z2/\∃vs,KV C4 vs/\h.DictOf (cu P w) a vs:=
 show bK P w H h a (.dK C4) from Ny ok e
def Ox{C4:fy (Key×V)}(ok:HOk P w H h)(e:H a=some (.dK C4)):C4.length≤Z7/\(a==sysModules)=Z2/\∃vs,KV C4 vs/\h.DictOf (cu P w) a vs:=pZ ok<|.inl e
def rT{b:fy Key}(ok:HOk P w H h)(e:H a=some (.tup (b.map kV))):(tupleKind (cu P w)).is h b a:=by let⟨_,C5,r,o,h1,h2,n,h3⟩:=(show bK P w H h a (.tup<|b.map kV) from ok a _ e);exact{o,C5.toArray,n,h1,h2,h3,⇑(yy r)}
def sQ{C4:fy (fy Key×V)}(ok:HOk P w H h)(e:Rd H a (.dT C4)):C4.length≤Z7/\(a==sysModules)=Z2∧
  ∃xs,KT H C4 xs/\h.DictOfH (tupleKind (cu P w)) a xs:=by
 let⟨z,y,xs,r,o,es,ep,h1,h2,h3,h4,h5⟩:=(show bK P w H h a (.dT C4) from Ny ok e);refine{z,y,xs,r,o,es,ep,h1,h2,h3,h4,λx b=>?_,h5};let all:∀{l:fy (fy Key×V)}{m:fy (fy Key×jl×mu)},KT H l m->∀ x∈m,(tupleKind (cu P w)).is h x.1 x.2.1:=by
  intro l m q
  induction q with
  |nil=>intro x b;exact nomatch b
  |@cons p q ps qs hq t ih=>
   intro x b;rcases aiU.mp b with e|b
   .subst e;exact rT ok (by rw[←hq.1];exact hq.2.1)
   .exact ih x b
 exact all r x b
def adx{C4:fy (fy Key×V)}(ok:HOk P w H h)(e:H a=some (.dT C4)):C4.length≤Z7/\(a==sysModules)=Z2∧
  ∃xs,KT H C4 xs/\h.DictOfH (tupleKind (cu P w)) a xs:=sQ ok<|.inl e
end
def gG(H:Hp)(a:jl)(y:V)(r:nt V):Z3:=
 (∃C4 k,Rd H a (.dK C4)/\y=kV k/\r=bD C4 k)∨∃C4 k b,Rd H a (.dT C4)/\y=.ref b/\H b=some (.tup<|k.map kV)/\r=bD C4 k
def jO(H:Hp)(a:jl)(y v:V)(H':Hp):Z3:=
 (∃C4 k,H a=some (.dK C4)/\y=kV k/\C4.length<Z7/\H'=Z9 H a (.dK<|putK C4 k v))∨
 ∃C4 k b,H a=some (.dT C4)/\y=.ref b/\H b=some (.tup<|k.map kV)/\C4.length<Z7/\H'=Z9 H a (.dT<|putK C4 k v)
def gG.k{H:Hp}{a:jl}{C4:fy (Key×V)}{k:Key}(e:H a=some (.dK C4)):gG H a (kV k) (bD C4 k):=.inl {C4,k,.inl e,J,J}
def jO.k{H:Hp}{a:jl}{C4:fy (Key×V)}{k:Key}{v:V}(e:H a=some (.dK C4))(b:C4.length<Z7):jO H a (kV k) v (Z9 H a (.dK (putK C4 k v))):=.inl ⟨C4,k,e,J,b,J⟩
section
variable{X:Cx}{X4:fy (jl×Obj)}{σ:St}{H:Hp}{s:q8}{a:jl}{y v:V}{u r:mu}{o:nt V}{A:Around}{E:mu->q8->Z3}
def Inv.big(I:Inv X X4 σ H s):sysModules<(~~~s):=by let h:mainGlobals<(~~~s):=(I.mod.glob.keeps I.bk).lt;exact alN o7 h
def FT{Q:mu->q8->Z3}(B:A.units+1<cLine)(I:Inv X X4 σ H s)(g:gG H a y (some v))(q:RelV y u)(h:∀i s',Inv X X4 σ H s'->RelV v i->Q i s') :
  wpAny (model X.prog X.w) A (getItem (.ref a) u) Q E s:=by
 rcases g with⟨C4,k,e,m,l⟩|⟨C4,k,b,e,m,t,l⟩
 .subst m;let⟨z,x,vs,c,dd⟩:=pZ I.hok e;let⟨i,n,f⟩:=gF.some_of (v:=v) (o:=valueAt vs k) (by rw[l];exact c.val k);exact amm (lg q) dd.mapOf n<|h i _ (I.tok _) f
 .subst m;cases (show u=Value.ref b from q);let⟨z,x,xs,c,dd⟩:=sQ I.hok e;let⟨i,n,f⟩:=gF.some_of (v:=v) (o:=(atKey xs k).map (·.2)) (by rw[l];exact c.val k);let⟨p,r,j⟩:=aja.mp n;refine wpAny_getItem_heap (ak9 B) (rT I.hok t) dd r ?_;rw[j];exact h i _ (I.tok _) f
def ahK{Q:mu->q8->Z3}(n:A.units+1<cLine)(I:Inv X X4 σ H s)(g:gG H a y o)(j:RelV y u)(h:∀s',Inv X X4 σ H s'->Q (.bool o.isSome) s') :
  wpAny (model X.prog X.w) A (compareOp .In u (.ref a)) Q E s:=by
 rcases g with⟨C4,k,e,i,l⟩|⟨C4,k,b,e,i,m,l⟩
 .subst i;let⟨z,f,vs,c,dd⟩:=pZ I.hok e;refine wpAny_in_of (lg j) f dd.mapOf ?_;rw[←(c.val k).sF,←l];exact h _<|I.tok _
 .subst i;cases (show u=Value.ref b from j);let⟨z,f,xs,c,dd⟩:=sQ I.hok e;refine wpAny_in_heap (ak9 n) (rT I.hok m) f dd ?_;let q:=(c.val k).sF;rw[al7] at q;rw[←q,←l];exact h _<|I.tok _
def xQ{h':Heap}{t':Z5}{c:HO}(I:Inv X X4 σ H s)(h:Mut (H a))(hs:Heap.SameBut a s.heap h')(g:∃q,h'.get? a=some q)(new:bK X.prog X.w (Z9 H a c) h' a c) :
  Inv X X4 σ (Z9 H a c) {s with heap:=h',toks:=t'}:=
 I.write (x:=a) (e:=a) h (.inl J) (λb q f z=>(hs.2 b f).trans z) g new
def Fz{P:t6}{w:t7}{H':Hp}{h':Heap}{C4:fy (Key×V)}{vs:fy (Key×mu)}(z:C4.length≤Z7)(c:(a==sysModules)=Z2)(b:KV C4 vs)(dd:h'.DictOf (cu P w) a vs) :
  bK P w H' h' a (.dK C4):=⟨z,c,vs,b,dd⟩
def Fc{H':Hp}{Q:Unit->q8->Z3}(F:A.units+1<cLine)(I:Inv X X4 σ H s)(g:jO H a y v H')(B:RelV y u)(x:RelV v r)(h:∀s',Inv X X4 σ H' s'->Q () s') :
  wpAny (model X.prog X.w) A (setItem (.ref a) u r) Q E s:=by
 rcases g with⟨C4,k,e,m,l,p⟩|⟨C4,k,b,e,m,C,l,p⟩
 .subst m p;let⟨z,t,vs,f,dd⟩:=Ox I.hok e;let o:vs.length≤Z7:=by rwa[←f.length]
  let n:(putK C4 k v).length≤Z7:=by let:=cU C4 k v;omega
  refine wpAny_setItem_pairs (hsz:=o) (lg B) dd λh' i hs=>h _ ?_
  let L:∃q,h'.get? a=some q:=let ⟨q,_,_,j,_⟩:=i;⟨q,j⟩;exact xQ I (by rw[e];exact True.intro) hs L<|Fz n t (f.put k x) i
 .subst m p;cases (show u=Value.ref b from B);let⟨z,t,xs,f,dd⟩:=adx I.hok e;let o:xs.length≤Z7:=by rwa[←Paired.length f]
  let n:(putK C4 k v).length≤Z7:=by let:=cU C4 k v;omega
  refine wpAny_setItem_heap (hsz:=o) (ak9 F) (rT I.hok C) dd λh' i hs=>h _ ?_
  let⟨q,es,ep,j,h2,h3,h4,_,h5⟩:=i;refine xQ I (by rw[e];exact True.intro) hs ⟨q,j⟩ {n,t,_,(f.put k C x).keeps λc ys ec=>?_,q,es,ep,j,h2,h3,h4,h5};rw[ak<|bU ec e λz=>nomatch z];exact ec
end
section
variable{X:Cx}{X4:fy (jl×Obj)}{σ:St}{H:Hp}{s:q8}{a:jl}{C4:fy (Key×V)}{k:Key}{u:mu}{A:Around}{E:mu->q8->Z3}
def adC{Q:mu->q8->Z3}(I:Inv X X4 σ H s)(e:Rd H a (.dK C4))(h:∀t s',Inv X X4 σ H s'->Q (.int C4.length t) s'):wpAny (model X.prog X.w) A (call (.builtin "len") [.ref a]) Q E s:=by let⟨z,c,vs,b,dd⟩:=pZ I.hok e;refine call_len_dict c dd (by rw[←b.length];rw[al0] at z;omega) ?_;rw[←b.length];exact h _ _<|I.tok _
end
def DI(i:Expr):Z3:=∀a b,subscripted i Z2 a b=operate [a,b] (getItem a b)
def xA{prog:t6}{w:t7}{A:Around}{E:mu->q8->Z3}{s:q8}{env:Env}{value a:Expr}{pos:Pos}{T id:String}{Q:mu->q8->Z3}(l:typeLookup (.type T) "__getitem__" = pure (some (.builtin id)))(hs:DI a)(h:wpAny (model prog w) A (eval value env) (λo e=>wpAny (model prog w) A (eval a env) (λi s₂=>s₂.TypeIs o T/\wpAny (model prog w) A (getItem o i) Q E s₂) E e) E s) :
  wpAny (model prog w) A (eval (.Subscript value a pos) env) Q E s:=by
 refine Subscript_ (ajz h (λo e g=>ajz g (λi s₂ b=>?_) λ_ _ x=>x) λ_ _ x=>x);let⟨j,b⟩:=b;unfold subscriptTail;refine aiF ?_;rw[getitemInPython_of_ne j.not_modules];refine aiF<|alO j l ?_;let fin:wpAny (model prog w) A (subscripted a Z2 o i) (λr c=>wpAny (model prog w) A (letTemporaryGo value o r >>= λ_=>pure r) Q E c) E s₂:=by rw[hs o i];exact wpAny_operating (ajz b (λr c f=>aiF<|wpAny_letTemporaryGo<|aiK f) λ_ _ x=>x)
 first
  |exact aiK<|aiF fin
  |exact aiF<|aiK<|aiF fin
  |exact aiF fin
def B3{X:Cx}{X4:fy (jl×Obj)}{σ:St}{H:Hp}{s:q8}{a:jl}{y:V}{o:nt V}(I:Inv X X4 σ H s)(g:gG H a y o):s.TypeIs (.ref a) "dict":=by
 rcases g with⟨C4,k,e,_,_⟩|⟨C4,k,b,e,_,_,_⟩
 .let⟨_,_,vs,_,dd⟩:=pZ I.hok e;exact dd.typeIs
 .let⟨_,_,xs,_,dd⟩:=sQ I.hok e;exact dd.typeIs
inductive Cg(Q:VK)(x:V)(y:V)(H2:Hp):Z3
 |m a v(_:x=.ref a)(_:gG H2 a y (some v))(_:Q v H2)
def aep(td ty:TE):TE:=λσ H Q=>td σ H λx H1=>ty σ H1 λy H2=>Cg Q x y H2
inductive Ft(Q:VK)(y:V)(x:V)(H2:Hp):Z3
 |m a o(_:x=.ref a)(_:gG H2 a y o)(_:Q (.bl o.isSome) H2)
def ahU(ty td:TE):TE:=λσ H Q=>ty σ H λy H1=>td σ H1 λx H2=>Ft Q y x H2
inductive Cv(D:Ends)(σ:St)(v:V)(x:V)(y:V)(H3:Hp):Z3
 |m a H4(_:x=.ref a)(_:jO H3 a y v H4)(_:D.nx σ H4)
def agw(td ty tv:TE):TS:=λD σ H=>tv σ H λv H1=>td σ H1 λx H2=>ty σ H2 λy a=>Cv D σ v x y a
section
variable{X:Cx}{o i e value:Expr}{pos pos' tpos:Pos}{td ty tv:TE}
def yd(e:X.A.units+1<cLine)(f:PE X o td)(hi:PE X i ty)(hs:DI i):PE X (.Subscript o i pos) (aep td ty):=by intro X4 s σ H Q I h;refine xA ak2.lookup hs (thn (f X4 s σ H _ I h) λ u s1 ⟨x,H1,I1,rx,q1⟩=>thn (hi X4 s1 σ H1 _ I1 q1) λ l s2 ⟨y,H2,I2,ry,a,v,ex,g,q2⟩=>?_);subst ex;obtain rfl:u=Value.ref a:=rx;exact{B3 I2 g,FT e I2 g ry λj s3 c b=>⟨v,H2,c,b,q2⟩}
def Ws(c:X.A.units+1<cLine)(hi:PE X i ty)(b:PE X o td):PC X .In i o (ahU ty td):=by
 intro X4 s σ H Q I h;refine thn (hi X4 s σ H _ I h) λ f s1 ⟨y,H1,I1,ry,q1⟩=>thn (b X4 s1 σ H1 _ I1 q1) λ u s2 ⟨x,H2,I2,rx,a,ov,ex,g,q2⟩=>?_
 subst ex;obtain rfl:u=Value.ref a:=rx;exact ahK c I2 g ry λs3 e=>{.bl ov.isSome,H2,e,J,q2}
def oG(e:X.A.units+1<cLine)(f:PE X o td)(hi:PE X i ty)(b:PE X value tv)(hs:swapsWith value (some (.Subscript o i pos')) pos.line X.env=pure Z2) :
  PS X (.Assign [.Subscript o i pos'] value pos) (agw td ty tv):=by
 intro X4 s σ H D I h;refine wpAny_Assign_Subscript (thn (b X4 s σ H _ I h) λ r s1 ⟨v,H1,I1,rv,q1⟩=>thn (f X4 s1 σ H1 _ I1 q1) λ u s2 ⟨x,H2,I2,rx,q2⟩=>thn (hi X4 s2 σ H2 _ I2 q2) λ j s3 ⟨y,H3,I3,ry,a,H4,ex,g,q3⟩=>?_) hs;subst ex;obtain rfl:u=Value.ref a:=rx;exact Fc e I3 g ry rv λs4 c=>⟨σ,H4,c,q3⟩
end
def AB{P:t6}{w:t7}{H:Hp}(h:Heap)(a:sysModules<h.objs.size):bK P w H (h.push {.type "dict",Z0,.dict #[],#[]}) h.objs.size (.dK []):=
 {ajc _,akc.mpr<|ajH<|ajs a,[],.nil,Heap.DictOf.new h}
def Wq:TE:=λ_ H Q=>∀p,H p=Z0->Q (.ref p) (Z9 H p<|.dK [])
section
variable{X:Cx}{pos:Pos}
def uv:PE X (.Dict [] [] pos) Wq:=λX4 s σ H Q I h=>wpAny_Dict_empty {.ref (~~~s),_,I.laid (a:= ~~~s) (o:=.dK []) (t':=s.toks) (λ_ _ q=>aiI _ q) (aiL _)<|AB s.heap I.big,J,h _<|I.hok.fresh<|aiL _}
end
def A1:fy (TE×TE)->St->Hp->(fy (V×V)->Hp->Z3)->Z3
 |[],_,H,Q=>Q [] H
 |(tk,tv)::r,σ,H,Q=>tk σ H λx H1=>tv σ H1 λy H2=>A1 r σ H2 λps a=>Q ((x,y)::ps) a
abbrev VV:fy (V×V)->fy (mu×mu)->Z3:=Paired λp q=>RelV p.1 q.1/\RelV p.2 q.2
def PPs(X:Cx)(pos:Pos)(keys:fy (nt Expr))(a:fy Expr)(b:fy (TE×TE)):Z3:=
 ∀(X4:fy (jl×Obj))(s:q8)(σ:St)(H:Hp)(Q:fy (V×V)->Hp->Z3),Inv X X4 σ H s->A1 b σ H Q →
  wpAny (model X.prog X.w) X.A (evalPairs<|pairTrees keys a X.env pos) (λvs s'=>∃ps H',Inv X X4 σ H' s'/\VV ps vs/\Q ps H') X.xe s
def CU{X:Cx}{pos:Pos}:PPs X pos [] [] []:=λX4 s σ H Q I h=>pairTrees_nil_walk {[],H,I,.nil,h}
def zD{X:Cx}{pos:Pos}{k v:Expr}{b:fy (nt Expr)}{vs:fy Expr}{c tv:TE}{a:fy (TE×TE)}(e:PE X k c)(g:PE X v tv)(f:PPs X pos b vs a) :
  PPs X pos (some k::b) (v::vs) ((c,tv)::a):=λX4 s σ H Q I h=>
 pairTrees_cons_walk (thn (e X4 s σ H _ I h) λ u s1 ⟨x,H1,I1,rx,q1⟩=>thn (g X4 s1 σ H1 _ I1 q1) λ i s2 ⟨y,H2,I2,ry,q2⟩=>thn (f X4 s2 σ H2 _ I2 q2) λ ws s3 ⟨ps,H3,I3,rel,q3⟩=>{(x,y)::ps,H3,I3,.cons ⟨rx,ry⟩ rel,q3})
def gB(C4 more:fy (Key×V)):fy (Key×V):=more.foldl (λacc a=>putK acc a.1 a.2) C4
def KV.merge:∀{more:fy (Key×V)}{a:fy (Key×mu)}{C4:fy (Key×V)}{vs:fy (Key×mu)},KV more a->KV C4 vs->KV (gB C4 more) (merged vs a):=by
 intro more a C4 vs r;unfold KV at r
 induction r generalizing C4 vs with
 |nil=>intro q;exact q
 |@cons p q ps qs h t ih=>
  intro r0;let e:KV (putK C4 p.1 p.2) (stored vs q.1 q.2):=by let:=r0.put p.1 h.2;rwa[←h.1]
  exact ih e
def qA:∀(more C4:fy (Key×V)),(gB C4 more).length≤C4.length+more.length
 |[],C4=>by show C4.length≤C4.length+0;omega
 |p::r,C4=>by let h1:=qA r<|putK C4 p.1 p.2;let h2:=cU C4 p.1 p.2;show(gB (putK C4 p.1 p.2) r).length≤_;rw[ajp];omega
def vM{P:t6}{w:t7}:∀{C4:fy (Key×V)}{ws:fy (mu×mu)},VV (C4.map λf=>(kV f.1,f.2)) ws->∃e,Carries (cu P w) ws e/\KV C4 e
 |[],_,r=>by rw[ak8] at r;cases r;exact{[],True.intro,.nil}
 |p::C4,_,r=>by
  rw[ajh] at r;cases r with
  |@cons a b as bs h t=>let⟨e,c,q⟩:=vM (P:=P) (w:=w) t;let⟨b1,b2⟩:=b;exact{(p.1,b2)::e,{lg h.1,J,c},.cons ⟨J,h.2⟩ q}
def ael(a:fy (TE×TE)):TE:=λσ H Q=>∀p,H p=Z0->A1 a σ (Z9 H p<|.dK []) λps H2=>H2 p=some (.dK [])/\∃C4:fy (Key×V),ps=C4.map (λb=>(kV b.1,b.2))/\C4.length≤15/\Q (.ref p) (Z9 H2 p<|.dK<|gB [] C4)
def Dv{X:Cx}{pos:Pos}{keys:fy (nt Expr)}{b:fy Expr}{g:fy (TE×TE)}(h:PPs X pos keys b g)(f:keys.all (·.isSome)=Z1)(l:keys.length=b.length)(h0:keys≠[])(h15:keys.length≤15):PE X (.Dict keys b pos) (ael g):=by
 intro X4 s σ H Q I q;let hn:=I.hok.fresh<|aiL (~~~s);let j:=I.laid (a:= ~~~s) (o:=.dK []) (h':=s.heap.push {.type "dict",Z0,.dict #[],#[]}) (t':=s.toks) (λ_ _ q=>aiI _ q) (aiL _)<|AB s.heap I.big;refine wpAny_Dict_walk (knd:=cu X.prog X.w) f l h0 h15 (thn (h X4 _ σ _ _ j<|q _ hn) λ ws s2 ⟨ps,H2,I2,rel,e,C4,ep,lk,q2⟩=>?_);subst ep;let⟨m,c,n⟩:=vM (P:=X.prog) (w:=X.w) rel;let⟨z,t,r,r0,dd⟩:=Ox I2.hok e;cases r0;refine{m,c,dd,λh' i hs=>{.ref (~~~s),_,?_,J,q2}};let p:(gB [] C4).length≤Z7:=by let h1:=qA C4 [];rw[List.length_nil] at h1;rw[al0];omega
 let u:∃q,h'.get? (~~~s)=some q:=let ⟨q,_,_,hq,_⟩:=i;⟨q,hq⟩;exact xQ I2 (by rw[e];exact True.intro) hs u<|Fz p t (n.merge .nil) i
structure M1(X:Cx)(o:Expr)(m:Z6)(apos:Pos)(e:Expr)(cpos:Pos):Z3 where
 base:attributeBase o m X.env (eval o X.env)=eval o X.env
 few:((backTo cpos (starEach [e] X.env)).all (λx=>!x.1) &&(backToKw cpos (keywordEach [] X.env)).all (λx=>x.1.isSome)
  && decide (([e]:fy Expr).length +([]:fy Keyword).length +(if ([]:fy Keyword).isEmpty then 0 else 1)<30))=Z1
 line:(apos.endLine==cpos.line)=Z1
 trees:backTo cpos (starEach [e] X.env)=[(Z2,eval e X.env)]
def IsD(H:Hp)(a:jl):Z3:=(∃C4,Rd H a<|.dK C4)∨∃C4,Rd H a<|.dT C4
def Zz{X:Cx}{X4:fy (jl×Obj)}{σ:St}{H:Hp}{s:q8}{a:jl}(I:Inv X X4 σ H s)(d:IsD H a) :
  s.TypeIs (.ref a) "dict"/\(∀b,Value.ref a=.ref b->∃c,s.heap.get? b=some c/\c.dict=Z0)/\(a==sysModules)=Z2:=by
 rcases d with⟨C4,e⟩|⟨C4,e⟩
 .let⟨_,f,vs,_,dd⟩:=pZ I.hok e;refine{dd.typeIs,λb q=>?_,f};cases q;let⟨c,_,_,h1,h2,_⟩:=dd;exact⟨c,h1,h2.2.1⟩
 .let⟨_,f,xs,_,dd⟩:=sQ I.hok e;refine{dd.typeIs,λb q=>?_,f};cases q;let⟨c,_,_,h1,h2,_⟩:=dd;exact⟨c,h1,h2.2.1⟩
section
variable{X:Cx}{X4:fy (jl×Obj)}{σ:St}{H:Hp}{s:q8}{a:jl}{y d:V}{u r:mu}{o:nt V}{A:Around}{E:mu->q8->Z3}
def ZR{Q:mu->q8->Z3}(p:A.units+1<cLine)(I:Inv X X4 σ H s)(g:gG H a y o)(m:RelV y u)(h:∀j s',Inv X X4 σ H s'->RelV (o.getD .non) j->Q j s') :
  wpAny (model X.prog X.w) A (call (.builtin "dict.get") [.ref a,u]) Q E s:=by
 rcases g with⟨C4,k,e,i,l⟩|⟨C4,k,b,e,i,n,l⟩
 .subst i;let⟨z,f,vs,c,dd⟩:=pZ I.hok e;refine call_meetsIn alF dd.typeIs amK (amy _ _) (meets_dict_get (cu X.prog X.w) a (lg m) f) {_,dd.mapOf,h _ _ (I.tok _) ?_};rw[l];exact(c.val k).getD J
 .subst i;cases (show u=Value.ref b from m);let⟨z,f,xs,c,dd⟩:=sQ I.hok e;refine call_meetsIn alF dd.typeIs amK (amy _ _) (meetsH_dict_get (tupleKind<|cu X.prog X.w) a b f) {ak9 p,k,xs,rT I.hok n,dd,h _ _ (I.tok _) ?_};rw[l];exact(c.val k).getD J
end
inductive z8(ty:TE)(σ:St)(Q:VK)(x:V)(H1:Hp):Z3
 |m a(_:x=.ref a)(_:IsD H1 a)(_:ty σ H1 λy H2=>∃o,gG H2 a y o/\Q (o.getD .non) H2)
def R8(td ty:TE):TE:=λσ H Q=>td σ H λx H1=>z8 ty σ Q x H1
section
variable{X:Cx}{o e f:Expr}{apos cpos:Pos}{td ty tx:TE}
def GW(l:X.A.units+1<cLine)(i:PE X o td)(n:PE X e ty)(m:M1 X o "get" apos e cpos):PE X (.Call (.Attribute o "get" apos) [e] [] cpos) (R8 td ty):=by intro X4 s σ H Q I h;refine wpAny_Call_method m.base m.few m.line PySem.F.plainAttrs_dict alF PySem.F.type_dict_get (thn (i X4 s σ H _ I h) λ u s1 ⟨x,H1,I1,rx,a,ex,d,q1⟩=>?_);subst ex;obtain rfl:u=Value.ref a:=rx;let⟨c,f,_⟩:=Zz I1 d;exists c,f;rw[m.trees];refine aly J<|Calls.evalArgs_plain<|akk (thn (n X4 s1 σ H1 _ I1 q1) λ q s2 ⟨y,H2,I2,ry,ov,g,q2⟩=>akx ?_);exact ZR l I2 g ry λp s3 j b=>{_,H2,j,b,q2}
end
section
variable{X:Cx}
inductive tF(xs:fy V)(H:Hp)(Q:VK):Z3
 |m a C4(_:xs=[.ref a])(_:H a=some (.dK C4))(_:Q (.int C4.length) H)
def Fi:dh X (.builtin "len") tF:=by intro X4 s σ H xs us Q I r h;let⟨a,C4,rfl,b,q⟩:=h;let⟨u,rfl,e⟩:=vals1 r;cases e;exact adC I (.inl b) λt s' c=>{.int C4.length,H,c,⟨t,J⟩,q}
end
section
variable{κ:Type}[DecidableEq κ]
def HY{C4:fy (κ×V)}{k:κ}(h:bD C4 k=Z0):¬k∈C4.map (·.1):=by intro m;let⟨p,b,e⟩:=aje.mp m;let q:(C4.any λa=>decide (a.1=k))=Z1:=akV.mpr {p,b,aiS e};rw[gO,h] at q;exact absurd q o8
def Ct:∀{l:fy κ}{k:κ},l.Nodup->¬k∈l->(l++[k]).Nodup
 |[],k,_,_=>by simp
 |a::r,k,h,hk=>by
  let⟨h1,h2⟩:=ajj.mp h;show(a ::(r++[k])).Nodup;refine ajj.mpr {λm=>?_,Ct h2 λm=>hk<|aiU.mpr<|Or.inr m};rcases ai0.mp m with q|q
  .exact h1 q
  .exact hk (aiU.mpr<|Or.inl (ai7.mp q).symm)
def QW{C4:fy (κ×V)}{k:κ}(v:V)(hn:(C4.map (·.1)).Nodup)(h:bD C4 k=Z0):((putK C4 k v).map (·.1)).Nodup:=by rw[Hl v h,ajb];exact Ct hn<|HY h
end
end L2
namespace Chk
def T(n:Z5):Z5:=n*128 % 2 ^ 64+n / 2 ^ 57
def D(n:Z5):Z5:=if n*2≥2 ^ 64 then n*2-2 ^ 64+1 else n*2
def ag0(a b:Z5):(a ^^^ b) % 2+2*((a &&& b) % 2)=a % 2+b % 2:=by let p:=Nat.xor_mod_two_eq_one (a:=a) (b:=b);let q:=Nat.and_mod_two_eq_one (a:=a) (b:=b);rcases akw a with h|h <;> rcases akw b with k|k <;> rcases akw (a ^^^ b) with x|x <;> rcases akw (a &&& b) with y|y <;> simp[h,k,x,y] at p q ⊢
def aeo{X Y a b:Z5}(h:X / 2+2*(Y / 2)=a / 2+b / 2)(p:X % 2+2*(Y % 2)=a % 2+b % 2):X+2*Y=a+b:=by omega
def QN:∀a b:Z5,(a ^^^ b)+2*(a &&& b)=a+b:=by
 intro a
 induction a using Nat.strongRecOn with
 |ind a e=>
  intro b;by_cases c:a=0
  .subst c;simp
  .refine aeo ?_ (ag0 a b);rw[Nat.xor_div_two,Nat.and_div_two];exact e (a / 2) (Nat.div_lt_self (ala c) o7)<|b / 2
def stp(c n:Z5):Z5:=T c ^^^ n
def chk(l:fy Z5):Z5:=l.foldl stp 0
end Chk
namespace L2
open PySem PySem.Spec PyProof.Rows
section
variable{X:Cx}
def gx:OpR X (binaryOp .FloorDiv) (rI (λ_ j=>0<j/\j.natAbs.log2<9000) λi j=>.int (i / j)):=opI λi j _ _ _ _ _ a q=>by let h1:↥0<j:=a.1;exact floordiv_int o6 (by grind)<|.inl<|PyProof.noPylong_of_log2 a.2
def iZ{a b n:Z4}{j1 j2 p1 p2 pos}(h:0≤b/\b≤1000000/\a.natAbs<2 ^ 64:=by decide)(e:a ^ b.toNat=n:=by first|rfl|decide +kernel) :
  PE X (.BinOp (.Constant (.int a) j1 p1) .Pow (.Constant (.int b) j2 p2) pos) (tC (.int n)):=λX4 s σ H Q I c=>
 aB SK au au X4 s σ H Q I {3,h,by subst e;exact c}
def ZJ:V->nt mu
 |.ty n=>some<|.type n
 |.ref a=>some<|.ref a
 |_=>Z0
inductive iQ(K:Frag)(xs:fy V)(H:Hp)(Q:VK):Z3
 |m x c cv t b(_:xs=[x,c])(_:ZJ c=some cv)(_:jP K H x t)(_:kitOne K t cv=some b)(_:Q (.bl b) H)
def oj:dh X (.builtin "isinstance") (iQ X.K):=by
 rintro X4 s σ H xs us Q I r ⟨x,c,cv,t,b,rfl,a,ty,e,q⟩;let⟨u,v,rfl,g,f⟩:=vals2 r;let i:v=cv:=by cases c <;> simp[ZJ] at a <;> subst a <;> exact f
 subst i;exact Gf I g ty e λh=>{.bl b,H,I.tok h,J,q}
end
def dW{c A B:Z3}[Decidable c](a:c)(h:A):if decide c=Z1 then A else B:=by grind
def cT{c A B:Z3}[Decidable c](a:¬c)(h:B):if decide c=Z1 then A else B:=by grind
def clos(cells:fy (Z6×jl)):fy (Z6×NameKind)->fy (Z6×jl)->fy (Z6×jl)
 |[],acc=>acc
 |(n,k)::r,acc=>clos cells r (if k==.free then(n,(cells.lookup n).getD 0)::acc else acc)
def rj:∀l acc,(∀ y∈l,y.2=.free->∃c,env.cells.lookup y.1=some c) →
  (forIn l acc λ(x:Z6×NameKind)(j:fy (Z6×jl))=>if (x.2==NameKind.free)=Z1 then do let a ←cellOf env x.1;pure (ForInStep.yield ((x.1,a)::j)) else pure (ForInStep.yield j):Sem (fy (Z6×jl)))=pure (clos env.cells l acc)
 |[],acc,_=>by simp only[List.forIn_nil];rfl
 |(n,k)::r,acc,h=>by
  simp only[List.forIn_cons];cases f:(k==NameKind.free) with
  |false=>
   simp only[Bool.false_eq_true,if_false];let g:=rj (env:=env) r acc λy b=>h y<|aiZ _ b
   simp only[pure_bind,g,clos,f,Bool.false_eq_true,if_false]
  |true=>
   let⟨c,i⟩:=h (n,k) ajN (⇑f);let e:cellOf env n=pure c:=by unfold cellOf;rw[show env.cells.lookup n=some c from i]
   simp only[if_true,e,pure_bind];let g:=rj (env:=env) r ((n,c)::acc) λy b=>h y<|aiZ _ b
   rw[g];simp only[clos,f,if_true];rw[show env.cells.lookup n=some c from i];rfl
def qC(h:∀ y∈scope.names,y.2=.free->∃c,env.cells.lookup y.1=some c):closureFor scope env=pure (clos env.cells scope.names []):=by let:=rj (env:=env) scope.names [] h;unfold closureFor;simp only[bind_pure];exact this
def zZ:∀{names:fy (Z6×NameKind)}{acc:fy (Z6×jl)},(∀ y∈names,y.2=.free->∃c,cells.lookup y.1=some c)->(∀x c,acc.lookup x=some c->cells.lookup x=some c) →
  ∀x c,(clos cells names acc).lookup x=some c->cells.lookup x=some c
 |[],_,_,ha,x,c,h=>ha x c h
 |(n,k)::r,acc,hn,ha,x,c,h=>by
  refine zZ (names:=r) (λy b=>hn y<|aiZ _ b) ?_ x c h;intro x c h;split at h
  .rename_i a;let⟨d,e⟩:=hn (n,k) ajN (⇑a);rw[show cells.lookup n=some d from e,ajq] at h;split at h
   .grind
   .exact ha x c h
  .exact ha x c h
def uR:∀{names:fy (Z6×NameKind)}{acc:fy (Z6×jl)}{x:Z6},((x,NameKind.free)∈names∨∃c,acc.lookup x=some c)->∃c,(clos cells names acc).lookup x=some c
 |[],acc,x,h=>by
  rcases h with h|h
  .cases h
  .exact h
 |(n,k)::r,acc,x,h=>by
  refine uR (names:=r) ?_;rcases h with h|⟨c,h⟩
  .rcases aiU.mp h with h|h
   .injection h with h1 h2
    subst h1;subst h2;exact .inr {(cells.lookup x).getD 0,by simp[List.lookup_cons]}
   .exact .inl h
  .right;split
   .rw[ajq];split
    .exact{1}
    .exact⟨c,h⟩
   .exact⟨c,h⟩
def mem_of_lookup{α:Type}{x:Z6}{a:α}:∀{l:fy (Z6×α)},l.lookup x=some a->(x,a)∈l
 |[],h=>by simp at h
 |(n,k)::r,h=>by
  rw[ajq] at h;split at h
  .rename_i e;injection h with h
   rw[eq_of_beq e,h];exact ajN
  .exact aiZ _ (mem_of_lookup h)
def oX{env:Env}{x:Z6}:∀(names:fy (Z6×NameKind)),
  (names.map λ(n,k)=>if (k==NameKind.free&&env.scope.kind==.function&&env.kindOf n==some .cell) then(n,NameKind.cell) else(n,k)).lookup x =
   (names.lookup x).map λk=>if (k==NameKind.free&&env.scope.kind==.function&&env.kindOf x==some .cell) then NameKind.cell else k
 |[]=>rfl
 |(n,k)::r=>by
  let a:=oX (env:=env) (x:=x) r;simp only[List.map_cons];by_cases e:x=n
  .grind
  .grind
def ql{a b n:Z5}(h1:a<n)(h2:n≤b):a≠b:=by omega
def Cx.comp(X:Cx)(scope:Scope)(N:fy Z6)(C:jl)(s₀:q8)(H₀:Hp)(ex:fy jl):Cx:=
 {X with N:=N,s₀:=s₀,H₀:=H₀,env:=compEnvC scope (clos X.env.cells scope.names []) C X.env,outer:=X.stack,stack:=X.stack,ex:=ex,fn:=λ_=>Z2,pn:=[]}
def st0(k:Z5)(cap:fy Z5)(σ:St):St:=List.replicate k Z0++cap.map λj=>(σ[j]?).getD Z0
def wG(b:fy Z6)(fs a:Scope)(N:fy Z6)(k:Z5)(cap:fy Z5):Bool:=
 decide (a.kind=.function)&&a.names.all (fun y=>decide (y.2≠.cell))&&a.names.all (fun y=>decide (y.2≠.local)||decide (a.names.lookup y.1=some .local)) &&
 a.names.all (λy=>decide (y.2≠.free)||decide (fs.names.lookup y.1=some .cell))&&decide (N.length=k+cap.length) &&
 (cap.zip<|N.drop k).all (λp=>decide (b[p.1]?=some p.2)&&decide (a.names.lookup p.2=some .free))
structure mU(XN:fy Z6)(fs sc:Scope)(N:fy Z6)(k:Z5)(cap:fy Z5):Z3 where
 kind:sc.kind=.function
 F3:∀ y∈sc.names,y.2≠.cell
 locs:∀ y∈sc.names,y.2=.local->sc.names.lookup y.1=some .local
 frees:∀ y∈sc.names,y.2=.free->fs.names.lookup y.1=some .cell
 len:N.length=k+cap.length
 caps:∀ p∈cap.zip (N.drop k),XN[p.1]?=some p.2/\sc.names.lookup p.2=some .free
def mU.of{k:Z5}(h:wG XN fs sc N k cap=Z1):mU XN fs sc N k cap:=by unfold wG at h;simp only[Bool.and_eq_true,List.all_eq_true,decide_eq_true_eq,Bool.or_eq_true] at h;let⟨⟨⟨⟨⟨h1,h2⟩,h3⟩,h4⟩,h5⟩,h6⟩:=h;exact{h1,h2,λy a e=>(h3 y a).resolve_left λz=>z e,λy a e=>(h4 y a).resolve_left λz=>z e,h5,h6}
section
variable{X:Cx}{X4:fy (jl×Obj)}{σ:St}{H:Hp}{s:q8}{scope:Scope}{N:fy Z6}{k:Z5}{cap:fy Z5}{fp:fy jl}
def Cx.yI{x:Z6}{C:jl}{s₀:q8}{H₀:Hp}{ex:fy jl}(a:X.env.scope.kind=.function) :
  (X.comp scope N C s₀ H₀ ex).env.kindOf x =(scope.names.lookup x).map λk=>if (k==NameKind.free&&X.env.kindOf x==some .cell) then NameKind.cell else k:=by
 show(relabel scope X.env).names.lookup x=_;unfold relabel;rw[oX];congr 1;funext k;rw[a];simp
def Inv.rA(I:Inv X X4 σ H s)(c:mU X.N X.env.scope scope N k cap):∀ y∈scope.names,y.2=.free->∃d,X.env.cells.lookup y.1=some d:=
 λy a e=>I.ok.has y.1<|.inl<|c.frees y a e
def Inv.block(I:Inv X X4 σ H s)(c:mU X.N X.env.scope scope N k cap)(F:∀ b∈fp,fq X X4 H b)(ho:∀ b∈fp,∃o,s.heap.get? b=some o){D C:jl}{s1:q8}(L:( ~~~s)≤D)(hC:( ~~~s)≤C)(a2:D≠C)(a0:s1.os=s.os)(hg:s1.gens=s.gens)(keep:∀b o,s.heap.get? b=some o->s1.heap.get? b=some o)(hl:s1.heap.get? D=some {.type "list",Z0,.seq #[],#[]})(hn:s1.heap.Ns C λ_=>Z0) :
  Inv (X.comp scope N C s H fp) [] (st0 k cap σ) (Z9 H D (.lst [])) s1:=by
 let a1:=I.rA c;let lt:∀ b∈fp,b<(~~~s):=λb r=>let ⟨o,e⟩:=ho b r;aiP e
 let O:∀x d,X.env.cells.lookup x=some d->d<(~~~s):=λx d e=>let ⟨v,o,q,_⟩:=I.cell x d e;aiP q
 let sub:=zZ (cells:=X.env.cells) (names:=scope.names) (acc:=[]) a1 (λx c h=>by simp at h);let fresh:∀a,~~~s≤a->H a=Z0:=λa h=>I.hok.fresh h
 let t:∀x,((X.comp scope N C s H fp).env.kindOf x=some .cell∨(X.comp scope N C s H fp).env.kindOf x=some .free)->(x,NameKind.free)∈scope.names:=λx h=>by
  rw[Cx.yI I.ok.kind] at h;cases e:scope.names.lookup x with
  |none=>rw[e] at h;simp at h
  |some kd=>
   let m:=mem_of_lookup e;rw[e] at h;cases kd with
   |free=>exact m
   |cell=>exact absurd J<|c.F3 _ m
   |«local»=>simp at h
   |globalExplicit=>simp at h
   |globalImplicit=>simp at h
 let ok:(X.comp scope N C s H fp).Ok:=
  {mod:=I.ok.mod
   kind:=c.kind
   glob:=I.ok.glob
   blt:=I.ok.blt
   above:=hC
   inj:=λx y d Y hy=>I.ok.inj x y d (sub x d Y) (sub y d hy)
   has:=λx h=>uR (.inl<|t x h)
   cab:=λx d h=>by cases h
   hd:=I.ok.hd
   frames:=I.ok.frames
   stk:=.inl J
   exf:=λb r=>{λz=>ql (lt b r) hC z,λx d Y=>(F b r).2.2.2.2.1 x d<|sub x d Y}
   bs:=I.bs
   bsz:=ai9 I.ok.bsz I.sz
   uM:=λb o e r=>by
    rcases(F b r).2.2.2.1 with h|h
    .exact I.ok.uM b o e h
    .exact absurd (aiP (I.ok.bs b o e).1) (Nat.not_lt.mpr h)
   ua:=λb r hm=>by
    rcases aiU.mp (I.Ao b hm) with h|h
    .exact(F b r).2.1 h
    .exact(F b r).2.2.1 h
   jJ:=I.stack
   frf:=I.yj}
 let nD:H D=Z0:=fresh D L;refine
  {ok:=ok
   os:=a0
   bare:=by rw[hg];exact I.bare
   base:=Un.laid keep L nD
   loc:={_,hn,?_}
   cell:=λx d h=>let ⟨v,q⟩:=I.cell x d<|sub x d h;{v,q.keeps keep}
   free:=by show Z9 H D _ C=Z0;rw[ak<|ajH a2];exact fresh C hC
   g9:=λx d h=>by let h':=sub x d h;rw[ak<|ql (O x d h') L];exact I.g9 x d h'
   pin:=λp hp=>by cases hp
   hok:=I.hok.laid keep L {ajc _,[],(0),.nil,hl}
   len:=by show(st0 k cap σ).length=N.length;unfold st0;rw[aji,ajW,aiE,c.len]}
 intro i x v hi l _;let hi:N[i]?=some x:=hi;unfold st0 at l;by_cases B:i<k
 .rw[aiM (by rwa[ajW]),amx,aiN B] at l;cases l
 .rw[aiO (by rw[ajW];omega),ajW,aiR] at l;cases ej:cap[i-k]? with
  |none=>rw[ej] at l;cases l
  |some j=>
   rw[ej] at l;let l:(σ[j]?).getD Z0=some v:=aiY l;let U:σ[j]?=some (some v):=by
    cases e:σ[j]? with
    |none=>rw[e] at l;cases l
    |some z=>rw[e] at l;exact congrArg some l
   let hm:(j,x)∈cap.zip (N.drop k):=by refine aju.mpr {i-k,?_};rw[amh];exists ej;rwa[alb,show k +(i-k)=i by omega]
   let⟨hX,n⟩:=c.caps _ hm;let mf:=mem_of_lookup n;let f:=c.frees _ mf rfl;let⟨m,_,q⟩:=I.loc;let⟨u,ru,lk⟩:=q j x v hX U<|.inr<|.inl f;refine{u,ru,.inr {.inl ?_,?_}}
   .rw[Cx.yI I.ok.kind,n];let:(X.env.kindOf x==some NameKind.cell)=Z1:=by show(X.env.scope.names.lookup x==some NameKind.cell)=Z1;rw[f];rfl
    simp[this]
   .rcases lk with⟨g,_⟩|⟨_,d,hd,S⟩
    .let g:X.env.scope.names.lookup x=some .local:=g;rw[f] at g;cases g
    .let⟨d',A⟩:=uR (cells:=X.env.cells) (acc:=[]) (.inl mf:(x,NameKind.free)∈scope.names∨_);let:=sub x d' A;rw[hd] at this;cases this;exact{d,A,S.keeps keep}
def Inv.QB{H':Hp}{σ':St}{s1:q8}{C:jl}{ps:fy (jl×Obj)}(I:Inv X X4 σ H s)(c:∀ b∈fp,fq X X4 H b)(b4:Inv (X.comp scope N C s H fp) ps σ' H' s1):Inv X X4 σ H' s1:=
 I.Es (ch:=fp) b4.os b4.base b4.hok b4.bare λb a=>{(c b a).2.2.2.1,(c b a).2.1,(c b a).2.2.2.2.1,(c b a).2.2.2.2.2}
end
def LV(k:Z5)(cap:fy Z5)(wi:TI)(g:TG)(tt:TT)(te:TE):TE:=λσ H Q=>wi σ H λb4 H1=>∀D,H1 D=Z0->∃W:Z5->Z5->St->Hp->fy V->Z3,
 (∃m,W 0 m (st0 k cap σ) (Z9 H1 D<|.lst []) [])/\∀i m σ' H' ys,W i m σ' H' ys->(b4.stop i H'/\Q (.ref D) H')∨
  (b4.go i H'/\∃N:St->Hp->fy V->Z3,(∀σ' H' c,N σ' H' c->∃h,h<m/\W (i+1) h σ' H' c)/\∀x H2,b4.yld i H' x H2->g x σ' H2 λa j=>tt a j λb f=>if b=Z1 then
   te a f λy e=>e D=some (.lst ys)/\ys.length<Z7/\N a (Z9 e D<|.lst<|ys++[y]) (ys++[y])
   else N a f ys)
def aij:TT:=λ_ H Q=>Q Z1 H
def PTs(X:Cx)(ifs:fy Expr)(t:TT):Z3:=
 ∀X4 s σ H Q,Inv X X4 σ H s->t σ H Q →
  wpAny (model X.prog X.w) X.A (forIn ifs Z1 λc r=>if r=Z1 then do let ok ←isTrue c X.env (eval c X.env);pure (ForInStep.yield ok) else pure<|ForInStep.yield r) (TP X X4 σ Q) X.xe s
def cg:PTs X [] aij:=λ_ _ _ H _ I h=>wpAny_tests_nil ⟨H,I,h⟩
def QZ(h:PT X c t):PTs X [c] t:=λX4 s σ H Q I a=>wpAny_tests_one<|h X4 s σ H Q I a
section
variable{prog:t6}{w:t7}{A:Around}{R:Result->q8->Z3}{s:q8}
def qG(I:Z5->q8->Z3)(p:∀n s,I n s->wpAny (model prog w) A (pyNext it) (λr b=>match r with
   |none=>R (.ok .next) b
   |some v=>wpAny (model prog w) A (letOwnedTupleGo target it v) (λ_ s₀=>wpAny (model prog w) A (assign target env v) (λ_ f=>
     wpAny (model prog w) A (forIn ifs Z1 λc r=>if r=Z1 then do let ok ←isTrue c env (eval c env);pure (ForInStep.yield ok) else pure (ForInStep.yield r)) (λok a=>
      if ok=Z1 then wpAny (model prog w) A (eval elt env) (λx l=>wpAny (model prog w) A (call (.builtin "list.append") [acc,x]) (λ_ g=>∃m,m<n/\I m g) (notedBy (model prog w) A env λe s'=>R (.error e) s') l) (notedBy (model prog w) A env λe s'=>R (.error e) s') a
      else ∃m,m<n/\I m a) (notedBy (model prog w) A env λe s'=>R (.error e) s') f) (notedBy (model prog w) A env λe s'=>R (.error e) s') s₀) (notedBy (model prog w) A env λe s'=>R (.error e) s') b) (notedBy (model prog w) A env λe s'=>R (.error e) s') s)(n:Z5)(h:I n s) :
  codeAny (model prog w) A (.compLoop (.ListComp elt [{target,iter,ifs,(0)}] scope pos) 0 it acc env) R s:=by
 refine codeAny_loop J I (λn s u=>?_) n h;show wpAny _ A ((compTurn (.ListComp elt [{target,iter,ifs,(0)}] scope pos) 0 it acc env).onRaise λx=>do noteFrame x env;theTreesLotGoes x) _ _ s;refine wpAny_noted ?_;rw[compTurn_list];refine aiF<|wpAny_standAt<|aiF (ajz (p n s u) (λr b j=>?_) λ_ _ h'=>h');cases r with
 |none=>exact aiK j
 |some v=>
  refine aiF (ajz j (λ_ s₀ h₀=>?_) λ_ _ h'=>h');refine aiF (ajz h₀ (λ_ f o=>aiF (ajz o (λok a i=>?_) λ_ _ h'=>h')) λ_ _ h'=>h');cases ok with
  |false=>exact aiK ⟨J,i⟩
  |true=>exact aiF<|aiF (ajz i (λx l q=>aiF (ajz q (λ_ g t=>aiK<|aiK ⟨J,t⟩) λ_ _ h'=>h')) λ_ _ h'=>h')
end
section
variable{X:Cx}{scope:Scope}{N:fy Z6}{k:Z5}{cap:fy Z5}{tg iter elt:Expr}{ifs:fy Expr}{wi:TI}{g:TG}{tt:TT}{te:TE}{pos:Pos}
def yr{E:mu->q8->Z3}{use:nt (mu->Sem Unit)}{QQ:mu->q8->Z3}{X4:fy (jl×Obj)}{s:q8}{σ:St}{H:Hp}{it:jl}{fp:fy jl}{tn:Z5->Heap->Z3}{b4:It}{Q:VK}(hc:X.calm=Z1)(c:mU X.N X.env.scope scope N k cap)(hg:∀C s₀ H₀ ex,PG (X.comp scope N C s₀ H₀ ex).nox tg g)(ht:∀C s₀ H₀ ex,PTs (X.comp scope N C s₀ H₀ ex).nox ifs tt)(he:∀C s₀ H₀ ex,PE (X.comp scope N C s₀ H₀ ex).nox elt te)(I:Inv X X4 σ H s)(T:Turn X.prog X.w X.K tg b4 fp it tn)(st:tn 0 s.heap)(hf:∀ b∈fp,fq X X4 H b)(h:∀D,H D=Z0->∃W:Z5->Z5->St->Hp->fy V->Z3,(∃m,W 0 m (st0 k cap σ) (Z9 H D (.lst [])) [])/\∀i m σ' H' ys,W i m σ' H' ys->(b4.stop i H'/\Q (.ref D) H')∨
   (b4.go i H'/\∃N:St->Hp->fy V->Z3,(∀σ' H' a2,N σ' H' a2->∃m',m'<m/\W (i+1) m' σ' H' a2)/\∀x H2,b4.yld i H' x H2->g x σ' H2 λF H3=>tt F H3 λb H4=>if b=Z1 then
    te F H4 λy H5=>H5 D=some (.lst ys)/\ys.length<Z7/\N F (Z9 H5 D (.lst (ys++[y]))) (ys++[y])
    else N F H4 ys))(hQ:∀D C s1 H',Inv X X4 σ H' s1->Q (.ref D) H'->(∃m,s1.heap.Ns C m)->H' C=Z0->X.s₀.heap.objs.size≤C->C≠X.env.locals->(∀x c,X.env.cells.lookup x=some c->c≠C)->(∀ p∈X.pn++X4,p.1≠C) →
   compPost (model X.prog X.w) X.A E use QQ (.ref D) C (.ok .next) s1) :
  wpAny (model X.prog X.w) X.A (newList []) (λacc s₃=>wpAny (model X.prog X.w) X.A (newFunctionEnv scope X.env.globals (clos X.env.cells scope.names []) [] X.env.qual Z0 .none (some X.env)) (λL a1=>codeAny (model X.prog X.w) X.A (.compStart (.ListComp elt [{tg,iter,ifs,(0)}] scope pos) 0 (.ref it) acc {L with scope:=relabel scope X.env}) (compPost (model X.prog X.w) X.A E use QQ acc L.locals) a1) E s₃) E s:=by
 refine ajC<|wpAny_newFunctionEnv c.F3 (by grind) (λl f a=>?_) c.kind;dsimp only at f a ⊢;generalize hH2:s.heap.push {.type "list",Z0,.seq ([]:fy mu).toArray,#[]}=H2 at f a ⊢;let hC:H2.objs.size= ~~~s+1:=by rw[←hH2,aj0]
 let a3:( ~~~s)≠H2.objs.size:=by grind
 let t:( ~~~s)≤H2.objs.size:=by grind
 let keep:∀b o,s.heap.get? b=some o->l.get? b=some o:=λb o e=>by exact a.extBut b o (ql (aiP e) t)<|aiI _<|hH2 ▸ aiI _ e
 let hl:l.get? (~~~s)=some {.type "list",Z0,.seq #[],#[]}:=a.extBut _ _ a3<|aiI _<|hH2 ▸ aiW _ J;let nD:H (~~~s)=Z0:=I.hok.fresh<|aiL _;let⟨W,⟨m0,w0⟩,a4⟩:=h _ nD;let ho:∀ b∈fp,∃o,s.heap.get? b=some o:=λb j=>let ⟨o,e,_⟩:=T.obj _ _ st b j;⟨o,e⟩
 let a7:X.s₀.heap.objs.size≤H2.objs.size:=ai9 I.sz t;let a8:H2.objs.size≠X.env.locals:=(ql I.lt t).symm;let ae:∀x d,X.env.cells.lookup x=some d->d≠H2.objs.size:=λx d e=>by let⟨v,o,q,_⟩:=I.cell x d e;exact ql (aiP q) t
 let ag:∀ p∈X.pn++X4,p.1≠H2.objs.size:=λp hp=>by exact ql (aiP (I.pin p hp).1) t
 let O:∀s₃:q8,s₃={s with heap:=l,toks:=s.toks +([]:fy (Z6×mu)).length} →
   codeAny (model X.prog X.w) X.A (.compLoop (.ListComp elt [{tg,iter,ifs,(0)}] scope pos) 0 (.ref it) (.ref (~~~s))<|compEnvC scope (clos X.env.cells scope.names []) H2.objs.size X.env)
    (compPost (model X.prog X.w) X.A E use QQ (.ref (~~~s)) H2.objs.size) s₃:=by
  rintro s₃ rfl;let I0:Inv (X.comp scope N H2.objs.size s H fp) [] (st0 k cap σ) (Z9 H (~~~s) (.lst [])) {s with heap:=l,toks:=s.toks +([]:fy (Z6×mu)).length}:=
   I.block c hf ho (aiL _) t a3 J J keep hl (⇑f)
  let B:∀{H':Hp}{ps:fy (jl×Obj)},(∀ b∈fp,H' b=Z0)->ps=[]->∀ b∈fp,fq (X.comp scope N H2.objs.size s H fp).nox ps H' b:=λhn hp b j=>by subst hp;exact{hn b j,(I0.ok.exf b j).1,I0.ok.ua b j,.inl j,(I0.ok.exf b j).2,λp hp=>by cases hp}
  let ac:∀ b∈fp,Z9 H (~~~s) (.lst []) b=Z0:=λb j=>by let⟨o,e⟩:=ho b j;rw[ak<|ql (aiP e)<|aiL _];exact(hf b j).1
  refine qG (λn s'=>∃i σ' H' ys,Inv (X.comp scope N H2.objs.size s H fp).nox [] σ' H' s'/\tn i s'.heap/\(∀ b∈fp,H' b=Z0)/\W i n σ' H' ys) ?_ m0
   {(0),_,_,[],I0.pG _,T.keep _ _ _ st λb _ o e=>keep b o e,ac,w0}
  rintro n s' ⟨i,σ',H',ys,I',a6,a0,w'⟩;rcases a4 i n σ' H' ys w' with⟨a5,q⟩|⟨go,NN,a9,step⟩
  .refine ajz (T.done (X.comp scope N H2.objs.size s H fp).nox J J J hc i [] s' σ' H' (λ_ _=>False) I' (B a0 J) a6 a5) (λ r s4 ⟨hr,I4⟩=>?_) (λ_ _ x=>x.elim);subst hr;exact hQ _ _ s4 H' (I.QB hf I4.zU) q (let ⟨m,hn,_⟩:=I4.loc;⟨m,hn⟩) I4.free a7 a8 ae ag
  .refine ajz (T.item (X.comp scope N H2.objs.size s H fp).nox J J J hc i [] s' σ' H' (λ_ _=>False) I' (B a0 J) a6 go) (λ r s4 ⟨u,hr,h4⟩=>?_) (λ_ _ x=>x.elim);subst hr;refine ajz h4 (λ _ s5 ⟨x,H5,I5,r5,y5,st5,fr5⟩=>?_) λ_ _ x=>x.elim;let ab:=I5.pinned (B fr5 J)<|T.obj _ _ st5;refine ajz (hg _ _ _ _ _ s5 σ' H5 x u _ ab r5<|step x H5 y5) (λ _ s6 ⟨z,H6,I6,q6⟩=>?_) λ_ _ x=>x.elim;refine ajz (ht _ _ _ _ _ s6 z H6 _ I6 q6) (λ ok s7 ⟨H7,I7,q7⟩=>?_) λ_ _ x=>x.elim;let again:∀{S:Hp}{Y:q8}{U:fy V},Inv (X.comp scope N H2.objs.size s H fp).nox ([]++sG fp s5.heap) z S Y->NN z S U →
     ∃m,m<n/\∃i σ' H' ys,Inv (X.comp scope N H2.objs.size s H fp).nox [] σ' H' Y/\tn i Y.heap/\(∀ b∈fp,H' b=Z0)/\W i m σ' H' ys:=λ{S Y U}I8 n8=>by
    let⟨m',hm,w8⟩:=a9 _ _ _ n8;refine{m',hm,i+1,z,S,U,I8.pX,T.keep _ _ _ st5 λb j o e=>(I8.pin (b,o)<|ajk _<|ajk _<|lK j e).1,λb j=>?_,w8};let⟨o,e,d⟩:=T.obj _ _ st5 b j;exact(I8.pin (b,o)<|ajk _<|ajk _<|lK j e).2.1
   cases ok with
   |false=>exact again I7 q7
   |true=>refine ajz (he _ _ _ _ _ s7 z H7 _ I7 q7) (λ y Y ⟨v,S,I8,rv,hD,hlen,w8⟩=>?_) λ_ _ x=>x.elim;refine ajz (cC (X:=(X.comp scope N H2.objs.size s H fp).nox) _ Y z S (.ref (~~~s)) [v] (.ref (~~~s)) [y] (λ_ H9=>H9=Z9 S (~~~s) (.lst<|ys++[v])) I8 J (.cons rv .nil) {_,ys,v,J,J,hD,hlen,J}) (λ _ s9 ⟨_,H9,I9,_,e9⟩=>?_) λ_ _ x=>x.elim;subst e9;exact again I9 w8
 exact codeAny_compStart_list (O _ J)<|T.self _ 0 _ _ _ (T.keep _ _ _ st λb _ o e=>keep b o e)<|O _ J
def dg(t:X.calm=Z1)(j:wG X.N X.env.scope scope N k cap=Z1)(hi:PI X tg iter wi)(y:∀C s₀ H₀ ex,PG (X.comp scope N C s₀ H₀ ex).nox tg g)(r:∀C s₀ H₀ ex,PTs (X.comp scope N C s₀ H₀ ex).nox ifs tt)(B:∀C s₀ H₀ ex,PE (X.comp scope N C s₀ H₀ ex).nox elt te)(hs:∀x,foldedSetIterable iter X.env x=pure x:=by intro _;rfl):PE X (.ListComp elt [{tg,iter,ifs,(0)}] scope pos) (LV k cap wi g tt te):=by
 intro X4 s σ H Q I h;let c:=mU.of j;rw[eval_ListComp];refine amn (use:=Z0) (cl:=clos X.env.cells scope.names []) J hs (qC<|I.rA c) c.kind c.locs (thn (hi X4 s σ H _ I h) λF n f=>thn f λp l a=>?_);let⟨it,fp,L,b4,H2,e,z,T,st,v,q⟩:=a;subst e;exact yr (use:=Z0) t c y r B z T st v q λ D C s1 H' u q1 ⟨m,hn⟩ hCn hCs hCl hCc hCp=>
  {m,hn,λh' i=>{.ref D,H',u.turned (t':=s1.toks) (λb o A e=>i.extBut b o A e) hCn hCl (.inr hCs) hCc hCp,J,q1}}
def ia{i:Z5}{x:Z6}{pos' f:Pos}(hN:X.N.Nodup)(u:X.N[i]?=some x)(Y:Loc X.env.scope x)(O:X.calm=Z1)(n:wG X.N X.env.scope scope N k cap=Z1)(hi:PI X tg iter wi)(hg:∀C s₀ H₀ ex,PG (X.comp scope N C s₀ H₀ ex).nox tg g)(ht:∀C s₀ H₀ ex,PTs (X.comp scope N C s₀ H₀ ex).nox ifs tt)(U:∀C s₀ H₀ ex,PE (X.comp scope N C s₀ H₀ ex).nox elt te)(r:swapsWith (.ListComp elt [{tg,iter,ifs,(0)}] scope pos) (some (.Name x pos')) f.line X.env=pure Z1:=by rfl)(hs:∀x,foldedSetIterable iter X.env x=pure x:=by intro _; rfl)(p:X.fn x=Z1∨X.env.scope.names.lookup x=some .local:=by first|exact .inl rfl|exact .inr rfl|assumption) :
  PS X (.Assign [.Name x pos'] (.ListComp elt [{tg,iter,ifs,(0)}] scope pos) f) (DO (LV k cap wi g tt te) (ng i)):=by
 intro X4 s σ H D I h;let c:=mU.of n;rw[exec_Assign_Name_used _ _ _ _ r];refine aiF<|wpAny_standAt<|aiF ?_;show wpAny _ X.A (do let _ ←comprehension (.ListComp elt [{tg,iter,ifs,(0)}] scope pos) scope X.env _ (newList []) Z2 (eval iter X.env) (some (assign (.Name x pos') X.env))) _ _ s;refine aiF (ajz (amn (use:=some<|assign (.Name x pos') X.env) (Q:=λ_ s'=>SP X X4 D .next s') (cl:=clos X.env.cells scope.names []) J hs (qC<|I.rA c) c.kind c.locs
  (thn (hi X4 s σ H _ I h) λxv y j=>thn j λF B l=>?_)) (λ_ s' S=>aiK<|aiK S) λ_ _ e=>e)
 let⟨it,fp,tn,b4,H2,e,I2,T,st,hf,q⟩:=l;subst e;refine yr (use:=some<|assign (.Name x pos') X.env) (Q:=λv H1=>ng i v σ H1 D.nx) O c hg ht U I2 T st hf q λ L C s1 H' I1 q1 ⟨m,hn⟩ hCn hCs hCl hCc hCp=>?_
 show wpAny _ X.A (assign (.Name x pos') X.env<|.ref L) _ _ s1;refine wpAny_assign_Name<|yO (v:=.ref L) I1 hN u Y J (λ s2 I3 ⟨a,sb,ha⟩=>{m,?_,λh' t=>?_}) p
 .refine hn.sameBut sb ?_;rcases ha with z|z
  .rw[z];exact hCl
  .grind
 .exact{_,H',I3.turned (t':=s2.toks) (λb o hb e=>t.extBut b o hb e) hCn hCl (.inr hCs) hCc hCp,q1}
end
def cQ{K:Frag}{a:jl}(D:jl){xs:fy V}{g:TG}{tt:TT}{te:TE}{σ:St}{H:Hp}{R:Hp->Z3}(f:Z5->St->Hp->fy V->Z3)(h0:f 0 σ H [])(s:∀i σ H ys,i≤xs.length->f i σ H ys->X0 K H a xs)(hs:∀i x σ H ys,xs[i]?=some x->f i σ H ys->g x σ H λc o=>tt c o λb l=>if b=Z1 then
   te c l λy j=>j D=some (.lst ys)/\ys.length<Z7/\f (i+1) c (Z9 j D (.lst (ys++[y]))) (ys++[y]) else f (i+1) c l ys)(u:∀σ H ys,f xs.length σ H ys->R H) :
  ∃W:Z5->Z5->St->Hp->fy V->Z3,(∃m,W 0 m σ H [])/\∀i m σ' H' ys,W i m σ' H' ys->((Itl K a).stop i H'/\R H')∨
   ((Itl K a).go i H'/\∃N:St->Hp->fy V->Z3,(∀σ' H' h,N σ' H' h->∃r,r<m/\W (i+1) r σ' H' h)/\∀x H2,(Itl K a).yld i H' x H2->g x σ' H2 λc o=>tt c o λb l=>if b=Z1 then
    te c l λy j=>j D=some (.lst ys)/\ys.length<Z7/\N c (Z9 j D (.lst (ys++[y]))) (ys++[y])
    else N c l ys):=by
 exists λi m σ H ys=>m=xs.length-i/\i≤xs.length/\f i σ H ys,{xs.length,o8,ajc _,h0};rintro i m σ H ys ⟨rfl,hi,p⟩;let q:=s i σ H ys hi p;by_cases n:i<xs.length
 .refine .inr {{xs,xs[i],q,by simp[n]},f (i+1),λσ' H' h t=>{xs.length -(i+1),o6,J,n,t},λx H' y=>?_};let⟨e,y⟩:=y;subst e;exact hs i x σ _ ys (y xs q) p
 .let e:i=xs.length:=by omega
  subst e;exact .inl {{xs,q,aiL _},u σ H ys p}
def lz{lo:Z4}{n:Z5}(D:jl){g:TG}{tt:TT}{te:TE}{σ:St}{H:Hp}{R:Hp->Z3}(f:Z5->St->Hp->fy V->Z3)(h0:f 0 σ H [])(hs:∀i σ H ys,i<n->f i σ H ys->g (.int (lo+i)) σ H λa o=>tt a o λb l=>if b=Z1 then
   te a l λy j=>j D=some (.lst ys)/\ys.length<Z7/\f (i+1) a (Z9 j D (.lst (ys++[y]))) (ys++[y]) else f (i+1) a l ys)(s:∀σ H ys,f n σ H ys->R H) :
  ∃W:Z5->Z5->St->Hp->fy V->Z3,(∃m,W 0 m σ H [])/\∀i m σ' H' ys,W i m σ' H' ys->((Itr lo n).stop i H'/\R H')∨
   ((Itr lo n).go i H'/\∃N:St->Hp->fy V->Z3,(∀σ' H' c,N σ' H' c->∃q,q<m/\W (i+1) q σ' H' c)/\∀x H2,(Itr lo n).yld i H' x H2->g x σ' H2 λa o=>tt a o λb l=>if b=Z1 then
    te a l λy j=>j D=some (.lst ys)/\ys.length<Z7/\N a (Z9 j D (.lst (ys++[y]))) (ys++[y])
    else N a l ys):=by
 exists λi m σ H ys=>m=n-i/\i≤n/\f i σ H ys,{n,o8,ajc _,h0};rintro i m σ H ys ⟨rfl,hi,p⟩;by_cases h:i<n
 .refine .inr {h,f (i+1),λσ' H' c r=>{n -(i+1),o6,J,h,r},λx H' y=>?_};let⟨e,y⟩:=y;subst e y;exact hs i σ _ ys h p
 .let e:i=n:=by omega
  subst e;exact .inl {aiL _,s σ H ys p}
section
variable{X:Cx}{K:Frag}
def sO{es:fy Expr}{k:Z5}{t:TGs}{n:Z5}{pos:Pos}(b:X.K=K)(c:X.calm=Z1)(h:PGs X es t)(hn:(assignEach es X.env).length=n:=by rfl)(a:(assignEach es X.env).findIdx? (·.1)=Z0:=by rfl) :
  PG X (.Tuple es k pos) (Il K n t):=by subst b;exact lY c h hn a
def Qg(a:X.K=K):IxR X (Hf K):=by subst a;exact bY
end
def aj.new(h:H p=Z0):aj H (Z9 H p o):=λb u e=>by rwa[ak<|ao e h]
open PySem PySem.Spec PyProof.Rows PySem.SeqAt
def zw(h1:PI X tg it w1)(h2:PI X tg it w2):PI X tg it (λσ H R=>w1 σ H R∨w2 σ H R):=λX4 s σ H R I h=>h.elim (h1 X4 s σ H R I)<|h2 X4 s σ H R I
def mE{a b n:Z5}(h1:a<n)(h2:n≤b):a≠b:=by omega
def Inv.vZ{X:Cx}{X4:fy (jl×Obj)}{σ:St}{H:Hp}{s:q8}{h':Heap}{t':Z5}{ch:fy jl}(I:Inv X X4 σ H s)(k:∀b o,b∉ch->s.heap.get? b=some o->h'.get? b=some o)(f:∀ b∈ch,fq X X4 H b) :
  Inv X X4 σ H {s with heap:=h',toks:=t'}:=by
 let h:∀b u,H b=some u->b∉ch:=λb u e z=>by rw[(f b z).1] at e;cases e
 refine I.step (g':=s.gens) (d':=s.drawn) (ch:=ch) (λb g=>{(f b g).2.2.2.1,(f b g).2.1,(f b g).2.2.2.2.1,(f b g).2.2.2.2.2}) (λb o _ _ a e _=>k b o a e) (λb o _ _ a e _=>{o.slots,k b o a e}) (λ_ _ _ _ n=>n)
  (λb o a e=>{o,k b o a e}) (λ_ _ e=>e) (λ_ _ _ e=>e) (λb ps e=>{#[],by rw[e];simp}) (λm i=>?_) (λb u e=>?_) I.bare
 .let⟨o,es,ep,j,r⟩:=i;exact{o,es,ep,k _ o (λz=>(f _ z).2.1 J) j,r}
 .refine(I.hok b u e).stay (λc v a q=>k c v ?_ q) (λ_ q=>q) λ_ _ q=>q
  rcases a with z|z
  .grind
  .exact h c _ z
def Inv.vI{X:Cx}{X4:fy (jl×Obj)}{σ:St}{H:Hp}{s:q8}{h':Heap}{t':Z5}{ch:fy jl}{T:jl}{u:HO}(I:Inv X X4 σ H s)(k:∀b o,b∉ch->s.heap.get? b=some o->h'.get? b=some o)(g:∀ b∈ch,fq X X4 H b)(i:( ~~~s)≤T)(new:bK X.prog X.w (Z9 H T u) h' T u):Inv X X4 σ (Z9 H T u) {s with heap:=h',toks:=t'}:=by
 let hn:H T=Z0:=I.hok.fresh i;let h:∀b u,H b=some u->b∉ch:=λb u e z=>by rw[(g b z).1] at e;cases e
 let l:∀b o,s.heap.get? b=some o->b≠T:=λb o e=>mE (aiP e) i
 refine I.step (g':=s.gens) (d':=s.drawn) (ch:=ch) (λb f=>{(g b f).2.2.2.1,(g b f).2.1,(g b f).2.2.2.2.1,(g b f).2.2.2.2.2}) (λb o _ _ a e _=>k b o a e) (λb o _ _ a e _=>{o.slots,k b o a e}) (λb o _ e n=>by rwa[ak<|l b o e])
  (λb o a e=>{o,k b o a e}) (λb xs e=>by rwa[ak<|ao e hn]) (λb o xs e=>by rwa[ak<|ao e hn]) (λb ps e=>{#[],by rw[ak<|ao e hn,e];simp}) (λm j=>?_) (λb v e=>?_) I.bare
 .let⟨o,es,ep,p,r⟩:=j;exact{o,es,ep,k _ o (λz=>(g _ z).2.1 J) p,r}
 .by_cases f:b=T
  .subst f;rw[af] at e;cases e;exact new
  .rw[ak f] at e;refine(I.hok b v e).stay (λc v a q=>k c v ?_ q) (λc q=>by rwa[ak<|ao q hn]) λc xs q=>by rwa[ak<|ao q hn]
   rcases a with z|z
   .grind
   .exact h c _ z
def zz(raw ch:Bool)(e C:jl)(od:nt jl)(h:Heap):Z3:=∃vs a,h.get? e=some {.ref C,od,.fields vs,a}/\vs.size=6/\(raw=Z1->vs[1]?=some .none)/\(ch=Z2->vs[2]?=some .none)
abbrev exO(raw ch:Bool)(e C:jl)(od:nt jl):HO:=.ext<|zz raw ch e C od
def EE(H:Hp)(e C:jl)(od:nt jl):Z3:=∃ch,H e=some (exO Z2 ch e C od)
section
variable{P:t6}{w:t7}{H:Hp}{h:Heap}{e C dx:jl}{od:nt jl}{raw ch:Bool}{fs:fy (Z6×V)}
def F7(x:zz raw ch e C od h):bK P w H h e (exO raw ch e C od):=by
 exists x,?_
 .let⟨vs,a,q,_⟩:=x;exact{_,q}
 .rintro h1 h2 ⟨vs,a,q,r⟩ k;exact{vs,a,k _ q,r}
def Zs(x:HOk P w H h)(q:H e=some (exO raw ch e C od)):zz raw ch e C od h:=(x e _ q).1
end
inductive Fly(h:Heap)(e T:jl)(fl:mu):Z3
 |m oe vs oT ts(_:h.get? e=some oe)(_:oe.data=.fields vs)(_:vs[1]?=some (.ref T))(_:h.get? T=some oT)(_:oT.data=.fields ts)(_:ts[3]?=some fl)(_:T≠e)
structure zx(fs ch:fy jl)(e T:jl)(fl:mu)(h h':Heap):Z3 where
 keep:∀b o,b∉fs->b∉ch->b≠e->h.get? b=some o->h'.get? b=some o
 slot:∀b o,b∈fs->b∉ch->b≠e->h.get? b=some o->∃sl,h'.get? b=some {o with slots:=sl}
 new:h.objs.size≤T
 exc:∀oe vs,h.get? e=some oe->oe.data=.fields vs->h'.get? e=some (oe.mapFields (·.setIfInBounds 1 (.ref T)))
 fly:Fly h' e T fl
section
variable{M:Model}{A:Around}{E:mu->q8->Z3}{s:q8}{base:Heap}{env:Env}{outer:fy Env}{L e:jl}{oe:Obj}{vs:sA mu}{Q:Unit->q8->Z3}
def Hw(p:A.frames=some (env::outer))(B:s.heap.FunFrames base (env::outer))(O:env.frame=some L)(y:s.heap.get? e=some oe)(t:oe.data=.fields vs)(hsz:1<vs.size)(h:∀h' T,zx (frs (env::outer)) [] e T (rawInt L) s.heap h'->Q () {s with heap:=h'}) :
  wpAny M A (do let a ←frameOf env;let pl ←entryPlaceOf L b;let x ←EntryCells.newEntry head a .none (rawInt L) .none pl;setField (.ref e) 1 x) Q E s:=by
 let i:e∉frs (env::outer):=λU=>by let⟨_,o,C,u⟩:=B.mem U;rw[y] at C;cases C;exact u vs t
 refine aiF (wpAny_frameOf_fun p B O λh1 hs=>?_);refine aiF (wpAny_entryPlaceOf λpl v=>?_);unfold EntryCells.newEntry newFields;refine aiF<|ajC ?_<|v.sizeOk5 _ _ _ _ _;let l:h1.get? e=some oe:=(hs.2.1 e i).trans y;generalize hT:({.type "traceback",Z0,.fields ([head,.ref L,.none,rawInt L,.none] ++(if pl.isEmpty then List.replicate 6 Value.none else pl)).toArray,#[]}:Obj)=oT;let f:=aiI (h:=h1) oT l;refine akg f t hsz<|h _ h1.objs.size ?_;let g:h1.objs.size≠e:=akQ<|aiP l;let j:=ajO t (·.setIfInBounds 1 (Value.ref h1.objs.size));let n:=ajw (Obj.mapFields (·.setIfInBounds 1 (Value.ref h1.objs.size))) f<|aks j;let r:((h1.push oT).update e (Obj.mapFields (·.setIfInBounds 1 (Value.ref h1.objs.size)))).get? h1.objs.size=some oT:=
  (ajA _ _<|ajH g).trans (aiW h1 (by rw[←hT];rfl))
 let keep:∀b o,b≠e->h1.get? b=some o->((h1.push oT).update e (Obj.mapFields (·.setIfInBounds 1 (Value.ref h1.objs.size)))).get? b=some o:=λb o m q=>by rw[ajA _ _<|ajH m];exact aiI _ q
 exists λb o m _ c q=>keep b o c<|(hs.2.1 b m).trans q,λb o m _ c q=>?_,?_,λS F Y d'=>?_
 .let⟨H,z⟩:=hs.2.2 b o q;exact{H,keep b _ c z}
 .rw[hs.1];exact aiL _
 .grind
 .refine{_,_,oT,_,n,j,by simp[hsz],r,by rw[←hT],?_,g};simp
def EZ{T:jl}(n:A.frames=some (env::outer))(z:s.heap.FunFrames base (env::outer))(u:env.frame=some L)(y:Fly s.heap e T .none)(h:∀h' p,zx (frs (env::outer)) [T] e p (rawInt L) s.heap h'->Q () {s with heap:=h'}):wpAny M A (noteFrame (.ref e) env) Q E s:=by
 let⟨oe,vs,B,ts,x,v,h1,m,c,h3,j⟩:=y;unfold noteFrame;simp only[u];refine aiF<|ajE x v h1 ?_;rw[aiN (show(Value.ref T != Value.none)=Z1 from by simp)];refine aiF<|ajE m c h3 ?_;rw[aiJ (show ¬((Value.none==rawInt L)=Z1) from by simp[rawInt])];refine aiF<|akg m c (ajy.mp h3).1 ?_;let other:∀b,b≠T->(s.heap.update T (Obj.mapFields (·.setIfInBounds 3 Value.none))).get? b=s.heap.get? b:=λb a=>ajA _ _<|ajH a
 let i:∀b o,s.heap.get? b=some o->(∀vs,o.data≠.fields vs)->b≠T:=λb o a g q=>by rw[q,m] at a;cases a;exact g ts c
 let sz:(s.heap.update T (Obj.mapFields (·.setIfInBounds 3 Value.none))).objs.size=( ~~~s):=Heap.size_after_update _ _ _;refine Hw n (z.of_keeps λb o a g=>{o,(other b<|i b o a g).trans a,J}) u ((other e<|ajH j).trans x) v (ajy.mp h1).1 λh' p N=>h h' p ?_
 dsimp only at N;refine{λb o a l f q=>N.keep b o a o8 f<|(other b (⇑l)).trans q,λb o a l f q=>N.slot b o a o8 f<|(other b (⇑l)).trans q,?_,λr t q d=>N.exc r t ((other e<|ajH j).trans q) d,N.fly};rw[←sz];exact N.new
def BD{T:jl}{fl:mu}(m:Fly s.heap e T fl)(h:∀h',(∀b o,b≠T->s.heap.get? b=some o->h'.get? b=some o)->h'.objs.size= ~~~s->Fly h' e T .none->Q () {s with heap:=h'}):wpAny M A (setFlight (.ref e) Z0) Q E s:=by
 let⟨oe,vs,n,ts,l,j,h1,i,a,h3,c⟩:=m;let hsz:3<ts.size:=(ajy.mp h3).1;let other:∀b,b≠T->(s.heap.update T (Obj.mapFields (·.setIfInBounds 3 ((Z0:nt jl).elim Value.none λf=>rawInt f)))).get? b=s.heap.get? b:=λb g=>ajA _ _<|ajH g
 unfold setFlight;refine aiF<|ajE l j h1 ?_;rw[aiN (show(Value.ref T != Value.none)=Z1 from by simp)];refine akg i a hsz<|h _ (λb o g q=>(other b g).trans q) (Heap.size_after_update _ _ _) ?_;exact{oe,vs,_,_,(other e<|ajH c).trans l,j,h1,ajw _ i<|aks<|ajO a _,ajO a _,by simp[hsz],c}
end
section
variable{X:Cx}{X4:fy (jl×Obj)}{σ:St}{H:Hp}{s:q8}{e C T:jl}{od:nt jl}{raw ch':Bool}{fl:mu}{h':Heap}{ch:fy jl}
def ac9(q:H e=some o):Z9 H e o=H:=by grind [Z9]
def Inv.noted(I:Inv X X4 σ H s)(q:H e=some (exO raw ch' e C od))(N:zx (frs X.stack) ch e T fl s.heap h')(i:∀ b∈ch,fq X X4 H b) :
  Inv X X4 σ (Z9 H e (exO Z2 ch' e C od)) {s with heap:=h'}:=by
 let⟨vs,U,g,O,_,l⟩:=Zs I.hok q;let t:∀b,H b=Z0->b≠e:=λb n z=>by rw[z,q] at n;cases n
 let tfs:∀b o,H b=some o->b∉frs X.stack:=λb o z A=>by rw[I.yj b A] at z;cases z
 let x:∀b o,H b=some o->b∉ch:=λb o z A=>by rw[(i b A).1] at z;cases z
 let F:zz Z2 ch' e C od h':=by let:=N.exc _ vs g rfl;refine{vs.setIfInBounds 1<|.ref T,U,this,⇑O,nofun,(λz=>by simpa using l z)}
 refine I.Es (s':={s with heap:=h'}) (ch:=ch) J {λb o a n h f=>N.keep b o h f (t b n) a,λb o a n h f=>N.slot b o h f (t b n) a,λb o a n f=>?_,λb o a f=>?_,λb xs a=>?_,λb o u a=>?_,λb ps a=>{#[],?_}} (λb o a=>?_) I.bare λb j=>{(i b j).2.2.2.1,(i b j).2.1,(i b j).2.2.2.2.1,(i b j).2.2.2.2.2}
 .rw[ak<|t b n];exact n
 .by_cases z:b=e
  .subst z;let⟨S,p,g',_⟩:=F;exact{_,g'}
  .by_cases h:b∈frs X.stack
   .let⟨p,g'⟩:=N.slot b o h f z a;exact{_,g'}
   .exact{o,N.keep b o h f z a}
 .rw[ak λz=>by rw[z,q] at a;cases a];exact a
 .rw[ak λz=>by rw[z,q] at a;cases a];exact a
 .rw[ak (λz=>by rw[z,q] at a;cases a),a];simp
 .by_cases z:b=e
  .subst z;rw[af] at a;cases a;exact F7 F
  .rw[ak z] at a;refine(I.hok b o a).stay (λc v L g'=>?_) (λc g'=>?_) λc xs g'=>?_
   .let r:∃u,H c=some u:=by grind
    let⟨u,B⟩:=r;let m:c≠e:=by grind
    exact N.keep c v (tfs c u B) (x c u B) m g'
   .rw[ak λy=>by rw[y,q] at g';cases g'];exact g'
   .rw[ak λy=>by rw[y,q] at g';cases g'];exact g'
def Inv.Vp(I:Inv X X4 σ H s)(q:EE H e C od)(N:zx (frs X.stack) ch e T fl s.heap h')(a:∀ b∈ch,fq X X4 H b):Inv X X4 σ H {s with heap:=h'}:=by let⟨ch',q⟩:=q;let:=I.noted q N a;rwa[ac9 q] at this
def Inv.landed{T:jl}(I:Inv X X4 σ H s)(f:fq X X4 H T)(k:∀b o,b≠T->s.heap.get? b=some o->h'.get? b=some o):Inv X X4 σ H {s with heap:=h'}:=
 I.turned (it:=T) (t':=s.toks) k f.1 f.2.1 f.2.2.2.1 f.2.2.2.2.1 f.2.2.2.2.2
end
def CXx(P:t6)(w:t7):CXT:=λouter H s E v s'=>∃e C od T H',v=.ref e/\s'.os=s.os/\AllBare s'.gens/\Un (frs outer) [] H H' s.heap s'.heap/\HOk P w H' s'.heap∧
 EE H' e C od/\(~~~s)≤T/\H' T=Z0/\Fly s'.heap e T .none/\E (.ref C) (some e) H'
abbrev XS:=St->XK
def dU(X:Cx)(E:XS):Z3:=∀X4 σ H s v s',Inv X X4 σ H s->CXx X.prog X.w X.stack H s (E σ) v s'->X.xe v s'
def az{X:Cx}:dU X (λ_=>E0):=λ_ _ _ _ _ _ _ z=>by let⟨_,_,_,_,_,_,_,_,_,_,_,_,_,_,h⟩:=z;exact h.elim
section
variable{P:t6}{w:t7}{K:Frag}{mg:Z6->nt mu}{base:Heap}{N:fy Z6}{qual:Z6}{scope:Scope}{f:jl}{cd:mu}{A:Around}{outer:fy Env}{s₀:q8}{H₀:Hp}{E:XK}
def Fun.okX{x qual:Z6}{st:Stmt}{f:jl}{fd:q9}{N ps:fy Z6}{k:Z5}{sp:Sp}(F:Fun K x qual st f fd)(S:aC N ps (ay st))(len:∀vs H Q E,sp vs H Q E->vs.length=ps.length)(b:∀a A outer s H vs Q E,cH k (A.deeper (envOfC qual (ay st) (~~~s) f a))->sp vs H Q E →
   ∃t,PSs (aX (CXx P w) P w K mg base N qual (ay st) f a A outer s H E) (dj st) t/\t {nx:=λ_ H'=>Q .non H',rt:=Q} (start N vs) H):aM P w K mg base (CXx P w) (k+1) f fd ps sp:=by
 let⟨m,od,kV,i,n,l,a,ct,g,rfl,h,c⟩:=F.ex;exact Mh h c S len λA outer s H vs Q E j e=>b a A outer s H vs Q E j e
end
section
variable(P:t6)(w:t7)(K:Frag)(mg:Z6->nt mu)(base:Heap)
structure DefX(x:Z6)(k:Z5)(ps:fy Z6)(sp:Sp):Z3 where
 ex:∃(f:jl)(fd:q9),mg x=some (.ref f)/\aM P w K mg base (CXx P w) k f fd ps sp/\keepIn K (.ref f)=Z1/\Binds K fd ps []
structure wQ(C:jl)(m:Z6)(k:Z5)(ps:fy Z6)(sp:Sp):Z3 where
 ex:∃(f:jl)(fd:q9),Meth K C m f/\aM P w K mg base (CXx P w) k f fd ps sp/\Binds K fd ps []
structure zB(x:Z6)(C:jl)(k:Z5)(ps:fy Z6)(sp:Sp):Z3 where
 ex:∃(f:jl)(fd:q9),mg x=some (.ref C)/\Mk K C f/\aM P w K mg base (CXx P w) k f fd ps sp/\Binds K fd ps []
end
def AE(sp:Sp)(E:XS)(t:TA):TE:=λσ H Q=>t σ H λvs H1=>sp vs H1 Q<|E σ
inductive AF(C:jl)(m:Z6)(sp:Sp)(E:XS)(t:TA)(σ:St)(Q:VK)(x:V)(H1:Hp):Z3
 |m a dx fs(_:x=.ref a)(_:H1 a=some (.ins C dx fs))(_:fs.lookup m=Z0)(_:t σ H1 λvs H2=>sp (x::vs) H2 Q (E σ))
def Fd(C:jl)(m:Z6)(sp:Sp)(E:XS)(ta:TE)(t:TA):TE:=λσ H Q=>ta σ H λx H1=>AF C m sp E t σ Q x H1
def Gy(C:jl)(sp:Sp)(E:XS)(t:TA):TE:=λσ H Q=>t σ H λvs H1=>∀x dx,H1 x=Z0->H1 dx=Z0->dx≠x →
 sp (.ref x::vs) (Z9 (Z9 H1 dx<|.own x) x<|.ins C dx []) (λv H2=>v=.non/\Q (.ref x) H2) (E σ)
section
variable{X:Cx}{k:Z5}{f C:jl}{fd:q9}{ps:fy Z6}{sp:Sp}{E:XS}{x m:Z6}{p pos apos:Pos}{e o:Expr}{es:fy Expr}{ta:TE}{t:TA}
def oR{X4:fy (jl×Obj)}{σ:St}{H:Hp}{s:q8}{Q:VK}{us:fy mu}{vs:fy V}(F:aM X.prog X.w X.K X.mg X.base (CXx X.prog X.w) k f fd ps sp)(g:cH k X.A)(i:Binds X.K fd ps [])(c:dU X E)(I:Inv X X4 σ H s)(r:Vals vs us)(h:sp vs H Q (E σ)):wpAny (model X.prog X.w) X.A (call (.ref f) us) (EP X X4 σ Q) X.xe s:=by
 let j:us.length=ps.length:=by rw[←r.length];exact F.len _ _ _ _ h
 let b:=i s us I.kIn (by grind);rw[akr] at b;refine am2 (akR (F.run X.A X.stack s H {us,[]} us vs Q (E σ) g I.HB b r h) λr s' a=>?_);cases r with
 |error e=>exact c X4 σ H s e s' I a
 |ok fl=>
  cases fl with
  |ret u=>exact I.after a
  |next=>exact False.elim a
  |brk=>exact False.elim a
  |cont=>exact False.elim a
def GX(D:DefX X.prog X.w X.K X.mg X.base x k ps sp)(g:dU X E)(n:cH k X.A)(i:Gl X x)(j:PA X (e::es) t)(a:(x ==("__debug__":Str))=Z2:=by decide)(o:starEach (e::es) X.env =(Z2,eval e X.env)::starEach es X.env:=by rfl)(c:(backTo pos (starEach es X.env)).any (·.1)=Z2:=by rfl) :
  PE X (.Call (.Name x p) (e::es) [] pos) (AE sp E t):=by
 let⟨f,fd,m,F,l,b⟩:=D.ex;intro X4 s σ H Q I h;refine ajD<|oS I i m ?_ a;refine akm (h₀:=X.base) I.ok.mod.kin l (thn (j pos X4 s σ H _ I h) λ us s1 ⟨vs,H1,I1,r,q⟩=>{I1.kIn,?_}) o c;exact oR F n b g I1 r q
def bM{pl:Sem Bool}(z:PE X o ta)(c:Cls X.K C)(D:wQ X.prog X.w X.K X.mg X.base C m k ps sp)(n:dU X E)(y:cH k X.A)(p:PA X (e::es) t)(i:starEach (e::es) X.env =(Z2,eval e X.env)::starEach es X.env:=by rfl)(g:(backTo pos (starEach es X.env)).any (·.1)=Z2:=by rfl)(v:eval (.Call (.Attribute o m apos) (e::es) [] pos) X.env =(do
   let ov ←eval o X.env
   standAt apos.atName
   let (f,first) ←holding [ov] (getMethod ov m pl)
   callWith pos f first (backTo pos (starEach (e::es) X.env)) (backToKw pos (keywordEach [] X.env))):=by rfl) :
  PE X (.Call (.Attribute o m apos) (e::es) [] pos) (Fd C m sp E ta t):=by
 let⟨f,fd,j,F,b⟩:=D.ex;intro X4 s σ H Q I h;refine alG (pl:=pl) (thn (z X4 s σ H _ I h) λ u s1 ⟨x,H1,I1,rx,a,dx,fs,ex,ea,l,q⟩=>?_) v;subst ex;obtain rfl:u=Value.ref a:=rx;refine wB I1 ea c j l ?_;refine akm (first:=[.ref a]) (h₀:=X.base) I.ok.mod.kin j.kp (thn (p pos X4 s1 σ H1 _ I1 q) λ us s2 ⟨vs,H2,I2,r,q2⟩=>{I2.kIn,?_}) i g;exact oR (us:=.ref a::us) (vs:=.ref a::vs) F y b n I2 (.cons J r) q2
def rV{pl:Sem Bool}(n:PE X o ta)(c:Cls X.K C)(D:wQ X.prog X.w X.K X.mg X.base C m k ps sp)(g:dU X E)(j:cH k X.A)(i:eval (.Call (.Attribute o m apos) [] [] pos) X.env =(do
   let ov ←eval o X.env
   standAt apos.atName
   let (f,first) ←holding [ov] (getMethod ov m pl)
   callWith pos f first (backTo pos (starEach [] X.env)) (backToKw pos (keywordEach [] X.env))):=by rfl) :
  PE X (.Call (.Attribute o m apos) [] [] pos) (Fd C m sp E ta HS):=by
 let⟨f,fd,e,F,b⟩:=D.ex;intro X4 s σ H Q I h;refine alG (pl:=pl) (thn (n X4 s σ H _ I h) λ u s1 ⟨x,H1,I1,rx,a,dx,fs,ex,ea,l,q⟩=>?_) i;subst ex;obtain rfl:u=Value.ref a:=rx;refine wB I1 ea c e l ?_;exact ang (first:=[.ref a]) I1.kIn e.kp<|oR (us:=[.ref a]) (vs:=[.ref a]) F j b g I1 (.cons J .nil) q
def yH{X4:fy (jl×Obj)}{σ:St}{H:Hp}{s:q8}{Q:VK}{us:fy mu}{vs:fy V}(M:Mk X.K C f)(F:aM X.prog X.w X.K X.mg X.base (CXx X.prog X.w) k f fd ps sp)(o:cH (k+1) X.A)(p:Binds X.K fd ps [])(i:dU X E)(I:Inv X X4 σ H s)(r:Vals vs us)(h:∀x dx,H x=Z0->H dx=Z0->dx≠x->sp (.ref x::vs) (Z9 (Z9 H dx (.own x)) x (.ins C dx [])) (λv H2=>v=.non/\Q (.ref x) H2) (E σ)) :
  wpAny (model X.prog X.w) X.A (call (.ref C) us) (EP X X4 σ Q) X.xe s:=by
 let g:=h (~~~s+1) (~~~s) (I.hok.fresh<|akZ _) (I.hok.fresh<|aiL _)<|ajs<|akA _;let c:=Inv.made (C:=C) I;let r2:Vals (V.ref (~~~s+1)::vs) (Value.ref (~~~s+1)::us):=.cons J r;let q:(Value.ref (~~~s+1)::us).length=ps.length:=by let e:=r2.length;rw[F.len _ _ _ _ g] at e;exact e.symm
 let b:=p _ (Value.ref (~~~s+1)::us) c.kIn (by grind);rw[akr] at b;refine am2 (AH (f:=f) I.kIn M.makes M.init (alj.mp M.fn) (akR (F.run _ X.stack _ _ {Value.ref (~~~s+1)::us,[]} (Value.ref (~~~s+1)::us) _ _ (E σ) (o.make C us [])
  (c.HB.make C us []) b r2 g) λr s' a=>?_))
 cases r with
 |error e=>exact i X4 σ _ _ e s' c a
 |ok fl=>
  cases fl with
  |ret u=>let⟨v,H',m,j,l,n⟩:=c.after a;subst l;exact{j,{V.ref (~~~s+1),H',m,J,n}}
  |next=>exact False.elim a
  |brk=>exact False.elim a
  |cont=>exact False.elim a
def iW(D:zB X.prog X.w X.K X.mg X.base x C k ps sp)(g:dU X E)(l:cH (k+1) X.A)(i:Gl X x)(j:PA X (e::es) t)(a:(x ==("__debug__":Str))=Z2:=by decide)(n:starEach (e::es) X.env =(Z2,eval e X.env)::starEach es X.env:=by rfl)(c:(backTo pos (starEach es X.env)).any (·.1)=Z2:=by rfl) :
  PE X (.Call (.Name x p) (e::es) [] pos) (Gy C sp E t):=by
 let⟨f,fd,m,M,F,b⟩:=D.ex;intro X4 s σ H Q I h;refine ajD<|oS I i m ?_ a;refine akm (h₀:=X.base) I.ok.mod.kin M.kp (thn (j pos X4 s σ H _ I h) λ us s1 ⟨vs,H1,I1,r,q⟩=>{I1.kIn,?_}) n c;exact yH M F l b g I1 r q
def sd(D:zB X.prog X.w X.K X.mg X.base x C k ps sp)(c:dU X E)(e:cH (k+1) X.A)(g:Gl X x)(a:(x ==("__debug__":Str))=Z2:=by decide):PE X (.Call (.Name x p) [] [] pos) (Gy C sp E HS):=by let⟨f,fd,m,M,F,b⟩:=D.ex;intro X4 s σ H Q I h;refine ajD<|oS I g m ?_ a;exact ang I.kIn M.kp<|yH (us:=[]) M F e b c I .nil h
end
abbrev Cx.tried(X:Cx)(pn:fy (jl×Obj))(xe:mu->q8->Z3):Cx:={X with pn:=pn,xe:=xe}
section
variable{X:Cx}{X4:fy (jl×Obj)}{σ:St}{H:Hp}{s:q8}{e:jl}{xe:mu->q8->Z3}
def Inv.tried(I:Inv X X4 σ H s):Inv (X.tried (X.pn++X4) xe) [] σ H s:=
 ⟨⟨I.ok.mod,I.ok.kind,I.ok.glob,I.ok.blt,I.ok.above,I.ok.inj,I.ok.has,I.ok.cab,I.ok.hd,I.ok.frames,I.ok.stk,I.ok.exf,I.ok.bs,I.ok.bsz,I.ok.uM,I.ok.ua,I.ok.jJ,I.ok.frf⟩,
  I.os,I.bare,I.base,I.loc,I.cell,I.free,I.g9,λp a=>I.pin p (⇑a),I.hok,I.len⟩
def Inv.gb(ok:X.Ok)(I:Inv (X.tried (X.pn++X4) xe) ps σ H s):Inv X X4 σ H s:=
 {ok,I.os,I.bare,I.base,I.loc,I.cell,I.free,I.g9,λp a=>I.pin p<|ajZ _ a,I.hok,I.len}
end
abbrev TH:=jl->jl->TS
def PH(X:Cx)(hs:fy ExceptHandler)(th:TH):Z3:=
 ∀(X4:fy (jl×Obj))(s:q8)(σ:St)(H:Hp)(D:Ends)(e C:jl)(od:nt jl)(T:jl),Inv X X4 σ H s->EE H e C od->Fly s.heap e T .none->fq X X4 H T->th e C D σ H →
  wpAny (model X.prog X.w) X.A (handleBy (.ref e) X.env hs) (SP X X4 D) X.xe s
inductive hPl(K:Frag)(DC:jl)(ts:jl->fy (jl×Obj)->TS)(tr:TH)(e:jl)(C:jl)(D:Ends)(σ:St)(H:Hp):Z3
 |m b(_:mroIn K C (.ref DC)=some b)(_:if b=Z1 then(∀pn,ts e pn D σ H) else tr e C D σ H)
section
variable{X:Cx}{x n:Z6}{i:Z5}{DC:jl}{np pos:Pos}{b0:Stmt}{suite:fy Stmt}{rest:fy ExceptHandler}{ts:jl->fy (jl×Obj)->TS}{tr:TH}
def SP.gb{X4:fy (jl×Obj)}{D:Ends}{xe:mu->q8->Z3}{fl:Flow}{s':q8}(ok:X.Ok)(h:SP (X.tried (X.pn++X4) xe) [] D fl s'):SP X X4 D fl s':=by
 cases fl with
 |next=>let⟨σ',H',b4,q⟩:=h;exact{σ',H',b4.gb ok,q}
 |brk=>let⟨σ',H',b4,q⟩:=h;exact{σ',H',b4.gb ok,q}
 |cont=>let⟨σ',H',b4,q⟩:=h;exact{σ',H',b4.gb ok,q}
 |ret u=>let⟨v,σ',H',b4,r,q⟩:=h;exact{v,σ',H',b4.gb ok,r,q}
def ahz(tb:fy (jl×Obj)->(mu->q8->Z3)->XS->TS)(th:TH):TS:=λD σ H=>∀pn xe,tb pn xe (λσ' cls oe H'=>∃e C,cls=.ref C/\oe=some e/\th e C D σ' H') D σ H
def Gd(q:∀pn xe E,dU (X.tried pn xe) E->PSs (X.tried pn xe) body (tb pn xe E))(L:PH X (h0::hs) th)(a:X.stack=X.env::X.outer)(p:X.env.frame=some X.env.locals) :
  PS X (.Try body (h0::hs) [] [] pos) (ahz tb th):=by
 intro X4 s σ H D I h;refine wpAny_Try_except ?_;refine ajz (q (X.pn++X4) (λv c=>wpAny (model X.prog X.w) X.A (noteFrame v X.env) (λ_ m=>wpAny (model X.prog X.w) X.A (setFlight v Z0) (λ_ l=>wpAny (model X.prog X.w) X.A (handleBy v X.env (h0::hs)) (SP X X4 D) X.xe l) X.xe m) X.xe c)
  (λσ' cls oe H'=>∃e C,cls=.ref C/\oe=some e/\th e C D σ' H') ?_ [] s σ H D I.tried (h _ _)) (λfl s1 h1=>?_) λv s1 h1=>h1
 .rintro ps σ' H1 s1 v s2 b4 ⟨e,C,od,T,H2,rfl,os,g,un,t,x,Y,S,o,e',C',ec,B,r⟩;cases ec;cases B;let O:=b4.Es (ch:=[]) os un t g λb z=>absurd z o8;let n:Inv X X4 σ' H2 s2:=O.gb I.ok;let fp:fq X X4 H2 T:=(b4.gb I.ok).nO Y S;let F:X.A.frames=some (X.env::X.outer):=by rw[←a];exact I.ok.frames
  refine EZ F (by rw[←a];exact n.stack) p o λh3 T3 j=>?_
  rw[←a] at j;let U:=n.Vp (ch:=[T]) x j (λb q=>by let:=ai7.mp q;subst this;exact fp);let f:fq X X4 H2 T3:=n.nO j.new<|n.hok.fresh j.new;refine BD (s:={s2 with heap:=h3}) j.fly λh4 k4 _ i=>?_
  let y:=U.landed f k4;exact L X4 _ σ' H2 D e C od T3 y x i f r
 .cases fl with
  |next=>exact ak1<|SP.gb I.ok h1
  |brk=>exact SP.gb I.ok h1
  |cont=>exact SP.gb I.ok h1
  |ret u=>exact SP.gb I.ok h1
end
def ac3(h:CXx P w o H s (λ_ _ _=>False) e s'):False:=by let⟨_,_,_,_,_,_,_,_,_,_,_,_,_,_,z⟩:=h;exact z
def HK{i j:Z4}(h:decide (V.int i=V.int j)=Z1):i=j:=V.int.inj<|ajn h
def D4{i j:Z4}(h:¬decide (V.int i=V.int j)=Z1):¬i=j:=by grind
def aR(h:Z9 H a o b=Z0):H b=Z0/\b≠a:=by
 unfold Z9 at h;split at h
 .cases h
 .grind
def HR(n:Z5):(List.replicate n [V.int 0]).flatten =(List.replicate n ↥0).map Z8:=by simp_all
def cL(h:¬g=f):bq f v ((g,x)::r) =(g,x)::bq f v r:=by grind [bq]
def Dk:bq f v ((f,x)::r) =(f,v)::r:=by grind [bq]
def lN{r:fy (Z6×V)}(h:¬f=g):List.lookup f ((g,x)::r)=List.lookup f r:=by grind
def sP{r:fy (Z6×V)}:List.lookup f ((f,x)::r)=some x:=by grind
def aV(F:fy jl)(H H':Hp):Z3:=∀b o,H b=some o->b∉F->H' b=some o
def aV.of_same(h:aj H H'):aV F H H':=λb o e _=>h b o e
def cZ(s:aV F H H')(h:p∈F∨H p=Z0):aV F H (Z9 H' p o):=λb u e a=>by
 rw[ak]
 .exact s b u e a
 .grind
def aV.refl:aV F H H:=λ_ _ e _=>e
structure Rows(H:Hp)(L:fy jl)(xss:fy (fy Z4)):Z3 where
 len:L.length=xss.length
 get:∀(i:Z5)a xs,L[i]?=some a->xss[i]?=some xs->H a=some (.lst (xs.map Z8))
def Rows.mono(R:Rows H L xss)(h:∀ a∈L,∀o,H a=some o->H' a=some o):Rows H' L xss:=
 {R.len,λi a xs b c=>h a (aiQ b) _<|R.get i a xs b c}
def Rows.snoc(R:Rows H L xss)(h:H a=some (.lst (xs.map Z8))):Rows H (L++[a]) (xss++[xs]):=
 ⟨by simp[R.len],λi b ys e c=>by
  let l:=R.len;by_cases hi:i<L.length
  .rw[aiM hi] at e;rw[aiM o6] at c;exact R.get i b ys e c
  .rw[aiO o6] at e;rw[aiO o6] at c;let f:i-L.length=0:=by grind
   rw[f] at e;rw[show i-xss.length=0 by omega] at c;let e:a=b:=⇑e
   let c:xs=ys:=⇑c
   rwa[←e,←c]⟩
def Rows.at_(R:Rows H L xss){i:Z5}(h:xss[i]?=some xs):∃a,L[i]?=some a/\a∈L/\H a=some (.lst (xs.map Z8)):=by
 let hi:i<L.length:=by rw[R.len];exact(aiH.mp h).1
 exact{L[i],aiG hi,ajF hi,R.get i _ xs (aiG hi) h}
def Rows.here(R:Rows H L xss):∀ a∈L,∃o,H a=some o:=λa b=>by
 let⟨i,hi⟩:=aju.mp b;let c:i<xss.length:=by rw[←R.len];exact(aiH.mp hi).1
 exact{_,R.get i a _ hi<|aiG c}
structure fZ(H:Hp)(L:fy V)(chs:fy (Z4×Z4)):Z3 where
 len:L.length=chs.length
 get:∀(i:Z5)v,L[i]?=some v->∃t r,v=V.ref t/\chs[i]?=some r/\H t=some (.tup [.int r.1,.int r.2])
def fZ.nil:fZ H [] []:={J,λi v e=>by simp at e}
def fZ.mono(R:fZ H L chs)(h:∀t xs,H t=some (.tup xs)->H' t=some (.tup xs)):fZ H' L chs:=
 {R.len,λi v e=>let ⟨t,r,a,b,c⟩:=R.get i v e;{t,r,a,b,h t _ c}}
def fZ.snoc(R:fZ H L chs){r:Z4×Z4}(h:H t=some (.tup [.int r.1,.int r.2])):fZ H (L++[.ref t]) (chs++[r]):=
 ⟨by simp[R.len],λi v e=>by
  by_cases hi:i<L.length
  .rw[aiM hi] at e;let⟨t,r,a,b,c⟩:=R.get i v e;exact{t,r,a,by rwa[aiM (by grind)],c}
  .rw[aiO o6] at e;let f:i-L.length=0:=by grind
   rw[f] at e;let e:V.ref t=v:=⇑e
   refine{t,r,e.symm,?_,h};rw[aiO (by rw[←R.len];omega),←R.len,f];rfl⟩
def fl(wd ls:Z4)(ta sa:jl):fy (Z6×V):=[("wide",.int wd),("last",.int ls),("tables",.ref ta),("set_places",.ref sa)]
def s1:¬(("wide":Str) = "last"):=by decide +kernel
def s2:¬(("wide":Str) = "tables"):=by decide +kernel
def s3:¬(("wide":Str) = "set_places"):=by decide +kernel
def s4:¬(("last":Str) = "tables"):=by decide +kernel
def s5:¬(("last":Str) = "set_places"):=by decide +kernel
def s6:¬(("tables":Str) = "set_places"):=by decide +kernel
def Dw{wd ls:Z4}{ta sa:jl}:(fl wd ls ta sa).lookup ("wide":Str)=some (.int wd):=sP
def oN{wd ls:Z4}{ta sa:jl}:(fl wd ls ta sa).lookup ("last":Str)=some (.int ls):=by unfold fl;rw[lN λe=>s1 e.symm,sP]
def qX{wd ls:Z4}{ta sa:jl}:(fl wd ls ta sa).lookup ("tables":Str)=some (.ref ta):=by unfold fl;rw[lN λe=>s2 e.symm,lN λe=>s4 e.symm,sP]
def Gp{wd ls:Z4}{ta sa:jl}:(fl wd ls ta sa).lookup ("set_places":Str)=some (.ref sa):=by unfold fl;rw[lN λe=>s3 e.symm,lN λe=>s5 e.symm,lN λe=>s6 e.symm,sP]
def ly{wd ls:Z4}{ta sa:jl}{m:Z6}(h1:¬m = "wide")(h2:¬m = "last")(h3:¬m = "tables")(h4:¬m = "set_places"):(fl wd ls ta sa).lookup m=Z0:=by grind [fl]
def Sn{wd ls l2:Z4}:bq "last" (.int l2) (fl wd ls ta sa)=fl wd l2 ta sa:=by unfold fl;rw[cL s1,Dk]
def Qn{wd:Z4}:bq "set_places" (.ref sa) (bq "tables" (.ref ta) (bq "last" (.int 0) (bq "wide" (.int wd) [])))=fl wd 0 ta sa:=by show bq "set_places" (.ref sa) (bq "tables" (.ref ta)<|bq "last" (.int 0) [("wide",.int wd)])=_;rw[cL s1];show bq "set_places" (.ref sa) (bq "tables" (.ref ta) [("wide",.int wd),("last",.int 0)])=_;rw[cL s2,cL s4];show bq "set_places" (.ref sa) [("wide",.int wd),("last",.int 0),("tables",.ref ta)]=_;rw[cL s3,cL s5,cL s6];rfl
def gh(wd:Z5)(c:Z4×Z4):nt (Bool×Z4):=if c.1<0∨↥wd≤c.1 then some (Z1,c.1) else if c.2<0∨18446744073709551615<c.2 then some (Z2,c.2) else Z0
def dG(wd:Z5)(a:fy (Z4×Z4)):nt (Bool×Z4):=a.findSome?<|gh wd
def nextT(b:fy Z4)(a:fy (Z4×Z4)):fy Z4:=a.foldl (λt c=>t.set c.1.toNat c.2) b
def yv(b:fy (Z4×Z4)):∀a:fy Z4,(nextT a b).length=a.length:=by
 induction b with
 |nil=>intro a;rfl
 |cons c r e=>intro a;show(nextT (a.set c.1.toNat c.2) r).length=_;rw[e,amD]
def Ej(b:fy Z4)(a:fy (Z4×Z4))(c:Z4×Z4):nextT b (a++[c]) =(nextT b a).set c.1.toNat c.2:=by grind [nextT]
def Fv{wd:Z5}{c:Z4×Z4}(h:gh wd c=Z0):0≤c.1/\c.1<wd/\0≤c.2/\c.2≤18446744073709551615:=by grind [gh]
def qz{wd:Z5}(h:dG wd chs=Z0):∀ c∈chs,gh wd c=Z0:=by grind [dG,gh]
def tM{wd:Z5}{i:Z5}{c:Z4×Z4}(hi:chs[i]?=some c)(a:∀j d,j<i->chs[j]?=some d->gh wd d=Z0)(b:gh wd c=some x):dG wd chs=some x:=by
 unfold dG
 induction chs generalizing i with
 |nil=>simp at hi
 |cons d r f=>
  cases i with
  |zero=>
   let:d=c:=⇑hi
   rw[anh,this,b]
  |succ i=>rw[anh,a 0 d o6 rfl];exact f (i:=i) (⇑hi) λj d' g e=>a (j+1) d' o6 (⇑e)
structure bJ(C:jl)(H:Hp)(p ta sa:jl)(TL SL:fy jl)(wd:Z5)(C2 C3:fy (fy Z4)):Z3 where
 ob:∃dx,H p=some (.ins C dx (fl (wd:Z4) ((C2.length:Z4)-1) ta sa))
 tl:H ta=some (.lst (TL.map V.ref))
 sl:H sa=some (.lst (SL.map V.ref))
 tls:Rows H TL C2
 sls:Rows H SL C3
 nd:(p::ta::sa ::(TL++SL)).Nodup
 ne:C2.length≠0
 lens:C3.length=C2.length
 wds:∀ t∈C2,t.length=wd
 w1:0<wd
 w2:wd≤40
abbrev foot(p ta sa:jl)(TL SL:fy jl):fy jl:=p::ta::sa ::(TL++SL)
section
variable{C:jl}{H H':Hp}{p ta sa:jl}{TL SL:fy jl}{wd:Z5}{C2 C3:fy (fy Z4)}
def bJ.here(D:bJ C H p ta sa TL SL wd C2 C3):∀ b∈foot p ta sa TL SL,∃o,H b=some o:=by
 intro b a;simp only[foot,List.mem_cons,List.mem_append] at a;let⟨dx,c⟩:=D.ob;rcases a with rfl|rfl|rfl|a|a
 .exact{_,c}
 .exact{_,D.tl}
 .exact{_,D.sl}
 .exact D.tls.here b a
 .exact D.sls.here b a
def bJ.mono(D:bJ C H p ta sa TL SL wd C2 C3)(h:∀ b∈foot p ta sa TL SL,∀o,H b=some o->H' b=some o):bJ C H' p ta sa TL SL wd C2 C3:=by let⟨dx,e⟩:=D.ob;exact{{dx,h _ (by simp[foot]) _ e},h _ (by simp[foot]) _ D.tl,h _ (by simp[foot]) _ D.sl,D.tls.mono λa c=>h a (by simp[foot,c]),D.sls.mono λa c=>h a (by simp[foot,c]),D.nd,D.ne,D.lens,D.wds,D.w1,D.w2}
def bJ.same(D:bJ C H p ta sa TL SL wd C2 C3)(h:aj H H'):bJ C H' p ta sa TL SL wd C2 C3:=D.mono λb _ o e=>h b o e
def bJ.fresh(D:bJ C H p ta sa TL SL wd C2 C3)(h:H a=Z0):a∉foot p ta sa TL SL:=λb=>by let⟨o,e⟩:=D.here a b;rw[h] at e;cases e
def bJ.lists(D:bJ C H p ta sa TL SL wd C2 C3)(c:b∈foot p ta sa TL SL):(∃dx fs,H b=some (.ins C dx fs))∨∃xs,H b=some (.lst xs):=by
 simp only[foot,List.mem_cons,List.mem_append] at c;let⟨dx,h⟩:=D.ob;let e:∀{L:fy jl}{a:fy (fy Z4)},Rows H L a->b∈L->∃xs,H b=some (.lst xs):=λ{L a}R g=>by
  let⟨i,hi⟩:=aju.mp g;let f:i<a.length:=by rw[←R.len];exact(aiH.mp hi).1
  exact{_,R.get i b _ hi<|aiG f}
 rcases c with rfl|rfl|rfl|c|c
 .grind
 .exact .inr {_,D.tl}
 .exact .inr {_,D.sl}
 .exact .inr (e D.tls c)
 .exact .inr (e D.sls c)
def bJ.apart(D:bJ C H p ta sa TL SL wd C2 C3)(k:aV F H H')(h:∀ b∈foot p ta sa TL SL,b∉F):bJ C H' p ta sa TL SL wd C2 C3:=D.mono λb a o e=>k b o e<|h b a
end
def Ep{α:Type}{p q r:α}{A B:fy α}{x y:α}(h:(p::q::r ::(A++B)).Nodup)(c:x∉(p::q::r ::(A++B)))(e:y∉(p::q::r ::(A++B)))(a:x≠y):(p::q::r ::((A++[x]) ++(B++[y]))).Nodup:=by
 let b:(p::q::r::A) ++(B++[y]) =(p::q::r ::(A++B))++[y]:=by simp
 rw[show p::q::r ::((A++[x]) ++(B++[y])) =(p::q::r::A)++x ::(B++[y]) by simp];refine amo.nodup_iff.mpr<|ajj.mpr {λz=>?_,?_}
 .rw[b] at z;exact(ai0.mp z).elim c λz=>a<|ai7.mp z
 .rw[b];exact amo.nodup_iff.mpr (by rw[akr];exact ajj.mpr ⟨e,h⟩)
section
variable{X:Cx}
inductive oY(xs:fy V)(H:Hp)(Q:VK):Z3
 |m z n(_:xs=[.str z])(_:intText? z=some n)(_:z.length≤640)(_:Q (.int n) H)
def gP:dh X (.type "int") oY:=by rintro X4 s σ H xs us Q I r ⟨z,n,rfl,hn,a,q⟩;let⟨u,rfl,b⟩:=vals1 r;let⟨t,rfl⟩:=(show ∃t,u=Value.str z t from b);exact PySem.W.KIN.call_text hn a {.int n,H,I.tok _,{1},q}
end
def Itx(x:Z6):It:={λi _=>i<x.cps.size,λi H v H'=>H'=H/\∃c,x.cps[i]?=some c/\v=.str ⟨#[c]⟩,λi _=>x.cps.size≤i}
def II{P:t6}{w:t7}{K:Frag}{tg:Expr}(it:jl)(x:Z6)(t:Tok)(k:String)(q:k = "str_ascii_iterator"∨k = "str_iterator"):Turn P w K tg (Itx x) [it] it (λi h=>h.IsStrIter it k x t i) where
 mem:=by simp
 obj:=λi h st b a=>by
  let e:b=it:=⇑a
  subst e;let⟨o,e,c,d⟩:=st;exact{o,e,λv z=>by rw[d] at z;cases z}
 keep:=λi h h' st L=>let ⟨o,e,r⟩:=st;{o,L it o8 o e,r}
 item:=by
  intro X C O B g i X4 s σ H E I l st f;subst C O B;let f:i<x.cps.size:=f;let⟨f0,f1,f2,p,n,m⟩:=l it o8;let W:Walks X.prog X.w X.A it [it] [it] x.cps.size (SignAt x) (λi h=>h.IsStrIter it k x t i):=by
   rcases q with rfl|rfl
   .exact Walks.strAscii (I.ok.hd g) it x t
   .exact Walks.strWide (I.ok.hd g) it x t
  refine W.item i s _ _ f st λv h' S Y j L=>?_
  let⟨c,u,F,rfl⟩:=Y;let I1:Inv X X4 σ H {s with heap:=h',toks:=S}:=I.turned (λb o a e=>L b o (⇑a) e) f0 f1 p n m;let⟨o,e,U,d1⟩:=id j;exact{1,wM (s:={s with heap:=h',toks:=S}) e U d1 (by rcases q with rfl|rfl <;> decide) {.str ⟨#[c]⟩,H,I1,⟨u,J⟩,⟨J,c,F,J⟩,j,λb a=>(l b a).1}}
 done:=by
  intro X C O B g i X4 s σ H E I l st f;subst C O B;let f:x.cps.size≤i:=f;let⟨f0,f1,f2,p,n,m⟩:=l it o8;let hn:x.cps[i]? = Z0:=by simp;omega
  rcases q with rfl|rfl
  .exact wpAny_pyNext_ascii_end (I.ok.hd g) st hn λh' y=>{J,I.turned (t':=s.toks) (λb o a e=>y b o a e) f0 f1 p n m}
  .exact wpAny_pyNext_wide_end (I.ok.hd g) st hn λh' y=>{J,I.turned (t':=s.toks) (λb o a e=>y b o a e) f0 f1 p n m}
 self:=λ_ _ _ _ _ st h=>by
  rcases q with rfl|rfl
  .exact wpAny_pyIter_striter_ascii st h
  .exact wpAny_pyIter_striter_wide st h
inductive F8(R:It->Hp->Z3)(x:V)(H1:Hp):Z3
 |m z(_:x=.str z)(_:R (Itx z) H1)
def ahd(tl:TE):TI:=λσ H R=>tl σ H λx H1=>F8 R x H1
def Gx{X:Cx}{tg l:Expr}{tl:TE}(f:PE X l tl):PI X tg l (ahd tl):=by
 intro X4 s σ H R I h;refine thn (f X4 s σ H _ I h) λ v s1 ⟨x,H1,I1,r1,q1⟩=>?_
 let⟨z,e,q⟩:=q1;subst e;let⟨t,rfl⟩:=(show ∃t,v=Value.str z t from r1);let fin:∀k(c:k = "str_ascii_iterator"∨k = "str_iterator"),PIE X X4 σ tg R (.ref (~~~s1)) {s1 with heap:=s1.heap.push {.type k,Z0,.fields #[.str z t,.int 0 0],#[]}}:=λk c=>by
  refine{(~~~s1),[~~~s1],_,_,H1,J,I1.kept (t':=s1.toks) λb o e=>aiI _ e,II _ z t k c,{_,aiW _ J,J,J},λb g=>?_,q};let e:b=( ~~~s1):=⇑g
  subst e;exact I1.nO (aiL _)<|I1.hok.fresh<|aiL _
 cases a:z.cps.all (· < 128)
 .exact wpAny_pyIter_wide a (fin _<|.inr J)
 .exact wpAny_pyIter_ascii a (fin _<|.inl J)
def QK{x:Z6}{g:TG}{tb:TS}{D:Ends}{σ:St}{H:Hp}(a:Z5->St->Hp->Z3)(h0:a 0 σ H)(hs:∀i c σ H,x.cps[i]?=some c->a i σ H->g (.str ⟨#[c]⟩) σ H λb H2=>tb {D with nx:=a (i+1),ct:=a (i+1),bk:=D.nx} b H2)(n:∀σ H,a x.cps.size σ H->D.nx σ H) :
  ∃W:Z5->Z5->St->Hp->Z3,(∃m,W 0 m σ H)/\∀i m σ H,W i m σ H →
   ((Itx x).stop i H/\D.nx σ H)∨((Itx x).go i H/\∃N:St->Hp->Z3,(∀σ' H',N σ' H'->∃h,h<m/\W (i+1) h σ' H')/\∀v H',(Itx x).yld i H v H'->g v σ H' λb H2=>tb {D with nx:=N,ct:=N,bk:=D.nx} b H2):=by
 exists λi m σ H=>m=x.cps.size-i/\i≤x.cps.size/\a i σ H,{x.cps.size,o8,ajc _,h0};rintro i m σ H ⟨rfl,hi,p⟩;by_cases f:i<x.cps.size
 .refine .inr {f,a (i+1),λσ' H' l=>{x.cps.size -(i+1),o6,J,f,l},?_};rintro v H' ⟨rfl,c,j,rfl⟩;exact hs i c σ _ j p
 .let e:i=x.cps.size:=by omega
  subst e;exact .inl {aiL _,n σ H p}
def Ik{x:Z6}(D:jl){g:TG}{tt:TT}{te:TE}{σ:St}{H:Hp}{R:Hp->Z3}(h:Z5->St->Hp->fy V->Z3)(h0:h 0 σ H [])(hs:∀i c σ H ys,x.cps[i]?=some c->h i σ H ys->g (.str ⟨#[c]⟩) σ H λa o=>tt a o λb l=>if b=Z1 then
   te a l λy j=>j D=some (.lst ys)/\ys.length<Z7/\h (i+1) a (Z9 j D (.lst (ys++[y]))) (ys++[y]) else h (i+1) a l ys)(t:∀σ H ys,h x.cps.size σ H ys->R H) :
  ∃W:Z5->Z5->St->Hp->fy V->Z3,(∃m,W 0 m σ H [])/\∀i m σ' H' ys,W i m σ' H' ys->((Itx x).stop i H'/\R H')∨
   ((Itx x).go i H'/\∃N:St->Hp->fy V->Z3,(∀σ' H' f,N σ' H' f->∃q,q<m/\W (i+1) q σ' H' f)/\∀v H2,(Itx x).yld i H' v H2->g v σ' H2 λa o=>tt a o λb l=>if b=Z1 then
    te a l λy j=>j D=some (.lst ys)/\ys.length<Z7/\N a (Z9 j D (.lst (ys++[y]))) (ys++[y])
    else N a l ys):=by
 exists λi m σ H ys=>m=x.cps.size-i/\i≤x.cps.size/\h i σ H ys,{x.cps.size,o8,ajc _,h0};rintro i m σ H ys ⟨rfl,hi,p⟩;by_cases n:i<x.cps.size
 .refine .inr {n,h (i+1),λσ' H' f s=>{x.cps.size -(i+1),o6,J,n,s},?_};rintro v H' ⟨rfl,c,r,rfl⟩;exact hs i c σ _ ys r p
 .let e:i=x.cps.size:=by omega
  subst e;exact .inl {aiL _,t σ H ys p}
def BP(B:X.calm=Z1):dh X (.builtin "all") (λxs H Q=>∃p,∃bs:fy Bool,xs=[.ref p]/\X0 X.K H p (bs.map V.bl)/\Q (.bl (bs.all id)) H):=by
 rintro X4 s σ H xs us Q I r ⟨p,bs,rfl,n,q⟩;let⟨u,rfl,m⟩:=vals1 r;cases m;let⟨C5,j,pl,_⟩:=I.list n;let z:X.A.in1.handled=Z0:=I.ok.hd B;let a:=j.length;let l:p<(~~~s):=by let⟨o,e,_⟩:=pl.isList;exact aiP e
 refine call_all_walk<|alq pl.isList ?_;refine{(~~~s),_,_,_,_,_,λi=>bs.getD i Z2,J,Walks.list z (~~~s) p (ajs l) C5.toArray,{{_,aiW _ J,J,J},pl.isList.push _},?_,λh' L k=>?_}
 .intro i v s' S O g F;let g:C5.toArray[i]?=some v:=g;let hi:i<bs.length:=by let:=(ajy.mp g).1;simp at this;simp at a;omega
  let⟨u,y,m⟩:=Vals.get j (i:=i) (x:=V.bl<|bs.getD i Z2) (by simp[hi]);let:v=u:=by
   let h2:C5[i]?=some v:=⇑g
   rw[h2] at y;exact aiY y
  subst this;cases (show v=Value.bool (bs.getD i Z2) from m);exact aj2 F
 .let C:Inv X X4 σ H {s with heap:=h',toks:=L}:=I.kept λb o e=>k b o (λc=>by
   let c:b=( ~~~s):=⇑c
   exact absurd (aiP e) (by rw[c];exact aj4 _))<|aiI _ e
  refine{.bl<|bs.all id,H,C,?_,q};show Value.bool _=Value.bool _;congr 1;let t:C5.toArray.size=bs.length:=by simp at a ⊢;omega
  rw[t];clear t a j pl q n;let:∀bs:fy Bool,(List.range bs.length).all (λi=>bs.getD i Z2)=bs.all id:=λbs=>by
   rw[akI,akh,akh];constructor
   .intro h b c;let⟨i,hi⟩:=aju.mp c;let f:=(aiH.mp hi).1;let:=h i<|ali.mpr f;simp[hi] at this;exact this
   .intro h i hi;let f:=ali.mp hi;let:=h bs[i] (ajF f);simpa[f] using this
  exact this bs
abbrev Ex:Z6:=Str.ofString "0123456789"
def nQ(c:Z5):Bool:=!(Builtin.Str.occurrences Ex ⟨#[c]⟩ 0 Ex.length 1).isEmpty
def isNum(z:Z6):Bool:=z.cps.toList.all nQ
def okW(z:Z6):Bool:=decide (1≤z.length)&&decide (z.length≤20) &&(decide (z.length=1)||!decide (z.cps.toList[0]?=some 48))&&isNum z
def intOf(z:Z6):Z4:=(intText? z).getD 0
def Ea{c:Z5}(h:nQ c=Z1):48≤c/\c≤57:=by
 unfold nQ at h;rw[amz] at h;let h:=ajn h;let e:Ex.cps.toList=[48,49,50,51,52,53,54,55,56,57]:=by decide +kernel
 rw[e] at h;simp at h;omega
def IF(h:isNum z=Z1)(h1:1≤z.length)(h2:z.length≤200):intText? z=some (intOf z):=by let e:=amS (x:=z) (λc a=>Ea<|akh.mp h c a) (by intro e;unfold Str.length at h1;rw[←ajT,e] at h1;simp at h1) o6;unfold intOf;rw[e];rfl
def xZ(h:okW z=Z1):intText? z=some (intOf z):=by simp only[okW,Bool.and_eq_true,decide_eq_true_eq] at h;exact IF h.2 h.1.1.1 o6
def XG(h:¬1≤z.length):okW z=Z2:=by unfold okW;rw[aiX h];rfl
def V9(h:¬z.length≤20):okW z=Z2:=by unfold okW;rw[aiX h,Bool.and_false];rfl
def GZ(h:z.length≠1)(h0:z.cps.toList[0]?=some 48):okW z=Z2:=by unfold okW;rw[aiX h,aiS h0];simp
def CH(h1:1≤z.length)(h2:z.length≤20)(h3:z.length=1∨¬z.cps.toList[0]?=some 48):okW z=isNum z:=by
 unfold okW;rw[aiS h1,aiS h2];rcases h3 with h|h
 .rw[aiS h];simp
 .rw[aiX h];simp
def str_len(z:Z6):z.cps.toList.length=z.length:=by simp[Str.length]
def Fx{z:Z6}(h:1≤z.length):∃c,z.cps.toList[0]?=some c:=by rw[←str_len] at h;exact{_,aiG o6}
def Hz(h:z.length=1)(h0:z.cps.toList[0]?=some 48):z=Str.ofString "0":=by
 rw[←str_len] at h;let⟨⟨l⟩⟩:=z
 match l,h,h0 with
 |[c],_,h0=>
  let:c=48:=⇑h0
  subst this;decide +kernel
def WG{c d:Z5}:(V.str ⟨#[c]⟩=V.str ⟨#[d]⟩)↔c=d:=by simp
def tN(x y:Z6):(x++y).length=x.length+y.length:=by show(x.cps++y.cps).size=_;simp[Str.length]
open PySem PySem.Spec PyProof.Rows Builtin Builtin.Str
def xW{x y:Z6}(h:x.cps.toList=y.cps.toList):x=y:=by let⟨⟨x⟩⟩:=x;let⟨⟨y⟩⟩:=y;rw[show x=y from h]
def yq:∀a xs,Vals (xs.map V.str) (strsFrom a xs)
 |_,[]=>.nil
 |a,x::r=>.cons ⟨a,J⟩<|yq (a+1) r
def rE:∀{us:fy mu}{xs:fy Z6},Vals (xs.map V.str) us->StrsAre us xs
 |_,[],.nil=>.nil
 |_,x::r,.cons ⟨t,e⟩ h=>by cases e;exact .cons x t<|rE h
section
variable{X:Cx}
def mK:MtR X "str.split" (λx xs H Q=>∃z y:Z6,x=.str z/\xs=[.str y]/\(y.length==0)=Z2/\z.length≤100000/\∀p,H p=Z0->Q (.ref p) (Z9 H p (.lst ((Txt.split z y).map V.str)))):=by
 rintro X4 s σ H x xs v us Q I h r ⟨z,y,rfl,rfl,g,l,q⟩;let⟨t,rfl⟩:=(show ∃t,v=Value.str z t from h);let⟨u,rfl,j⟩:=Vals.one r;let⟨c,rfl⟩:=(show ∃t,u=Value.str y t from j);let f:z.length≤Z7:=ai9 l o7;let hn:(partsBetween z (occurrences z y 0 z.length (z.length+1)) y.length).length≤Z7:=by rw[length_partsBetween];let:=StrLaws.occ_length_le_len z y 0 z.length (z.length+1);exact ai9 (show _≤100002 by omega) o7
 let fin:∀(ys:fy Z6)(k:Z5)(us:fy mu),ys=Txt.split z y->ys.length≤Z7->Vals (ys.map V.str) us->EP X X4 σ Q (.ref (~~~s)) {s with heap:=s.heap.push {.type "list",Z0,.seq us.toArray,#[]},toks:=k}:=λys k us e i m=>
  {.ref (~~~s),_,I.laid (t':=k) (o:=.lst<|ys.map V.str) (λb n q=>aiI _ q) (aiL _) {by rwa[aiE],_,(0),m,aiW _ J},J,e ▸ q _ (I.hok.fresh<|aiL _)}
 cases h1:(decide (z.length<y.length)||decide (strKind z<strKind y))
 .cases a:(occurrences z y 0 z.length (z.length+1)).isEmpty
  .refine akJ amq (amg _ _ _) al8 (al2 _ _) (meets_str_split_sep z y t c h1 g a f hn) ?_;exact fin _ _ _ ((aiJ<|alV h1).trans<|aiJ<|alV a).symm hn<|yq _ _
  .refine akJ amq (amg _ _ _) al8 (al2 _ _) (meets_str_split_not_found z y t c h1 g a) ?_;exact fin [z] _ _ ((aiJ<|alV h1).trans<|aiN a).symm (by show 1≤Z7;decide)<|.cons ⟨t,J⟩ .nil
 .refine akJ amq (amg _ _ _) al8 (al2 _ _) (meets_str_split_cannot_occur z y t c h1) ?_;exact fin [z] _ _ (aiN h1).symm (by show 1≤Z7;decide)<|.cons ⟨t,J⟩ .nil
def x6:MtR X "str.join" (λx xs H Q=>∃z p ys,x=.str z/\xs=[.ref p]/\X0 X.K H p (ys.map V.str)/\(ys.map (·.length)).sum+ys.length*z.length≤16777216/\Q (.str (Str.join z ys)) H):=by
 rintro X4 s σ H x xs v us Q I b r ⟨z,p,ys,rfl,rfl,e,a,q⟩;let⟨t,rfl⟩:=(show ∃t,v=Value.str z t from b);let⟨u,rfl,f⟩:=Vals.one r;cases f;let⟨C5,c,pl,_⟩:=I.list e;refine join_list pl.isList (⇑(rE c)) a λt' k=>{.str _,H,I.tok k,⟨t',J⟩,?_}
 rwa[show Txt.join z ys=Str.join z ys from akS z ys]
end
def yM{c:Z5}:∀{p q r t:fy Z5},c∉p->c∉q->p++c::r=q++c::t->p=q/\r=t
 |[],[],_,_,_,_,h=>{J,⇑h}
 |[],y::q,_,_,_,hq,h=>by simp at h hq;exact absurd h.1 hq.1
 |x::p,[],_,_,hp,_,h=>by simp at h hp;exact absurd h.1.symm hp.1
 |x::p,y::q,_,_,hp,hq,h=>by simp at h hp hq;let⟨b,a⟩:=yM (p:=p) (q:=q) hp.2 hq.2 h.2;exact{by rw[h.1,b],a}
def wo{c:Z5}(a:c∉p)(h:p=q++c::r):False:=a (by rw[h];simp)
def join_cons:(Str.join z (x::y::r))=x++z++Str.join z (y::r):=rfl
def AY{c:Z5}:(x ++(⟨#[c]⟩:Str)++y).cps.toList=x.cps.toList++c::y.cps.toList:=by show(x.cps++#[c]++y.cps).toList=_;simp
def AM{c:Z5}:∀{ps ws:fy Z6},ps≠[]->ws≠[]->(∀ p∈ps,c∉p.cps.toList)->(∀ p∈ws,c∉p.cps.toList)->Str.join ⟨#[c]⟩ ps=Str.join ⟨#[c]⟩ ws->ps=ws
 |[p],[w],_,_,_,_,h=>by let:p=w:=h;rw[this]
 |[p],w::w'::ws,_,_,a,_,h=>by rw[join_cons] at h;let h:p=_:=h;exfalso;let a:=a p o8;let h:=congrArg (λz:Str=>z.cps.toList) h;rw[AY] at h;exact wo a h
 |p::p'::ps,[w],_,_,_,b,h=>by rw[join_cons] at h;let h:_=w:=h;exfalso;let b:=b w o8;let h:=congrArg (λz:Str=>z.cps.toList) h;rw[AY] at h;exact wo b h.symm
 |p::p'::ps,w::w'::ws,_,_,a,b,h=>by rw[join_cons,join_cons] at h;let h:=congrArg (λz:Str=>z.cps.toList) h;rw[AY,AY] at h;let⟨e,f⟩:=yM (a p o8) (b w o8) h;let e:p=w:=xW e;rw[e,AM (c:=c) o8 o8 (λp h=>a p<|aiZ _ h) (λp h=>b p<|aiZ _ h)<|xW f]
def lu{c:Z5}(h0:ws≠[])(h:∀ p∈ws,c∉p.cps.toList):Txt.split (Str.join ⟨#[c]⟩ ws) ⟨#[c]⟩=ws:=by refine AM ?_ h0 (λp a=>StrLaws.split_free _ c p a) h<|alc _ _;intro e;let:=split_pos (Str.join ⟨#[c]⟩ ws) ⟨#[c]⟩;rw[e] at this;simp at this
def bG(n:Z4):Z6:=Str.ofString<|toString n
def D0(m:Z5):1≤(Nat.toDigits 10 m).length:=by
 by_cases h:m<10
 .rw[alm h];simp
 .let a:m % 10<10:=am3 m o7;let t:Nat.toDigits 10 (m / 10)++Nat.toDigits 10 (m % 10)=Nat.toDigits 10 (10*(m / 10)+m % 10):=alY o7 o6 a;rw[Nat.div_add_mod] at t;rw[←t,aji,alm a];simp
def wC(m:Z5):Nat.toDigits 10 m≠[]:=by intro e;let:=D0 m;rw[e] at this;exact absurd this o7
def Qv(m:Z5)(h0:0<m):∀ch,(Nat.toDigits 10 m)[0]?=some ch->ch.toNat≠48:=by
 induction m using Nat.strongRecOn with
 |_ m ih=>
  by_cases h:m<10
  .rw[alm h];intro ch e;let e:Nat.digitChar m=ch:=⇑e
   subst e;let:∀m:Z5,m<10->0<m->(Nat.digitChar m).toNat≠48:=by decide
   exact this m h h0
  .let a:m % 10<10:=am3 m o7;let t:Nat.toDigits 10 (m / 10)++Nat.toDigits 10 (m % 10)=Nat.toDigits 10 (10*(m / 10)+m % 10):=alY o7 o6 a;rw[Nat.div_add_mod] at t;intro ch e;rw[←t,aiM (ala λe=>wC (m / 10)<|aln.mp e)] at e;exact ih (m / 10) o6 o6 ch e
def jB{n:Z4}(h0:0≤n):∀ c∈(bG n).cps.toList,48≤c/\c≤57:=by let⟨m,rfl⟩:=akb h0;intro c b;unfold bG at b;rw[akt] at b;let⟨ch,a,e⟩:=aje.mp b;let r:=digit_range<|Nat.isDigit_of_mem_toDigits o7 o7 a;rwa[←e]
def CI{c:Z5}(h:48≤c/\c≤57):nQ c=Z1:=by
 unfold nQ;rw[amz];let e:Ex.cps.toList=[48,49,50,51,52,53,54,55,56,57]:=by decide +kernel
 rw[e];apply aiS;simp;omega
def gn{n:Z4}(h0:0≤n)(h:n<10 ^ 20):(bG n).length≤20:=toString_length_le h0 o7 h
def qd{n:Z4}(h0:0≤n):1≤(bG n).length:=by let⟨m,rfl⟩:=akb h0;rw[←str_len];unfold bG;rw[akt,aiE];exact ala λe=>wC m<|aln.mp e
def G0{n:Z4}(h0:0≤n):isNum (bG n)=Z1:=akh.mpr λc a=>CI<|jB h0 c a
def Ig{n:Z4}(h0:0≤n)(h:n<10 ^ 20):intText? (bG n)=some n:=by let e:=amS (x:=bG n) (jB h0) (by intro e;let:=qd h0;rw[←str_len,e] at this;exact absurd this o7)<|ai9 (gn h0 h) o7;let⟨m,rfl⟩:=akb h0;unfold bG at e ⊢;rwa[akt,am4] at e
def Cm{n:Z4}(h0:0≤n)(h:n<10 ^ 20):okW (bG n)=Z1:=by
 rw[CH (qd h0) (gn h0 h) ?_]
 .exact G0 h0
 .let⟨m,rfl⟩:=akb h0;by_cases a:m=0
  .subst a;left;decide +kernel
  .right;unfold bG;rw[akt,aiR];intro e;let⟨ch,h1,h2⟩:=aja.mp e;exact Qv m o6 ch h1 h2
def gS{n:Z4}(h0:0≤n){c:Z5}(a:c<48∨57<c):c∉(bG n).cps.toList:=λh=>by let:=jB h0 c h;omega
def jH(c:Z4×Z4):Z3:=(0≤c.1/\c.1<10 ^ 20)/\0≤c.2/\c.2<10 ^ 20
def wordOf(c:Z4×Z4):Z6:=bG c.1 ++(⟨#[61]⟩:Str)++bG c.2
def lB{c:Z4×Z4}(h:jH c):(wordOf c).length≤41:=by unfold wordOf;rw[tN,tN];let h1:=gn h.1.1 h.1.2;let h2:=gn h.2.1 h.2.2;let:(⟨#[61]⟩:Str).length=1:=rfl;omega
def tQ{c:Z4×Z4}(h:jH c):32∉(wordOf c).cps.toList:=by
 unfold wordOf;rw[AY];intro a;rcases ai0.mp a with h'|h'
 .exact gS h.1.1 (.inl o7) h'
 .rcases aiU.mp h' with h'|h'
  .exact absurd h' o7
  .exact gS h.2.1 (.inl o7) h'
def zL:Str.ofString "=" =(⟨#[61]⟩:Str):=by decide +kernel
def spS:Str.ofString " " =(⟨#[32]⟩:Str):=by decide +kernel
def adQ(c:Z4×Z4):Str.ofString (toString c.1)++Str.ofString "=" ++ Str.ofString (toString c.2)=wordOf c:=by unfold wordOf bG;rw[zL]
def wR{n:Z4}(h0:0≤n)(h:n<10 ^ 20):n.natAbs.log2<1920:=by
 by_cases a:n.natAbs=0
 .rw[a];decide
 .exact(Nat.log2_lt a).mpr (ajl (show n.natAbs<10 ^ 20 by omega) o4)
structure yl(K:Frag)(x qual:Z6)(st:Stmt)(f:jl)(fd:q9)(dV:mu):Z3 where
 ex:∃(oc:mu)(od:nt jl)(kV doc pm:mu)(an:nt jl)(cdv ct:mu)(osl:sA (nt mu)),
  fd=fnOf x qual (fz st) (dj st) (ay st) dV kV doc pm an cdv ct/\K.lookup f=some {oc,od,.func fd,osl}/\codeIn K cdv qual=Z1
 kp:keepIn K (.ref f)=Z1
section
variable{P:t6}{w:t7}{K:Frag}{mg:Z6->nt mu}{base:Heap}
def yl.okX{x qual:Z6}{st:Stmt}{f:jl}{fd:q9}{i:mu}{N ps:fy Z6}{k:Z5}{sp:Sp}(F:yl K x qual st f fd i)(S:aC N ps (ay st))(len:∀vs H Q E,sp vs H Q E->vs.length=ps.length)(b:∀a A outer s H vs Q E,cH k (A.deeper (envOfC qual (ay st) (~~~s) f a))->sp vs H Q E →
   ∃t,PSs (aX (CXx P w) P w K mg base N qual (ay st) f a A outer s H E) (dj st) t/\t {nx:=λ_ H'=>Q .non H',rt:=Q} (start N vs) H):aM P w K mg base (CXx P w) (k+1) f fd ps sp:=by
 let⟨n,od,kV,j,o,m,a,ct,g,rfl,h,c⟩:=F.ex;exact Mh h c S len λA outer s H vs Q E l e=>b a A outer s H vs Q E l e
def Ql{x qual:Z6}{st:Stmt}{f:jl}{i dV:mu}{od g:nt jl}{e:sA (nt mu)}{kV b h a ct:mu}(l:K.lookup f=some {i,od,.func (fnOf x qual (fz st) (dj st) (ay st) dV kV b h g a ct),e})(c:codeIn K a qual=Z1)(k:keepIn K (.ref f)=Z1):yl K x qual st f (fnOf x qual (fz st) (dj st) (ay st) dV kV b h g a ct) dV:={⟨i,od,kV,b,h,g,a,ct,e,J,l,c⟩,k}
def yl.binds{x qual:Z6}{st:Stmt}{f T:jl}{fd:q9}{ps:fy Z6}{o:Obj}{C5:sA mu}{n:Z5}{ds:fy mu}(F:yl K x qual st f fd (.ref T))(j:K.lookup T=some o)(hs:o.data=.seq C5 n)(h:∀kV a e c b ct us,us.length+ds.length=ps.length->∃k:nt (sA mu)->Sem (fy (Z6×mu)),
   bindArgs (fnOf x qual (fz st) (dj st) (ay st) (.ref T) kV a e c b ct) {us,[]}=seqItems? (.ref T) >>= k/\k (some C5)=pure (ps.zip (us++ds))):Binds K fd ps ds:=by
 let⟨l,od,kV,a,e,c,b,ct,g,rfl,p,i⟩:=F.ex;intro s us X m;let⟨k,h1,h2⟩:=h kV a e c b ct us (by grind);exact PySem.W.binds_K X J j hs h1 h2
end
section
variable(P:t6)(w:t7)(K:Frag)(mg:Z6->nt mu)(base:Heap)
structure Gh(x:Z6)(C:jl)(k:Z5)(ps:fy Z6)(ds:fy mu)(sp:Sp):Z3 where
 ex:∃(f:jl)(fd:q9),mg x=some (.ref C)/\Mk K C f/\aM P w K mg base (CXx P w) k f fd ps sp/\Binds K fd ps ds
structure adO(C:jl)(m:Z6)(f:jl):Z3 where
 ga:specialIn K (.ref C) "__getattribute__" = some (some (.builtin "type.__getattribute__"))
 rd:readsIn K C (.type "type")=Z1
 fc:findCls K (.ref C) (.type "type") m=some (.val (.ref f))
 kp:keepIn K (.ref f)=Z1
structure Rt(x:Z6)(C:jl)(m:Z6)(k:Z5)(ps:fy Z6)(sp:Sp):Z3 where
 ex:∃(f:jl)(fd:q9),mg x=some (.ref C)/\adO K C m f/\aM P w K mg base (CXx P w) k f fd ps sp/\Binds K fd ps []
end
def Qi(C:jl)(sp:Sp)(E:XS)(dvs:fy V)(t:TA):TE:=λσ H Q=>t σ H λvs H1=>∀x dx,H1 x=Z0->H1 dx=Z0->dx≠x →
 sp (.ref x ::(vs++dvs)) (Z9 (Z9 H1 dx<|.own x) x<|.ins C dx []) (λv H2=>v=.non/\Q (.ref x) H2) (E σ)
def Qw(a b:TE):TE:=λσ H Q=>a σ H Q∨b σ H Q
section
variable{X:Cx}{k:Z5}{f C:jl}{fd:q9}{ps:fy Z6}{sp:Sp}{E:XS}{x m:Z6}{p pos apos:Pos}{e o:Expr}{es:fy Expr}{ta:TE}{t:TA}{ds:fy mu}{dvs:fy V}
def TU(h1:PE X e t1)(h2:PE X e t2):PE X e (Qw t1 t2):=λX4 s σ H Q I h=>h.elim (h1 X4 s σ H Q I)<|h2 X4 s σ H Q I
def DR{X4:fy (jl×Obj)}{σ:St}{H:Hp}{s:q8}{Q:VK}{us:fy mu}{vs:fy V}(M:Mk X.K C f)(F:aM X.prog X.w X.K X.mg X.base (CXx X.prog X.w) k f fd ps sp)(p:cH (k+1) X.A)(q:Binds X.K fd ps ds)(rd:Vals dvs ds)(i:dU X E)(I:Inv X X4 σ H s)(r:Vals vs us)(h:∀x dx,H x=Z0->H dx=Z0->dx≠x->sp (.ref x ::(vs++dvs)) (Z9 (Z9 H dx (.own x)) x (.ins C dx [])) (λv H2=>v=.non/\Q (.ref x) H2) (E σ)) :
  wpAny (model X.prog X.w) X.A (call (.ref C) us) (EP X X4 σ Q) X.xe s:=by
 let g:=h (~~~s+1) (~~~s) (I.hok.fresh<|akZ _) (I.hok.fresh<|aiL _)<|ajs<|akA _;let b:=Inv.made (C:=C) I;let r2:Vals (V.ref (~~~s+1) ::(vs++dvs)) (Value.ref (~~~s+1)::us++ds):=.cons J<|Vals.append r rd;let m:(Value.ref (~~~s+1)::us++ds).length=ps.length:=by let e:=r2.length;rw[F.len _ _ _ _ g] at e;exact e.symm
 let c:=q _ (Value.ref (~~~s+1)::us) b.kIn m;refine am2 (AH (f:=f) I.kIn M.makes M.init (alj.mp M.fn) (akR (F.run _ X.stack _ _ {Value.ref (~~~s+1)::us,[]} (Value.ref (~~~s+1)::us++ds) _ _ (E σ) (p.make C us [])
  (b.HB.make C us []) c r2 g) λr s' a=>?_))
 cases r with
 |error e=>exact i X4 σ _ _ e s' b a
 |ok fl=>
  cases fl with
  |ret u=>let⟨v,H',n,j,l,o⟩:=b.after a;subst l;exact{j,{V.ref (~~~s+1),H',n,J,o}}
  |next=>exact False.elim a
  |brk=>exact False.elim a
  |cont=>exact False.elim a
def GU(D:Gh X.prog X.w X.K X.mg X.base x C k ps ds sp)(rd:Vals dvs ds)(g:dU X E)(l:cH (k+1) X.A)(i:Gl X x)(j:PA X (e::es) t)(a:(x ==("__debug__":Str))=Z2:=by decide)(n:starEach (e::es) X.env =(Z2,eval e X.env)::starEach es X.env:=by rfl)(c:(backTo pos (starEach es X.env)).any (·.1)=Z2:=by rfl) :
  PE X (.Call (.Name x p) (e::es) [] pos) (Qi C sp E dvs t):=by
 let⟨f,fd,m,M,F,b⟩:=D.ex;intro X4 s σ H Q I h;refine ajD<|oS I i m ?_ a;refine akm (h₀:=X.base) I.ok.mod.kin M.kp (thn (j pos X4 s σ H _ I h) λ us s1 ⟨vs,H1,I1,r,q⟩=>{I1.kIn,?_}) n c;exact DR M F l b rd g I1 r q
def Qj{pl:Sem Bool}(p:PE X o (tC (.ref C)))(D:Rt X.prog X.w X.K X.mg X.base x C m k ps sp)(i:dU X E)(n:cH k X.A)(j:PA X (e::es) t)(g:starEach (e::es) X.env =(Z2,eval e X.env)::starEach es X.env:=by rfl)(a:(backTo pos (starEach es X.env)).any (·.1)=Z2:=by rfl)(l:eval (.Call (.Attribute o m apos) (e::es) [] pos) X.env =(do
   let ov ←eval o X.env
   standAt apos.atName
   let (f,first) ←holding [ov] (getMethod ov m pl)
   callWith pos f first (backTo pos (starEach (e::es) X.env)) (backToKw pos (keywordEach [] X.env))):=by rfl) :
  PE X (.Call (.Attribute o m apos) (e::es) [] pos) (AE sp E t):=by
 let⟨f,fd,_,c,F,b⟩:=D.ex;intro X4 s σ H Q I h;refine alG (pl:=pl) (thn (p X4 s σ H (λv H'=>v=.ref C/\H'=H) I ⟨J,J⟩) λ u s1 ⟨x,H1,I1,rx,ex,eH⟩=>?_) l;subst ex eH;obtain rfl:u=Value.ref C:=rx;refine PySem.W.method_cls I1.kIn c.ga<|PySem.W.cls_value I1.kIn c.rd c.fc J ?_;refine akm (first:=[]) (h₀:=X.base) I.ok.mod.kin c.kp (thn (j pos X4 _ σ H1 _ (I1.tok _) h) λ us s2 ⟨vs,H2,I2,r,q2⟩=>{I2.kIn,?_}) g a;exact oR F n b i I2 r q2
end
def Src(i l:jl)(C5:sA mu)(k:Z5)(h:Heap):Z3:=(h.IsListIter i l k/\h.IsList l C5)∨(h.IsTupleIter i l k/\h.IsTuple l C5)
def Src.mv{k:Z5}(x:Src i l C5 k h)(f:∀o,h.get? i=some o->h'.get? i=some o)(e:∀o,h.get? l=some o->h'.get? l=some o):Src i l C5 k h':=by
 rcases x with⟨⟨o,a,b⟩,⟨p,c,d⟩⟩|⟨⟨o,a,b⟩,⟨p,c,d⟩⟩
 .exact .inl {{o,f o a,b},{p,e p c,d}}
 .exact .inr {{o,f o a,b},{p,e p c,d}}
def Src.rec{k:Z5}(x:Src i l C5 k h):∃o,h.get? i=some o/\∀v,o.data≠.cell v:=by rcases x with⟨⟨o,a,_,d⟩,_⟩|⟨⟨o,a,_,d⟩,_⟩ <;> exact{o,a,λv q=>by rw[d] at q;cases q}
section
variable{prog:t6}{w:t7}{A:Around}{E:mu->q8->Z3}{s:q8}{i l:jl}{C5:sA mu}{k:Z5}
def Hh(h1:s.heap.IsTupleIter i l k)(h2:s.heap.IsTuple l C5)(f:C5[k]?=some x)(h:∀h',h'.IsTupleIter i l (k+1)->Heap.SameBut i s.heap h'->Q x {s with heap:=h'}) :
  wpAny (model prog w) A (Builtin.SmallTypes.nextOf (.ref i)) Q E s:=by
 let⟨o,b,g,a⟩:=id h1;let⟨j,c,_,m,e⟩:=h2;let S:=alE;unfold Builtin.SmallTypes.nextOf;refine aiF<|ajQ (name:=Str.ofString "__next__") h1.typeIs S<|ajS S h1.typeIs alz ?_<|als _;show wpAny _ _ (field (Value.ref i) 0 >>= _) _ _ s;refine aiF<|ajE b a (x:=Value.ref l) J ?_;show wpAny _ _ (if (Value.ref l==.none)=Z1 then _ else _) _ _ s;rw[aiJ o8];show wpAny _ _ (field (Value.ref i) 1 >>= _) _ _ s;refine aiF<|ajE b a (x:=Value.int k 0) J ?_;show wpAny _ _ (seqItems? (Value.ref l) >>= _) _ _ s;refine aiF<|wpAny_seqItems c e ?_;simp only[Int.toNat_natCast,f];refine aiF<|akg b a o8<|aiK {x,J,aiK<|h _ {_,ajw _ b<|aks<|ajO a _,(al9 ..).trans g,?_}<|akd ..};rw[ajO a];simp[rawInt]
def QO(j:A.handled=Z0)(h1:s.heap.IsTupleIter i l k)(h2:s.heap.IsTuple l C5)(h:C5[k]? = Z0)(n:∀h' e,Heap.ExtBut i s.heap h'->(∃o,h'.get? e=some o/\o.cls=.type "StopIteration")->E (.ref e) {s with heap:=h'}) :
  wpAny (model prog w) A (Builtin.SmallTypes.nextOf (.ref i)) Q E s:=by
 let⟨o,g,q,f⟩:=id h1;let⟨p,b,_,r,c⟩:=h2;let S:=alE;unfold Builtin.SmallTypes.nextOf;refine aiF<|ajQ (name:=Str.ofString "__next__") h1.typeIs S<|ajS S h1.typeIs alz ?_<|als _;show wpAny _ _ (field (Value.ref i) 0 >>= _) _ _ s;refine aiF<|ajE g f (x:=Value.ref l) J ?_;show wpAny _ _ (if (Value.ref l==.none)=Z1 then _ else _) _ _ s;rw[aiJ o8];show wpAny _ _ (field (Value.ref i) 1 >>= _) _ _ s;refine aiF<|ajE g f (x:=Value.int k 0) J ?_;show wpAny _ _ (seqItems? (Value.ref l) >>= _) _ _ s;refine aiF<|wpAny_seqItems b c ?_;simp only[Int.toNat_natCast,h];refine aiF<|wpAny_rule<|aiF<|akg g f o8 ?_;show wpAny _ _ (newExc (Value.type "StopIteration") [] >>= _) _ _ _;refine aiF ?_;simp only[newExc,newTuple];refine aiF<|ajC ?_ (by size_fits);refine aiF (m:=firstArgMember _ _)<|alA (a:=Value.none) (by simp only[firstArgMember];rfl)<|ajC ?_ (by size_fits);simp only[raiseNew];refine aiF<|wpAny_handled ?_;rw[show A.in1.handled=Z0 from j];exact aiF<|aiK<|wpAny_throw<|n _ _ (((akd ..).extBut.push _).push _) {_,aiW _ J,J}
def Src.item(S:Src i l C5 k s.heap)(g:l≠i)(h:C5[k]?=some x)(j:∀h',Src i l C5 (k+1) h'->Heap.SameBut i s.heap h'->Q x {s with heap:=h'}) :
  wpAny (model prog w) A (Builtin.SmallTypes.nextOf (.ref i)) Q E s:=by
 rcases S with⟨a,b⟩|⟨a,b⟩
 .exact wpAny_nextOf_list_item a b h λh' f e=>j h' (.inl {f,let ⟨p,c,d⟩:=b;{p,e.extBut _ _ g c,d}}) e
 .exact Hh a b h λh' f e=>j h' (.inr {f,let ⟨p,c,d⟩:=b;{p,e.extBut _ _ g c,d}}) e
def Src.fin(g:A.handled=Z0)(S:Src i l C5 k s.heap)(c:C5[k]? = Z0)(f:∀h' e,Heap.ExtBut i s.heap h'->(∃o,h'.get? e=some o/\o.cls=.type "StopIteration")->E (.ref e) {s with heap:=h'}) :
  wpAny (model prog w) A (Builtin.SmallTypes.nextOf (.ref i)) Q E s:=by
 rcases S with⟨a,b⟩|⟨a,b⟩
 .exact wpAny_nextOf_list_end g a b c f
 .exact QO g a b c f
end
abbrev zS1(h:Heap)(t:jl):Heap:=h.push {.type "tuple_iterator",Z0,.fields #[.ref t,.int 0 0],#[]}
def Src.tup{k:Z5}(x:Src i l C5 k h)(t:h.IsTuple l us):h.IsTupleIter i l k:=by
 rcases x with⟨_,⟨p,c,d,_⟩⟩|⟨a,_⟩
 .let⟨q,e,f,_⟩:=t;rw[c] at e;cases e;rw[d] at f;simp at f
 .exact a
def Src.lst{k:Z5}(x:Src i l C5 k h)(t:h.IsList l us):h.IsListIter i l k:=by
 rcases x with⟨a,_⟩|⟨_,⟨p,c,d,_⟩⟩
 .exact a
 .let⟨q,e,f,_⟩:=t;rw[c] at e;cases e;rw[d] at f;simp at f
def qy{K:Frag}{a:jl}(D:jl){xs:fy V}{g:TG}{tt:TT}{te:TE}{σ:St}{H:Hp}{R:Hp->Z3}(f:Z5->St->Hp->fy V->Z3)(h0:f 0 σ H [])(s:∀i σ H ys,i≤xs.length->f i σ H ys->X3 K H a xs)(hs:∀i x σ H ys,xs[i]?=some x->f i σ H ys->g x σ H λc o=>tt c o λb l=>if b=Z1 then
   te c l λy j=>j D=some (.lst ys)/\ys.length<Z7/\f (i+1) c (Z9 j D (.lst (ys++[y]))) (ys++[y]) else f (i+1) c l ys)(u:∀σ H ys,f xs.length σ H ys->R H) :
  ∃W:Z5->Z5->St->Hp->fy V->Z3,(∃m,W 0 m σ H [])/\∀i m σ' H' ys,W i m σ' H' ys->((Itt K a).stop i H'/\R H')∨
   ((Itt K a).go i H'/\∃N:St->Hp->fy V->Z3,(∀σ' H' h,N σ' H' h->∃r,r<m/\W (i+1) r σ' H' h)/\∀x H2,(Itt K a).yld i H' x H2->g x σ' H2 λc o=>tt c o λb l=>if b=Z1 then
    te c l λy j=>j D=some (.lst ys)/\ys.length<Z7/\N c (Z9 j D (.lst (ys++[y]))) (ys++[y])
    else N c l ys):=by
 exists λi m σ H ys=>m=xs.length-i/\i≤xs.length/\f i σ H ys,{xs.length,o8,ajc _,h0};rintro i m σ H ys ⟨rfl,hi,p⟩;let q:=s i σ H ys hi p;by_cases n:i<xs.length
 .refine .inr {{xs,xs[i],q,by simp[n]},f (i+1),λσ' H' h t=>{xs.length -(i+1),o6,J,n,t},λx H' y=>?_};let⟨e,y⟩:=y;subst e;exact hs i x σ _ ys (y xs q) p
 .let e:i=xs.length:=by omega
  subst e;exact .inl {{xs,q,aiL _},u σ H ys p}
def tI(n:Z4):Z4:=n*128 % 18446744073709551616+n / 144115188075855872
def GG(n:Z5):tI ↥n =(Chk.T n:Z5):=by unfold tI Chk.T;omega
def CY(a b:Z5):Builtin.bitXor ↥a ↥b =((a ^^^ b:Z5):Z4):=by
 rw[PyProof.Rows.bitXor_and];let e:Builtin.bitAnd ↥a ↥b =((a &&& b:Z5):Z4):=by unfold Builtin.bitAnd;simp
 rw[e];let:=Chk.QN a b;omega
def flat(rows:fy (Z5×Z5)):fy Z5:=rows.flatMap λr=>[r.1,r.2]
def yT(rows:fy (Z5×Z5))(r:Z5×Z5):flat (rows++[r])=flat rows++[r.1,r.2]:=by simp[flat]
structure dO(H:Hp)(L:fy V)(rows:fy (Z5×Z5)):Z3 where
 len:L.length=rows.length
 get:∀(i:Z5)v,L[i]?=some v->∃t r,v=V.ref t/\rows[i]?=some r/\H t=some (.tup [.int (r.1:Z4),.int (r.2:Z4)])
def dO.mono(R:dO H L rows)(h:∀t xs,H t=some (.tup xs)->H' t=some (.tup xs)):dO H' L rows:=
 {R.len,λi v e=>let ⟨t,r,a,b,c⟩:=R.get i v e;{t,r,a,b,h t _ c}}
def dO.snoc(R:dO H L rows){r:Z5×Z5}(h:H t=some (.tup [.int ↥r.1,.int ↥r.2])):dO H (L++[.ref t]) (rows++[r]):=
 ⟨by simp[R.len],λi v e=>by
  by_cases hi:i<L.length
  .rw[aiM hi] at e;let⟨t,r,a,b,c⟩:=R.get i v e;exact{t,r,a,by rwa[aiM (by grind)],c}
  .rw[aiO o6] at e;let f:i-L.length=0:=by grind
   rw[f] at e;let e:V.ref t=v:=⇑e
   refine{t,r,e.symm,?_,h};rw[aiO (by rw[←R.len];omega),←R.len,f];rfl⟩
def zQ(l:fy (Z5×Z5)):(flat l).length=2*l.length:=by
 induction l with
 |nil=>rfl
 |cons r l a=>have:flat (r::l)=r.1::r.2::flat l:=rfl;rw[this];simp only[List.length_cons,a];omega
def zK:bq "rows" v [("day",x)] =([("day",x),("rows",v)]:fy (Z6×V)):=by rw[cL o4];rfl
def nc:bq "check" v [("day",x),("rows",y)] =([("day",x),("rows",y),("check",v)]:fy (Z6×V)):=by rw[cL o4,cL o4];rfl
def Bh:bq "fits" v [("day",x),("rows",y),("check",z)] =([("day",x),("rows",y),("check",z),("fits",v)]:fy (Z6×V)):=by rw[cL o4,cL o4,cL o4];rfl
def aa4{x:V}{r:fy (Z6×V)}:List.lookup ("day":Str) (("day",x)::r)=some x:=by rw[ajq];simp
def Cw{x y:V}{r:fy (Z6×V)}:List.lookup ("rows":Str) (("day",x) ::("rows",y)::r)=some y:=by rw[ajq,show(("rows":Str) == "day")=Z2 by decide +kernel,ajq];simp
def qx{x y z:V}{r:fy (Z6×V)}:List.lookup ("check":Str) (("day",x) ::("rows",y) ::("check",z)::r)=some z:=by rw[ajq,show(("check":Str) == "day")=Z2 by decide +kernel,ajq,show(("check":Str) == "rows")=Z2 by decide +kernel,ajq];simp
def pfs(a:Bool)(b d:Z5)(r:jl)(c:Z4)(f:Bool):fy (Z6×V):=match a with
 |true=>[("day",V.int ↥d),("rows",V.ref r),("check",V.int c),("fits",V.bl f)]
 |false=>[("day",V.int ↥d),("rows",V.ref r),("check",V.int c),("fits",V.bl f),("base",V.int ↥b)]
def stN(a:Bool)(b:Z5):Z5:=cond a 0 (b+1)
def DX(a:Bool)(b d:Z5)(rows:fy (Z5×Z5)):Z5:=Chk.chk (stN a b::d::flat rows)
def PAt(CW CG:jl)(H:Hp)(p:jl)(a:Bool)(b d:Z5)(rows:fy (Z5×Z5))(c:Z4):Z3:=
 ∃dx r R,H p=some (.ins (cond a CW CG) dx<|pfs a b d r c<|decide (c =(DX a b d rows:Z5)))/\H r=some (.tup R)/\dO H R rows
def PAt.keep{b d:Z5}{c:Z4}(h:PAt CW CG H p wh b d rows c)(s:aj H H'):PAt CW CG H' p wh b d rows c:=by let⟨dx,r,R,h1,h2,h3⟩:=h;exact{dx,r,R,s _ _ h1,s _ _ h2,h3.mono λt xs e=>s _ _ e}
def eF(c:H x=Z0)(g:H dx=Z0)(k:aV [x] (Z9 (Z9 H dx (.own x)) x o) H'):aj H H':=λb u e=>by let a:=ao e c;let f:=ao e g;exact k b u (by rwa[ak a,ak f]) (⇑a)
def abN{i j:Z4}:decide (V.int i=V.int j)=decide (i=j):=by grind
inductive qP(vs:fy V)(H:Hp)(Q:VK)(E:XK):Z3
 |m n(_:vs=[.int n])(_:Q (.int (tI n)) H)
inductive ve(vs:fy V)(H:Hp)(Q:VK)(E:XK):Z3
 |m (s d:Z5) (a:jl) (L:fy V) (rows:fy (Z5×Z5))(_:vs=[.int ((s:Z4)-1),.int (d:Z4),.ref a])(_:H a=some (.lst L)∨H a=some (.tup L))(_:dO H L rows)(_:rows.length≤100)(_:∀H',aj H H'->Q (.int (Chk.chk (s::d::flat rows):Z5)) H')
inductive qh(K:Frag)(vs:fy V)(H:Hp)(Q:VK)(E:XK):Z3
 |m (p C dx a:jl) (s d:Z5) (L:fy V) (rows:fy (Z5×Z5)) (cv:V) (c:Z4)(_:vs=[.ref p,.int ((s:Z4)-1),.int (d:Z4),.ref a,cv])(_:H p=some (.ins C dx []))(_:Cls K C)(_:aO K C "day")(_:aO K C "rows")(_:aO K C "check")(_:aO K C "fits")(_:H a=some (.lst L)∨H a=some (.tup L))(_:dO H L rows)(_:rows.length≤100)(_:(cv=.non/\c =(Chk.chk (s::d::flat rows):Z5))∨cv=.int c)(_:∀r R H',H' p=some (.ins C dx [("day",V.int (d:Z4)),("rows",V.ref r),("check",V.int c),("fits",V.bl (decide (c =(Chk.chk (s::d::flat rows):Z5))))])->H' r=some (.tup R)->dO H' R rows->aV [p] H H'->Q .non H')
inductive lO(CW CG:jl)(vs:fy V)(H:Hp)(Q:VK)(E:XK):Z3
 |m (p dx a:jl) (d:Z5) (L:fy V) (rows:fy (Z5×Z5)) (cv:V) (c:Z4)(_:vs=[.ref p,.int (d:Z4),.ref a,cv])(_:H p=some (.ins CW dx []))(_:H a=some (.lst L)∨H a=some (.tup L))(_:dO H L rows)(_:rows.length≤100)(_:(cv=.non/\c =(DX Z1 0 d rows:Z5))∨cv=.int c)(_:∀H',PAt CW CG H' p Z1 0 d rows c->aV [p] H H'->Q .non H')
def yi:∀{us:fy mu}{ns:fy Z4},IntsAre us ns->Vals (ns.map Z8) us
 |_,_,.nil=>.nil
 |_,_,.cons _ t r=>.cons ⟨t,J⟩<|yi r
def vf(h:IntsAre us ns):us.length=ns.length:=by let:=(yi h).length;rw[aiE] at this;exact this.symm
def BA(x:bK P w H h a o):∃ob,h.get? a=some ob:=by
 cases o with
 |lst xs=>let⟨_,_,_,_,e⟩:=x;exact{_,e}
 |tup xs=>let⟨_,_,_,ob,e,_⟩:=x;exact{_,e}
 |dK C4=>let⟨_,_,_,_,o,_,_,e,_⟩:=x;exact{_,e}
 |dT C4=>let⟨_,_,_,_,o,_,_,e,_⟩:=x;exact{_,e}
 |set S n=>let⟨o,_,_,_,e,_⟩:=x;exact{_,e}
 |ins C dx fs=>let⟨_,_,_,e,_⟩:=x;exact{_,e}
 |own y=>exact x
 |xd fs=>let⟨_,⟨_,_,_,e,_⟩,_⟩:=x;exact{_,e}
 |rng lo hi=>let⟨_,_,_,e⟩:=x;exact{_,e}
 |frz ob u=>exact{_,x.1}
 |tbl ps=>exact{_,x}
 |met f y=>exact{_,x}
 |ext b=>exact x.2.1
section
variable{X:Cx}{X4:fy (jl×Obj)}{σ:St}{H:Hp}{s:q8}
def Inv.W6{t':Z5}(I:Inv X X4 σ H s)(hn:s.heap.get? a=Z0)(k:∀b o,s.heap.get? b=some o->h'.get? b=some o)(new:bK X.prog X.w (Z9 H a (.lst vs)) h' a (.lst vs)) :
  ∃_:H a=Z0,Inv X X4 σ (Z9 H a (.lst vs)) {s with heap:=h',toks:=t'}/\True:=by
 let f:H a=Z0:=by
  cases z:H a with
  |none=>rfl
  |some o=>let⟨i,g⟩:=BA<|I.hok a o z;rw[hn] at g;cases g
 refine{f,?_,trivial};let j:∀b o,s.heap.get? b=some o->b≠a:=λb o e z=>by rw[z,hn] at e;cases e
 let h:Un X.fs [] H (Z9 H a (.lst vs)) s.heap h':=by
  refine{λb o e _ _ _=>k b o e,λb o e _ _ _=>{o.slots,k b o e},λb o e n _=>?_,λb o e _=>{o,k b o e},λb xs e=>?_,λb o u e=>?_,λb ps e=>{#[],?_}}
  .grind [bK,Z9]
  .grind [bK,Z9]
  .grind [bK,Z9]
  .grind [bK,Z9]
 refine I.un h λb o e=>?_
 by_cases z:b=a
 .grind [bK,Z9]
 .rw[ak z] at e;exact(I.hok b o e).stay (λc v _ q=>k c v q) (λc q=>by rwa[ak<|ao q f]) λc xs q=>by rwa[ak<|ao q f]
end
def sfs(d:jl)(fl:Z4):fy (Z6×V):=[("pieces",V.ref d),("follows",V.int fl)]
def BY:bq "follows" v [("pieces",x)] =([("pieces",x),("follows",v)]:fy (Z6×V)):=by rw[cL o4];rfl
def As{fl m:Z4}:bq "follows" (.int m) (sfs d fl)=sfs d m:=by unfold sfs;rw[cL o4,Dk]
def EI{fl:Z4}:List.lookup ("pieces":Str) (sfs d fl)=some (V.ref d):=by grind [fl,sfs]
def pB{fl:Z4}:List.lookup ("follows":Str) (sfs d fl)=some (V.int fl):=by unfold sfs;rw[ajq,show(("follows":Str) == "pieces")=Z2 by decide +kernel,ajq];simp
def vJ{m:Z6}{d:jl}{fl:Z4}(h1:(m == "pieces")=Z2)(h2:(m == "follows")=Z2):List.lookup m (sfs d fl)=Z0:=by grind [fl,sfs]
inductive iS(C:jl)(H:Hp)(p d:jl)(fl:Z4)(C4:fy (Key×V)):Z3
 |m dx(_:H p=some (.ins C dx (sfs d fl)))(_:H d=some (.dK C4))
inductive uS(C:jl)(vs:fy V)(H:Hp)(Q:VK)(E:XK):Z3
 |m p dx(_:vs=[.ref p])(_:H p=some (.ins C dx []))(_:∀d H',iS C H' p d 0 []->H d=Z0->aV [p] H H'->Q .non H')
inductive Aa(C:jl)(vs:fy V)(H:Hp)(Q:VK)(E:XK):Z3
 |m p d fl C4 n a(_:vs=[.ref p,.int n,.ref a])(_:iS C H p d fl C4)(_:C4.length<1000)(_:∀H',iS C H' p d (if n+1>fl then n+1 else fl) (putK C4 (.inl n) (.ref a))->aV [p,d] H H'->Q .non H')
inductive Aw(C:jl)(vs:fy V)(H:Hp)(Q:VK)(E:XK):Z3
 |m p d fl C4 a(_:vs=[.ref p,.ref a])(_:iS C H p d fl C4)(_:C4.length<1000)(_:∀H',iS C H' p d (fl+1) (putK C4 (.inl fl) (.ref a))->aV [p,d] H H'->Q (.int fl) H')
def sI{c A B:Z3}[Decidable c](a:¬c)(h:A):if (!decide c)=Z1 then A else B:=by grind
def nH(a:fy (Key×V)):Z3:=∀ b∈a,∃n:Z4,b.1=Sum.inl n
def nH.nil:nH []:=λ_ h=>by cases h
def nH.put(h:nH C4)(n:Z4)(v:V):nH (putK C4 (Sum.inl n) v):=λc a=>by
 unfold putK at a;split at a
 .let⟨b,h1,rfl⟩:=aje.mp a;let⟨m,e⟩:=h b h1;split
  .exact⟨m,e⟩
  .exact⟨m,e⟩
 .rcases ai0.mp a with h1|h1
  .exact h c h1
  .grind
def iS.adM{fl:Z4}(h:iS C H p d fl C4)(k:aV F H H')(a:p∉F)(b:d∉F):iS C H' p d fl C4:=by let⟨dx,h1,h2⟩:=h;exact{dx,k _ _ h1 a,k _ _ h2 b}
def SqB(K:Frag)(tu:Bool)(H:Hp)(l:jl)(xs:fy V):Z3:=cond tu (X3 K H l xs)<|X0 K H l xs
def jw(tu:Bool)(h:Heap)(it l:jl)(i:Z5):Z3:=cond tu (h.IsTupleIter it l i)<|h.IsListIter it l i
def mC(tu:Bool)(h:Heap)(l:jl)(us:sA mu):Z3:=cond tu (h.IsTuple l us)<|h.IsList l us
def jw.src{i:Z5}(a:jw tu h it l i)(b:mC tu h l us):Src it l us i h:=by grind [jw,mC,Src]
def jw.mv{i:Z5}(a:jw tu h it l i)(k:∀o,h.get? it=some o->h'.get? it=some o):jw tu h' it l i:=by cases tu <;>(let⟨o,e,r⟩:=a;exact{o,k o e,r})
def jw.obj{i:Z5}(a:jw tu h it l i):∃o,h.get? it=some o/\∀v,o.data≠.cell v:=by cases tu <;>(let⟨o,e,_,d⟩:=a;exact{o,e,λv q=>by rw[d] at q;cases q})
def mC.mv(a:mC tu h l us)(k:∀o,h.get? l=some o->h'.get? l=some o):mC tu h' l us:=by cases tu <;>(let⟨o,e,r⟩:=a;exact{o,k o e,r})
def mC.lt(a:mC tu h l us):l<h.objs.size:=by cases tu <;>(let⟨o,e,r⟩:=a;exact aiP e)
def Src.agb{i:Z5}(S:Src it l us i h)(b:mC tu h l us'):jw tu h it l i:=by
 cases tu
 .exact S.lst b
 .exact S.tup b
def SqB.items{X:Cx}{X4:fy (jl×Obj)}{σ:St}{H:Hp}{s:q8}{tu:Bool}{l:jl}{xs:fy V}(I:Inv X X4 σ H s)(h:SqB X.K tu H l xs):∃us:fy mu,Vals xs us/\mC tu s.heap l us.toArray:=by
 cases tu
 .let⟨us,r,p,_⟩:=I.list h;exact⟨us,r,p.isList⟩
 .let⟨us,r,p,_⟩:=I.tuple h;exact⟨us,r,p⟩
def SqB.inj(I:Inv X X4 σ H s)(h:SqB X.K tu H l xs)(h':SqB X.K tu H l ys):xs=ys:=by
 cases tu
 .exact I.uF h h'
 .exact I.yE h h'
def wJ(c:A.handled=Z0)(b:l≠it):Draws prog w A it [it,l] us.size (λi x=>us[i]?=some x) (λi h=>Src it l us i h) where
 live:=λi h st=>let ⟨o,e,_⟩:=st.rec;⟨o,e⟩
 frame:=λi h h' st k=>st.mv (λo e=>k it o8 o e) (λo e=>k l o8 o e)
 item:=λi s Q E hi st g=>Src.item st b (x:=us[i]) (by simp[hi]) λh' a j=>g _ h' s.toks (by simp[hi]) a j
 done:=λs Q E st f=>Src.fin c st o8 f
def Ite(K:Frag)(tu:Bool)(l:jl):It:=
 ⟨λi H=>∃xs x,SqB K tu H l xs/\xs[i]?=some x,
  λi H v H'=>∃T x,H T=Z0/\v=.ref T/\H'=Z9 H T (.tup [.int ↥i,x])/\∀xs,SqB K tu H l xs->xs[i]?=some x,
  λi H=>∃xs,SqB K tu H l xs/\xs.length=i⟩
def ahr(tu:Bool)(e it l:jl)(i:Z5)(h:Heap):Z3:=(∃a,IsEnum h e it ↥i a)/\jw tu h it l i
def FJ{P:t6}{w:t7}{K:Frag}{es:fy Expr}{x1}{tp:Pos}(tu:Bool)(e it l:jl)(p:e≠it)(m:l≠e)(n:l≠it):Turn P w K (.Tuple es x1 tp) (Ite K tu l) [e,it] e (ahr tu e it l) where
 mem:=by simp
 obj:=λi h st b j=>by
  let⟨⟨f,h1⟩,h2⟩:=st;simp only[List.mem_cons,List.not_mem_nil,or_false] at j;rcases j with rfl|rfl
  .grind
  .exact h2.obj
 keep:=λi h h' st k=>by let⟨⟨f,h1⟩,h2⟩:=st;exact{{f,k e o8 _ h1},h2.mv λo x=>k it o8 o x}
 item:=by
  intro X S hw F a i X4 s σ H E I z st hg;subst S hw F;let⟨⟨f,h1⟩,h2⟩:=st;let⟨xs,x,v,ex⟩:=hg;let⟨us,Y,y⟩:=SqB.items I v;let⟨u,eu,ru⟩:=Vals.get Y ex;let a0:i<us.toArray.size:=by grind
  refine wpAny_pyNext_enum_itemD (wJ (I.ok.hd a) n) h1 (h2.src y) a0 p (by simp[p,m.symm]) λt h' A a1 ho U hT hsz kk=>?_
  let e1:t=u:=by grind
  subst e1;refine{1,wpAny_letOwnedTupleGo_enum ho λg y1 B=>?_};let r:e<(~~~s):=aiP h1;let O:it<(~~~s):=by let⟨o,q,_⟩:=h2.obj;exact aiP q
  let lt:∀ b∈[e,it],b<(~~~s):=λb j=>by
   simp only[List.mem_cons,List.not_mem_nil,or_false] at j;rcases j with rfl|rfl
   .exact r
   .exact O
  let keep:∀c o,c∉[e,it]->s.heap.get? c=some o->g.get? c=some o:=λc o a q=>by simp only[List.mem_cons,List.not_mem_nil,or_false,not_or] at a;exact B.extBut c o a.1<|kk c o a.1 a.2 q
  let nT:H (~~~s)=Z0:=I.hok.fresh<|aiL _;let C:g.get? (~~~s)=some {.type "tuple",Z0,.seq #[.int ↥i A,t],#[]}:=B.extBut _ _ (mE r<|aiL _).symm hT;let I2:Inv X X4 σ (Z9 H (~~~s) (.tup [.int ↥i,x])) {s with heap:=g,toks:=A+1}:=
   I.vI (ch:=[e,it]) keep z (aiL _) {by show 2≤Z7;decide,[Value.int ↥i A,t],.cons ⟨A,J⟩<|.cons ru .nil,{_,C,J,(0),J}}
  refine{.ref (~~~s),_,I2,J,{_,x,nT,J,J,λa2 h=>?_},{{t,?_},?_},λb j=>?_}
  .rw[SqB.inj I h v];exact ex
  .simpa using y1
  .let L:mC tu g l us.toArray:=y.mv λo q=>keep l o (by simp[m,n]) q
   exact(U.mv (λo q=>B.extBut _ o p.symm q) λo q=>B.extBut _ o m q).agb L
  .rw[ak<|mE (lt b j)<|aiL _];exact(z b j).1
 done:=by
  intro X S hw F a i X4 s σ H E I z st hg;subst S hw F;let⟨⟨f,h1⟩,h2⟩:=st;let⟨xs,v,hl⟩:=hg;let⟨us,Y,y⟩:=SqB.items I v;let a3:=Y.length;let hn:i=us.toArray.size:=by simp;omega
  subst hn;refine wpAny_pyNext_enum_endD (wJ (I.ok.hd a) n) h1 (h2.src y) λh' kk=>{J,?_}
  exact I.vZ (t':=s.toks) (ch:=[e,it]) (λc o a q=>by simp only[List.mem_cons,List.not_mem_nil,or_false,not_or] at a;exact kk c o a.2 q) z
 self:=λ_ _ _ _ _ st h=>by let⟨⟨f,h1⟩,_⟩:=st;exact ama h1 h
def FZ(t:jl)(us:sA mu)(n:Z5)(b:nt jl)(j:sA (nt mu)):Meets (Builtin.«enumerate.__new__» {[.type "enumerate",.ref t],[]}) (λ_ R s=>s.heap.get? t=some {.type "tuple",b,.seq us n,j}/\R (.ok (.ret (.ref (zS1 s.heap t).objs.size))) {s with heap:=(zS1 s.heap t).push {.type "enumerate",Z0,.fields #[.none,.bool Z2,.ref (~~~s),rawInt 0,.none,.none],#[]}}):=
 .of_wp λprog w A R s e=>by
  let⟨i,g,d,l,os⟩:=s;let⟨a,q⟩:=e;let h:=sub_enumerate;let f:Heap.IsTuple (Shared.heap ⟨i,g,d,l,os⟩) t us:={_,a,J,n,J}
  wp_walk using ald a
  refine wpAny_stack_any λst=>aiK ?_
  split
  .rename_i c _ _ _ _ _;cases (c==Value.type "enumerate") <;>(wp_walk using ald a,ak5 f;exact{1,q})
  ·wp_walk using ald a,ak5 f
   exact{1,q}
def Ew(m:mC tu s.heap l us)(h:∀h',IsEnum h' (~~~s+1) (~~~s) 0 .none->jw tu h' (~~~s) l 0->(∀b o,s.heap.get? b=some o->h'.get? b=some o)->Q (.ref (~~~s+1)) {s with heap:=h'}):wpAny (model prog w) A (call (.type "enumerate") [.ref l]) Q E s:=by
 cases tu
 .exact call_enumerate_list m λh' a b _ k=>h h' a b k
 .let⟨⟨c,g,u,v⟩,e,f,n,j⟩:=m;replace f:c=.type "tuple":=f;replace j:u=.seq us n:=j;subst f j;refine callType_new PySem.F.called_enumerate o7 (PySem.F.typeCall_enumerate_1 _) (PySem.F.newCall_enumerate_1 _) (λobj=>PySem.F.args_object_init_2 obj _) PySem.F.entry_enumerate_new (FZ l us n g v) {e,?_};let p:(zS1 s.heap l).objs.size= ~~~s+1:=aj0 ..;let r:∀c o,s.heap.get? c=some o->((zS1 s.heap l).push {.type "enumerate",Z0,.fields #[.none,.bool Z2,.ref (~~~s),rawInt 0,.none,.none],#[]}).get? c=some o:=λc o q=>aiI _ (aiI _ q)
  let i:((zS1 s.heap l).push {.type "enumerate",Z0,.fields #[.none,.bool Z2,.ref (~~~s),rawInt 0,.none,.none],#[]}).get? (zS1 s.heap l).objs.size=some _:=aiW _ rfl;let t:((zS1 s.heap l).push {.type "enumerate",Z0,.fields #[.none,.bool Z2,.ref (~~~s),rawInt 0,.none,.none],#[]}).get? (~~~s)=some _:=aiI _<|aiW _ J;rw[p] at i;rw[p];exact{{_,i,J},h _ i {_,t,J,J} r}
inductive Cz(K:Frag)(tu:Bool)(R:It->Hp->Z3)(vs:fy V)(H1:Hp):Z3
 |m l(_:vs=[.ref l])(_:∃xs,SqB K tu H1 l xs)(_:R (Ite K tu l) H1)
def afV(K:Frag)(tu:Bool)(ta:TA):TI:=λσ H R=>ta σ H λvs H1=>Cz K tu R vs H1
def oV{X:Cx}(tu:Bool){a:Expr}{ta:TA}{p pos:Pos}{es:fy Expr}{x1}{x:Pos}(m:Gl X "enumerate")(r:X.mg "enumerate" = Z0)(t:PA X [a] ta)(hs:starEach [a] X.env=[(Z2,eval a X.env)]:=by rfl) :
  PI X (.Tuple es x1 x) (.Call (.Name "enumerate" p) [a] [] pos) (afV X.K tu ta):=by
 intro X4 s σ H R I h;refine Call_<|gQ I m r boot_enumerate<|ajv (thn (t pos X4 s σ H _ I h) λ us s1 ⟨vs,H1,I1,r1,q1⟩=>?_) hs J;let⟨l,e,⟨xs,j⟩,q⟩:=q1;subst e;let⟨u,rfl,y⟩:=vals1 r1;cases (show u=Value.ref l from y);let⟨z,A,f⟩:=SqB.items I1 j;let i:l<(~~~s1):=f.lt;refine Ew f λh' g n v=>?_
 refine ama g ?_;let o:Inv X X4 σ H1 {s1 with heap:=h',toks:=s1.toks}:=I1.kept v;refine{(~~~s1)+1,_,_,_,H1,J,o,FJ tu (~~~s1+1) (~~~s1) l (Nat.succ_ne_self _) (mE i<|akZ _)<|mE i<|aiL _,{{_,g},n},λb B=>?_,q};let c:( ~~~s1)≤b:=by grind
 exact I1.nO c<|I1.hok.fresh c
def uy{K:Frag}{tu:Bool}{l:jl}{xs:fy V}{g:TG}{tb:TS}{D:Ends}{σ:St}{H:Hp}(a:Z5->St->Hp->Z3)(h0:a 0 σ H)(j:∀i σ H,a i σ H->SqB K tu H l xs)(hs:∀i x σ H T,xs[i]?=some x->a i σ H->H T=Z0->g (.ref T) σ (Z9 H T (.tup [.int ↥i,x])) λb H2=>tb {D with nx:=a (i+1),ct:=a (i+1),bk:=D.nx} b H2)(o:∀σ H,a xs.length σ H->D.nx σ H) :
  ∃W:Z5->Z5->St->Hp->Z3,(∃m,W 0 m σ H)/\∀i m σ H,W i m σ H →
   ((Ite K tu l).stop i H/\D.nx σ H)∨((Ite K tu l).go i H/\∃N:St->Hp->Z3,(∀σ' H',N σ' H'->∃f,f<m/\W (i+1) f σ' H')/\∀x H',(Ite K tu l).yld i H x H'->g x σ H' λb H2=>tb {D with nx:=N,ct:=N,bk:=D.nx} b H2):=by
 exists λi m σ H=>m=xs.length-i/\i≤xs.length/\a i σ H,{xs.length,o8,ajc _,h0};rintro i m σ H ⟨rfl,hi,p⟩;let q1:=j i σ H p;by_cases c:i<xs.length
 .let ex:xs[i]?=some xs[i]:=aiG c;refine .inr {{xs,_,q1,ex},a (i+1),λσ' H' n=>{xs.length -(i+1),o6,J,c,n},?_};rintro v H' ⟨T,x,q,rfl,rfl,h⟩;exact hs i x σ H T (h xs q1) p q
 .let e:i=xs.length:=by omega
  subst e;exact .inl {⟨xs,q1,J⟩,o σ H p}
def uN:∀{ns:fy Z4}{C5:fy mu},Vals (ns.map Z8) C5->IntsAre C5 ns
 |[],_,.nil=>.nil
 |n::ns,_,.cons r rr=>by let⟨t,rfl⟩:=r;exact .cons n t<|uN rr
def EU{X:Cx}{K:Frag}{o e:Expr}{es:fy Expr}{to:TE}{t:TA}{name:Z6}{apos cpos:Pos}{T id:String}{r:V->fy V->Hp->VK->Z3}(i:X.K=K)(j:PlainAttrs T)(g:Slot T name id)(h:typeOf (.builtin id)=pure (.type "method_descriptor"))(l:MtR X id r)(n:PE X o to)(m:PA X (e::es) t)(b:attributeBase o name X.env (eval o X.env)=eval o X.env:=by rfl)(f:((backTo cpos (starEach (e::es) X.env)).all (λx=>!x.1) &&(backToKw cpos (keywordEach [] X.env)).all (λx=>x.1.isSome)&&decide ((e::es).length +([]:fy Keyword).length +(if ([]:fy Keyword).isEmpty then 0 else 1)<30))=Z1:=by rfl)(c:(apos.endLine==cpos.line)=Z1:=by rfl)(hs:starEach (e::es) X.env =(Z2,eval e X.env)::starEach es X.env:=by rfl)(a:(backTo cpos (starEach es X.env)).any (·.1)=Z2:=by rfl):PE X (.Call (.Attribute o name apos) (e::es) [] cpos) (tBM K T r to t):=by subst i;exact cK j g h l n m b f c hs a
def zc{X:Cx}{K:Frag}(e:X.K=K):dh X (.builtin "len") (jZ K):=by subst e;exact aK
open PySem HT
def Df:∀a:fy Z4,HT.lexLt a a=Z2
 |[]=>rfl
 |x::a=>by rw[HT.gr,aiN rfl];exact Df a
def Le(a b:fy Z4):Z3:=HT.lexLt b a=Z2
def Le.refl(a:fy Z4):Le a a:=Df a
structure Leg where
 num:Z4
 start:Z4
 to:Z4
 bad:Z4
 cost:Z4
def le4{a b c d g e f d':Z4}(h:Le [a,b,c,d] [g,e,f,d']):Le [a,b,c] [g,e,f]:=by
 unfold Le at h ⊢;rw[HT.gr] at h ⊢;by_cases h1:g=a
 .subst h1;rw[aiN rfl] at h ⊢;rw[HT.gr] at h ⊢;by_cases h2:e=b
  .subst h2;rw[aiN rfl] at h ⊢;rw[HT.gr] at h ⊢;by_cases h3:f=c
   .subst h3;rw[aiN J,HT.yY]
   .grind
  .grind
 .grind
def ZI(q:fy Z4):Z3:=∃(b c:Z4)(n:Z5),q=[b,c,↥n]
def AA{q q':fy Z4}{d d':Z4}(h:ZI q)(h':ZI q')(a:Le (q++[d]) (q'++[d'])):Le q q':=by let⟨b,c,n,rfl⟩:=h;let⟨f,g,e,rfl⟩:=h';exact le4 a
def ahead(a:fy Leg)(P:Z4->nt (fy Z4)):Z5:=(a.filter λg=>(P g.start).isNone).length
def El{C4:fy (Key×V)}:(bD C4 k).isSome=Z1↔k∈C4.map (·.1):=by
 unfold bD;rw[al7,List.find?_isSome,aje];constructor
 .grind
 .grind
def De:∀{C4:fy (Key×V)}{k:Key}{v:V},(C4.map (·.1)).Nodup->(k,v)∈C4->bD C4 k=some v
 |[],_,_,_,h=>by cases h
 |(k',v')::r,k,v,hn,h=>by
  rw[ajh,ajj] at hn;unfold bD;rw[List.find?_cons];rcases aiU.mp h with e|h
  .cases e;simp
  .let a:k'≠k:=λe=>hn.1 (by grind)
   simp only[a,decide_false];exact De hn.2 h
def F0{C4:fy (Key×V)}(v:V)(hn:(C4.map (·.1)).Nodup):((putK C4 k v).map (·.1)).Nodup:=by
 cases h:bD C4 k with
 |none=>exact QW v hn h
 |some y=>unfold putK;rw[gO,h];simp only[Option.isSome_some,if_true,List.map_map];rw[show((λx:Key×V=>x.1) ∘ λa:Key×V=>if a.1=k then(a.1,v) else a)=λx=>x.1 from funext λa=>by simp only[Function.comp];split <;> rfl];exact hn
structure cz(C4:fy (Key×V))(S:Z4->Z3):Z3 where
 nd:(C4.map (·.1)).Nodup
 ur:nH C4
 val:∀i,(bD C4 (Sum.inl i)).isSome=Z1↔S i
def cz.nil:cz [] (λ_=>False):={List.nodup_nil,nH.nil,λi=>{λh=>(by cases h),λh=>h.elim}}
def cz.put{C4:fy (Key×V)}{S:Z4->Z3}(h:cz C4 S)(d:Z4)(v:V):cz (putK C4 (Sum.inl d) v) (λi=>S i∨i=d):=by
 refine{F0 _ h.nd,h.ur.put d _,λi=>?_};rw[cX];by_cases e:i=d
 .subst e;simp
 .rw[aiJ λz=>e<|akY z,h.val i];simp[e]
abbrev wN:Z6:=PySem.Str.ofString "none"
abbrev wW:Z6:=PySem.Str.ofString "whole"
abbrev wS:Z6:=PySem.Str.ofString "since"
abbrev wL:Z6:=PySem.Str.ofString "last"
def SqB.len{K:Frag}{tu:Bool}{H:Hp}{l:jl}{xs:fy V}(h:SqB K tu H l xs):X0 K H l xs∨X3 K H l xs:=by
 cases tu
 .exact .inl h
 .exact .inr h
def SqB.same{K:Frag}{tu:Bool}{H H':Hp}{l:jl}{xs:fy V}(h:SqB K tu H l xs)(s:aj H H'):SqB K tu H' l xs:=by
 cases tu
 .exact s.seq h
 .rcases h with(h|⟨o,h⟩)|h
  .exact .inl (.inl<|s _ _ h)
  .exact .inl (.inr {o,s _ _ h})
  .exact .inr h
def kG(p:Z6->Bool):fy Z6->nt Z5
 |[]=>Z0
 |w::r=>if p w=Z1 then some r.length else kG p r
def br(p:Z6->Bool)(ws:fy Z6):nt Z5:=kG p ws.reverse
def eG(p:Z6->Bool)(ws:fy Z6)(w:Z6):br p (ws++[w])=if p w=Z1 then some ws.length else br p ws:=by grind [br,kG]
def BV:∀{ws:fy Z6},kG p ws=Z0↔∀ w∈ws,p w=Z2:=by intro x;induction x <;> grind [kG]
def kc:br p ws=Z0↔∀ w∈ws,p w=Z2:=by unfold br;rw[BV];simp
def isW(w:Z6):Bool:=decide (w=wW)
def isK(w:Z6):Bool:=decide (w≠wN)
def cE(a:Z4)(ws:fy Z6):fy Z6:=(if a=0 then [wN,wW] else [wW]) ++((if br isW ws=Z0 then [] else [wS]) ++(if br isK ws=Z0 then [] else [wL]))
def bP(C0:fy Z4)(ws:fy Z6):fy Z6:=match C0[ws.length]? with
 |none=>[]
 |some a=>cE a ws
structure cy(C4:fy (Key×V))(ws:fy Z6):Z3 where
 w:bD C4 (Sum.inr wW)=some (.int (-1))
 s:bD C4 (Sum.inr wS) =(br isW ws).map λi=>V.int (i:Z4)
 l:bD C4 (Sum.inr wL) =(br isK ws).map λi=>V.int (i:Z4)
 n:bD C4 (Sum.inr wN)=Z0
structure jf(H:Hp)(L:fy jl)(xss:fy (fy Z4)):Z3 where
 len:L.length=xss.length
 get:∀(i:Z5)a xs,L[i]?=some a->xss[i]?=some xs->H a=some (.tup (xs.map Z8))
def jf.keep(R:jf H L xss)(h:∀t xs,H t=some (.tup xs)->H' t=some (.tup xs)):jf H' L xss:=
 {R.len,λi a xs c b=>h _ _<|R.get i a xs c b}
def jf.snoc(R:jf H L xss)(h:H a=some (.tup (xs.map Z8))):jf H (L++[a]) (xss++[xs]):=
 ⟨by simp[R.len],λi b ys e c=>by
  let l:=R.len;by_cases hi:i<L.length
  .rw[aiM hi] at e;rw[aiM o6] at c;exact R.get i b ys e c
  .rw[aiO o6] at e;rw[aiO o6] at c;let f:i-L.length=0:=by grind
   rw[f] at e;rw[show i-xss.length=0 by omega] at c;let e:a=b:=⇑e
   let c:xs=ys:=⇑c
   subst e c;exact h⟩
def tfs(a b c:jl):fy (Z6×V):=[("sizes",V.ref a),("weights",V.ref b),("rates",V.ref c)]
def Tj:bq "weights" v [("sizes",x)] =([("sizes",x),("weights",v)]:fy (Z6×V)):=by rw[cL o4];rfl
def Sa:bq "rates" v [("sizes",x),("weights",y)] =([("sizes",x),("weights",y),("rates",v)]:fy (Z6×V)):=by rw[cL o4,cL o4];rfl
def jU:List.lookup ("sizes":Str) (tfs a b c)=some (V.ref a):=by grind [tfs]
def pV:List.lookup ("weights":Str) (tfs a b c)=some (V.ref b):=by unfold tfs;rw[ajq,show(("weights":Str) == "sizes")=Z2 by decide +kernel,ajq];simp
def pC:List.lookup ("rates":Str) (tfs a b c)=some (V.ref c):=by unfold tfs;rw[ajq,show(("rates":Str) == "sizes")=Z2 by decide +kernel,ajq,show(("rates":Str) == "weights")=Z2 by decide +kernel,ajq];simp
def gf(C:jl)(H:Hp)(p:jl)(C1:fy (fy Z4))(C0 C7:fy Z4):Z3:=
 ∃dx c b a TL,H p=some (.ins C dx<|tfs c b a)/\H c=some (.tup<|TL.map V.ref)/\jf H TL C1/\H b=some (.tup<|C0.map Z8)/\H a=some (.tup<|C7.map Z8)
def gf.keep(h:gf C H p C1 C0 C7)(s:aj H H'):gf C H' p C1 C0 C7:=by let⟨dx,c,b,a,TL,h1,h2,h3,h4,h5⟩:=h;exact{dx,c,b,a,TL,s _ _ h1,s _ _ h2,h3.keep λt xs e=>s _ _ e,s _ _ h4,s _ _ h5}
def upK(a:H4 x=Z0)(b:H4 dx=Z0)(t:jl)(o':HO)(e:H4 t=some o'):Z9 (Z9 H4 dx (.own x)) x o t=some o':=by rwa[ak<|ao e a,ak<|ao e b]
def xU{X:Cx}{K:Frag}(e:X.K=K):dh X (.type "tuple") (jD K):=by subst e;exact dZ
def cy.first:cy (putK [] (Sum.inr wW) (V.int (-1))) []:=by
 refine{?_,?_,?_,?_} <;> rw[cX]
 .rw[aiN rfl]
 .rw[aiJ o4];rfl
 .rw[aiJ o4];rfl
 .rw[aiJ o4];rfl
def cy.whole(B:cy C4 ws):cy (putK (putK C4 (Sum.inr wS) (V.int ↥ws.length)) (Sum.inr wL) (V.int ↥ws.length)) (ws++[wW]):=by
 refine{?_,?_,?_,?_} <;> rw[cX]
 .rw[aiJ o4,cX,aiJ o4];exact B.w
 .rw[aiJ o4,cX,aiN J,eG,aiN o4];rfl
 .rw[aiN J,eG,aiN o4];rfl
 .rw[aiJ o4,cX,aiJ o4];exact B.n
def cy.non(B:cy C4 ws):cy C4 (ws++[wN]):=by
 refine{B.w,?_,?_,B.n}
 .rw[eG,aiJ o4];exact B.s
 .rw[eG,aiJ o4];exact B.l
def cy.other{C4:fy (Key×V)}{ws:fy Z6}{w:Z6}(B:cy C4 ws)(h1:w≠wW)(h2:w≠wN):cy (putK C4 (Sum.inr wL) (V.int ↥ws.length)) (ws++[w]):=by
 let b:isW w=Z2:=aiX h1;let a:isK w=Z1:=aiS h2;refine{?_,?_,?_,?_} <;> rw[cX]
 .rw[aiJ o4];exact B.w
 .rw[aiJ o4,eG,b];exact B.s
 .rw[aiN J,eG,a];rfl
 .rw[aiJ o4];exact B.n
def cy.filter(B:cy C4 ws):([wW,wS,wL].filter λw=>(bD C4 (Sum.inr w)).isSome)=[wW] ++((if br isW ws=Z0 then [] else [wS]) ++(if br isK ws=Z0 then [] else [wL])):=by rw[amr,amr,amr,List.filter_nil,B.w,B.s,B.l];cases br isW ws <;> cases br isK ws <;> simp
def mX{xs:fy Z6}{j:Z5}(h:(xs.map V.str)[j]?=some y):∃n,xs[j]?=some n/\V.str n=y:=by grind
def kE(ws:fy Z6):(ws.map V.str).all j9=Z1:=by grind [j9]
def Ag(a:Z4)(ws:fy Z6):cE a ws≠[]:=by unfold cE;split <;> simp
inductive oK(K:Frag)(xs:fy V)(H:Hp)(Q:VK):Z3
 |m (a:jl) (ns:fy Z4)(_:xs=[.ref a])(_:X0 K H a (ns.map .int))(_:Q (.int ns.sum) H)
def z9{X:Cx}(g:X.calm=Z1):dh X (.builtin "sum") (oK X.K):=by
 rintro X4 s σ H xs us Q I r ⟨a,ns,rfl,h,q⟩;let⟨u,rfl,i⟩:=vals1 r;cases (show u=Value.ref a from i);let⟨C5,f,pl,_⟩:=I.list h;let c:=alL f;let⟨zs,e⟩:=c.allInts.items;let b:=pl.isList;rw[e] at b;refine sum_intListG (I.ok.hd g) b λh' l t' j=>{.int ns.sum,H,I.kept j,{t',?_},q}
 let h1:numsOf C5=ns:=c.numsOf;let h2:numsOf (intItems zs).toList=zs.toList.map (·.1):=nums_intItems zs;rw[←e] at h2;let h3:zs.toList.map (·.1)=ns:=h2.symm.trans h1;rw[preSum_eq,ajB o8,h3]
def G7{X:Cx}{K:Frag}(e:X.K=K):SlR X (Ir K):=by subst e;exact fY
def QJ{X:Cx}{K:Frag}(e:X.K=K):SlR X (HE K):=by subst e;exact Tn
def yR{K:Frag}{tu:Bool}{l:jl}(D:jl){xs:fy V}{g:TG}{tt:TT}{te:TE}{σ:St}{H:Hp}{R:Hp->Z3}(c:Z5->St->Hp->fy V->Z3)(h0:c 0 σ H [])(t:∀i σ H ys,c i σ H ys->SqB K tu H l xs)(hs:∀i x σ H ys T,xs[i]?=some x->c i σ H ys->H T=Z0->g (.ref T) σ (Z9 H T (.tup [.int ↥i,x])) λa o=>tt a o λb j=>if b=Z1 then
   te a j λy h=>h D=some (.lst ys)/\ys.length<Z7/\c (i+1) a (Z9 h D (.lst (ys++[y]))) (ys++[y]) else c (i+1) a j ys)(z:∀σ H ys,c xs.length σ H ys->R H) :
  ∃W:Z5->Z5->St->Hp->fy V->Z3,(∃m,W 0 m σ H [])/\∀i m σ' H' ys,W i m σ' H' ys->((Ite K tu l).stop i H'/\R H')∨
   ((Ite K tu l).go i H'/\∃N:St->Hp->fy V->Z3,(∀σ' H' f,N σ' H' f->∃q,q<m/\W (i+1) q σ' H' f)/\∀x H2,(Ite K tu l).yld i H' x H2->g x σ' H2 λa o=>tt a o λb j=>if b=Z1 then
    te a j λy h=>h D=some (.lst ys)/\ys.length<Z7/\N a (Z9 h D (.lst (ys++[y]))) (ys++[y])
    else N a j ys):=by
 exists λi m σ H ys=>m=xs.length-i/\i≤xs.length/\c i σ H ys,{xs.length,o8,ajc _,h0};rintro i m σ H ys ⟨rfl,hi,p⟩;let q1:=t i σ H ys p;by_cases n:i<xs.length
 .let ex:xs[i]?=some xs[i]:=aiG n;refine .inr {{xs,_,q1,ex},c (i+1),λσ' H' f u=>{xs.length -(i+1),o6,J,n,u},?_};rintro v H' ⟨T,x,s,rfl,rfl,r⟩;exact hs i x σ H ys T (r xs q1) p s
 .let e:i=xs.length:=by omega
  subst e;exact .inl {⟨xs,q1,J⟩,z σ H ys p}
def bOf(a:fy Z6)(w:Z6):nt Z4:=
 if w=wW then some (-1) else if w=wS then(br isW a).map (λi:Nat=>↥i) else if w=wL then(br isK a).map (λi:Nat=>↥i) else Z0
def Lk(a:fy Z6):bOf a wN=Z0:=by unfold bOf;rw[aiJ o4,aiJ o4,aiJ o4]
def DP(a:fy Z6):bOf a wW=some (-1):=by unfold bOf;rw[aiN rfl]
def DF(a:fy Z6):bOf a wS =(br isW a).map (λi:Nat=>↥i):=by unfold bOf;rw[aiJ o4,aiN rfl]
def EG(a:fy Z6):bOf a wL =(br isK a).map (λi:Nat=>↥i):=by unfold bOf;rw[aiJ o4,aiJ o4,aiN rfl]
def VW(ws:fy Z6):Z3:=∀(d:Z5)w,ws[d]?=some w->w=wN∨w=wW∨(w=wS/\br isW (ws.take d)≠Z0)∨(w=wL/\br isK (ws.take d)≠Z0)
def VW.nil:VW []:=λd w h=>by simp at h
def VW.snoc{c:Z4}(h:VW ws)(b:w∈cE c ws):VW (ws++[w]):=λd x e=>by
 by_cases g:d<ws.length
 .rw[aiM g] at e;rw[ajX o6];exact h d x e
 .rw[aiO o6] at e;let f:d-ws.length=0:=by grind
  rw[f] at e;let e:w=x:=⇑e
  subst e;let a:d=ws.length:=by omega
  subst a;rw[ajX o6,ai8];unfold cE at b;rcases ai0.mp b with h1|h1
  .grind
  .grind
def VW.four(h:VW ws){d:Z5}(e:ws[d]?=some w):w=wN∨w=wW∨w=wS∨w=wL:=by
 rcases h d w e with h|h|⟨h,_⟩|⟨h,_⟩
 .exact .inl h
 .exact .inr (.inl h)
 .grind
 .grind
def tX:∀{l:fy Z6}{i:Z5},kG p l=some i->i<l.length/\∃w,l.reverse[i]?=some w/\p w=Z1
 |[],i,h=>by simp[kG] at h
 |w::r,i,h=>by
  unfold kG at h;by_cases a:p w=Z1
  .rw[aiN a] at h;let h:=aiY h;subst h;refine{o8,w,?_,a};rw[amb,aiO o8];simp
  .rw[aiJ a] at h;let⟨h1,x,h2,h3⟩:=tX h;refine{by simp;omega,x,?_,h3};rwa[amb,aiM (⇑h1)]
def tV{i:Z5}(h:br p ws=some i):i<ws.length/\∃w,ws[i]?=some w/\p w=Z1:=by unfold br at h;let⟨h1,w,h2,h3⟩:=tX h;rw[am5] at h2;rw[ak0] at h1;exact⟨h1,w,h2,h3⟩
def bB(ws:fy Z6)(d:Z5):Z4:=((ws[d]?.bind λw=>bOf (ws.take d) w)).getD (-1)
def Af{d:Z5}(e:ws[d]?=some w):bB ws d =(bOf (ws.take d) w).getD (-1):=by unfold bB;rw[e];rfl
def Kept(ws:fy Z6)(d:Z5):Z3:=∃w,ws[d]?=some w/\w≠wN
def FI{b:Z4}(h:bOf pre w=some b):b = -1∨∃i:Z5,b =↥i/\i<pre.length/\∃x,pre[i]?=some x/\x≠wN:=by
 unfold bOf at h;split at h
 .grind
 .split at h
  .let⟨i,h1,h2⟩:=aja.mp h;let⟨e,x,a,c⟩:=tV h1;refine .inr {i,h2.symm,e,x,a,?_};let:x=wW:=ajn c;rw[this];decide +kernel
  .split at h
   .let⟨i,h1,h2⟩:=aja.mp h;let⟨e,x,a,c⟩:=tV h1;exact .inr {i,h2.symm,e,x,a,ajn c}
   .cases h
def iG(ws:fy Z6)(d:Z5):bB ws d = -1∨∃i:Z5,bB ws d =↥i/\i<d/\Kept ws i:=by
 cases e:ws[d]? with
 |none=>left;unfold bB;rw[e];rfl
 |some w=>
  rw[Af e];cases h:bOf (ws.take d) w with
  |none=>exact .inl J
  |some b=>
   rcases FI h with h1|⟨i,h1,h2,x,h3,h4⟩
   .exact .inl h1
   .rw[aiV] at h2;refine .inr {i,h1,o6,x,?_,h4};rwa[aj7 o6] at h3
def mY(ws:fy Z6)(d:Z5):bB ws d <↥d:=by rcases iG ws d with h|⟨i,h,h2,_⟩ <;> omega
def zP(ws:fy Z6)(d:Z5):-1≤bB ws d:=by rcases iG ws d with h|⟨i,h,h2,_⟩ <;> omega
def VW.base(h:VW ws){d:Z5}(e:ws[d]?=some w)(hn:w≠wN):bOf (ws.take d) w=some (bB ws d):=by
 rw[Af e];rcases h d w e with h|h|⟨h,h2⟩|⟨h,h2⟩
 .exact absurd h hn
 .subst h;rw[DP];rfl
 .subst h;rw[DF];cases q:br isW (ws.take d) with
  |none=>exact absurd q h2
  |some i=>rfl
 .subst h;rw[EG];cases q:br isK (ws.take d) with
  |none=>exact absurd q h2
  |some i=>rfl
def cy.get{C4:fy (Key×V)}{a:fy Z6}(B:cy C4 a){w:Z6}(h:w=wN∨w=wW∨w=wS∨w=wL):bD C4 (Sum.inr w) =(bOf a w).map Z8:=by
 rcases h with rfl|rfl|rfl|rfl
 .rw[B.n,Lk];rfl
 .rw[B.w,DP];rfl
 .rw[B.s,DF];cases br isW a <;> rfl
 .rw[B.l,EG];cases br isK a <;> rfl
def xr(ws:fy Z6)(d:Z5):V:=(((ws[d]?.bind λw=>bOf (ws.take d) w)).map Z8).getD .non
def xq{d:Z5}(e:ws[d]?=some w):xr ws d =((bOf (ws.take d) w).map Z8).getD .non:=by unfold xr;rw[e];rfl
def pq(ws:fy Z6):fy V:=(List.range ws.length).map<|xr ws
def wyF(f b:Z5->Z4):Z5->Z5->Z4
 |0,_=>0
 |k+1,d=>f d +(if b d<0 then 0 else wyF f b k (b d).toNat)
def um{f b:Z5->Z4}(a:∀d,b d <↥d):∀d k,d<k->wyF f b k d=wyF f b (d+1) d
 |d,0,h=>absurd h<|ak3 _
 |d,k+1,h=>by
  show f d +(if b d<0 then 0 else wyF f b k (b d).toNat)=f d +(if b d<0 then 0 else wyF f b d (b d).toNat);by_cases h0:b d<0
  .rw[aiN h0,aiN h0]
  .let c:=a d;rw[aiJ h0,aiJ h0,um a (b d).toNat k o6,um a (b d).toNat d o6]
termination_by d=>d
decreasing_by all_goals omega
def wy(f b:Z5->Z4)(d:Z5):Z4:=wyF f b (d+1) d
def wyI(f b:Z5->Z4)(i:Z4):Z4:=if i<0 then 0 else wy f b i.toNat
def afa{f b:Z5->Z4}(a:∀d,b d <↥d)(d:Z5):wy f b d=f d+wyI f b (b d):=by
 show f d +(if b d<0 then 0 else wyF f b d (b d).toNat)=f d +(if b d<0 then 0 else wy f b (b d).toNat);by_cases h0:b d<0
 .grind
 .rw[aiJ h0,aiJ h0];let c:=a d;rw[um a (b d).toNat d o6];rfl
def sumTo(c:Z5->Z4):Z5->Z4
 |0=>0
 |k+1=>sumTo c k+c k
def yC(c:Z5->Z4):∀k,((List.range k).map c).sum=sumTo c k
 |0=>rfl
 |k+1=>by rw[akK,ajb,List.sum_append,yC c k];simp[sumTo]
def szD(C1:fy (fy Z4))(ws:fy Z6)(d:Z5):Z4:=(C1.getD d []).getD (bB ws d+1).toNat 0
def xD(C1:fy (fy Z4))(r2 r3:Z4)(ws:fy Z6)(d:Z5):Z4:=r2+r3*szD C1 ws d
def cI(C1:fy (fy Z4))(r2 r3:Z4)(ws:fy Z6)(d:Z5):Z4:=wy (xD C1 r2 r3 ws) (bB ws) d
def gm(C1:fy (fy Z4))(r2 r3:Z4)(ws:fy Z6)(i:Z4):Z4:=wyI (xD C1 r2 r3 ws) (bB ws) i
def ym(C1:fy (fy Z4))(r2 r3:Z4)(ws:fy Z6)(d:Z5):cI C1 r2 r3 ws d =(r2+r3*szD C1 ws d)+gm C1 r2 r3 ws (bB ws d):=afa (mY ws) d
def yp(C1:fy (fy Z4))(r2 r3:Z4)(ws:fy Z6):gm C1 r2 r3 ws (-1)=0:=rfl
def m7(C1:fy (fy Z4))(r2 r3:Z4)(ws:fy Z6)(d:Z5):gm C1 r2 r3 ws ↥d=cI C1 r2 r3 ws d:=by unfold gm wyI;rw[aiJ o6];rfl
def bA(C1:fy (fy Z4))(C0:fy Z4)(r0 r1 r2 r3:Z4)(ws:fy Z6)(d:Z5):Z4:=
 if ws[d]?=some wN then 0 else(r0+r1*(↥C1.length -↥d))*szD C1 ws d+C0.getD d 0*cI C1 r2 r3 ws d
def vh(ns:fy Z4)(m:Z4):Z3:=m∈ns/\∀ x∈ns,m≤x
def gc:fy Z4->Z4
 |[]=>0
 |[x]=>x
 |x::y::r=>if x≤gc (y::r) then x else gc (y::r)
def lq:∀{ns:fy Z4},ns≠[]->vh ns (gc ns)
 |[],h=>absurd J h
 |[x],_=>by
  refine{by simp[gc],λy b=>?_};let:y=x:=⇑b
  subst this;exact ajM _
 |x::y::r,_=>by
  let⟨h1,h2⟩:=lq (ns:=y::r) o8;show vh _ (if x≤gc (y::r) then x else gc (y::r));by_cases h:x≤gc (y::r)
  .rw[aiN h];refine{ajN ..,λz a=>?_};rcases aiU.mp a with rfl|a
   .exact ajM _
   .grind
  .rw[aiJ h];refine{aiZ _ h1,λz a=>?_};rcases aiU.mp a with rfl|a
   .omega
   .exact h2 z a
def vh.eq{m:Z4}(h:vh ns m):m=gc ns:=by let hn:ns≠[]:=anv h.1;let⟨h1,h2⟩:=lq hn;exact Int.le_antisymm (h.2 _ h1)<|h2 _ h.1
inductive tO(K:Frag)(xs:fy V)(H:Hp)(Q:VK):Z3
 |m a ns(_:xs=[.ref a])(_:X3 K H a (ns.map .int))(_:ns≠[])(_:Q (.int (gc ns)) H)
def Fq(B:X.calm=Z1):dh X (.builtin "min") (tO X.K):=by
 rintro X4 s σ H xs us Q I r ⟨a,ns,rfl,S,h,q⟩;let⟨u,rfl,U⟩:=vals1 r;cases (show u=Value.ref a from U);let⟨C5,z,pt,_⟩:=I.tuple S;let y:=alL z;let m:s.heap.IsTuple a C5.toArray:=pt;let g:a<(~~~s):=by let⟨o,e,_⟩:=m;exact aiP e
 let l:=vf y;let p:0<ns.length:=alW.mpr h;let c:∀i v,C5.toArray[i]?=some v->∃t,v=Value.int (ns.getD i 0) t:=λi v e=>y.int_at i v (⇑e)
 refine call_min_walk<|ak5 m {(~~~s),_,_,_,_,_,1,Walks.tuple (A:=X.A.in1) (I.ok.hd B) _ a (mE g<|aiL _) C5.toArray,{{_,aiW _ J,J,J},let ⟨o,e,r⟩:=m;{o,aiI _ e,r}},λb f=>?_,by simp;omega,CmpOf.ints_lt (λi=>ns.getD i 0) c,λv h' tk F Y=>?_}
 .show b <(s.heap.push _).objs.size;rw[aj0];simp only[List.mem_cons,List.not_mem_nil,or_false] at f;rcases f with rfl|rfl
  .exact akA _
  .exact akP g
 .let⟨t,rfl⟩:=c _ _ F;let⟨b1,b2⟩:=argBest_lt (λi=>ns.getD i 0) (C5.toArray.size-1);let hsz:C5.toArray.size=ns.length:=by simp[l]
  refine{.int<|gc ns,H,I.kept λb o e=>Y b o (λO=>?_)<|aiI _ e,{t,?_},q}
  .let:b=( ~~~s):=⇑O
   exact absurd (aiP e) (by rw[this];exact aj4 _)
  .congr 1;refine vh.eq {?_,λx C=>?_}
   .let f:argBest (λi j=>decide (ns.getD i 0<ns.getD j 0)) (C5.toArray.size-1)<ns.length:=by omega
    rw[ai2,aiG f,akD];exact ajF f
   .let⟨j,n⟩:=aju.mp C;let L:j<ns.length:=(aiH.mp n).1;let:=b2 j o6;rw[show ns.getD j 0=x by rw[ai2,n];rfl] at this;exact this
def VN(C0:fy Z4)(ws:fy Z6):Z3:=∀d:Z5,ws[d]?=some wN->C0.getD d 0=0
def VN.nil:VN C0 []:=λd h=>by simp at h
def VN.snoc{a:Z4}(h:VN C0 ws)(b:C0[ws.length]?=some a)(f:w∈cE a ws):VN C0 (ws++[w]):=λd e=>by
 by_cases i:d<ws.length
 .rw[aiM i] at e;exact h d e
 .rw[aiO o6] at e;let g:d-ws.length=0:=by grind
  rw[g] at e;let e:w=wN:=⇑e
  let c:d=ws.length:=by omega
  subst c;rw[ai2,b,akD];unfold cE at f;rw[e] at f;let l:(wN=wW)=False:=eq_false o4;let m:(wN=wS)=False:=eq_false o4;let j:(wN=wL)=False:=eq_false o4;by_cases h0:a=0
  .exact h0
  .grind
def uG(C1:fy (fy Z4))(C0:fy Z4)(r0 r1 r2 r3:Z4)(d:Z5):Z4:=
 if C0.getD d 0>0 then(r0+r1*(↥C1.length -↥d))*gc (C1.getD d [])+C0.getD d 0*(r2+r3*gc (C1.getD d [])) else 0
def bdD(C1:fy (fy Z4))(C0:fy Z4)(r0 r1 r2 r3:Z4)(ws:fy Z6)(d:Z5):Z4:=
 if d<ws.length then bA C1 C0 r0 r1 r2 r3 ws d else uG C1 C0 r0 r1 r2 r3 d
def nI{c a:Z5->Z4}:∀{k:Z5},(∀d,d<k->c d=a d)->sumTo c k=sumTo a k
 |0,_=>rfl
 |k+1,h=>by show sumTo c k+c k=sumTo a k+a k;rw[nI (k:=k) λd b=>h d o6,h k o6]
def wg{c a:Z5->Z4}:∀{k:Z5},(∀d,d<k->c d≤a d)->sumTo c k≤sumTo a k
 |0,_=>ajM _
 |k+1,h=>by
  show sumTo c k+c k≤sumTo a k+a k;let:=wg (k:=k) λd b=>h d o6
  let:=h k o6;omega
def sf{c:Z5->Z4}:∀{k:Z5},(∀d,d<k->0≤c d)->0≤sumTo c k
 |0,_=>ajM _
 |k+1,h=>by
  show 0≤sumTo c k+c k;let:=sf (k:=k) λd a=>h d o6
  let:=h k o6;omega
def vv{f b:Z5->Z4}(a:∀d,0≤f d):∀k d,0≤wyF f b k d
 |0,_=>ajM _
 |k+1,d=>by
  show 0≤f d +(if b d<0 then 0 else wyF f b k (b d).toNat);let h1:=a d;by_cases h0:b d<0
  .rw[aiN h0];omega
  .rw[aiJ h0];let:=vv (b:=b) a k (b d).toNat;omega
def yL{f b c a:Z5->Z4}{n:Z5}(h:∀e,e<n->f e=c e/\b e=a e)(g:∀d,b d <↥d):∀k d,d<n->wyF f b k d=wyF c a k d
 |0,_,_=>rfl
 |k+1,d,hd=>by
  let⟨h1,h2⟩:=h d hd;show f d +(if b d<0 then 0 else wyF f b k (b d).toNat)=c d +(if a d<0 then 0 else wyF c a k (a d).toNat);rw[h1,←h2];by_cases h0:b d<0
  .grind
  .rw[aiJ h0,aiJ h0];let i:=g d;rw[yL h g k (b d).toNat o6]
def vC{k d:Z5}(h:d<k):bB (ws.take k) d=bB ws d:=by unfold bB;rw[aj7 h,List.take_take,alP o6]
def DW{r0 r1 r2 r3:Z4}{k d:Z5}(h:d<k):bA C1 C0 r0 r1 r2 r3 (ws.take k) d=bA C1 C0 r0 r1 r2 r3 ws d:=by
 let b:∀e,e<k->szD C1 (ws.take k) e=szD C1 ws e:=λe a=>by unfold szD;rw[vC a]
 let c:cI C1 r2 r3 (ws.take k) d=cI C1 r2 r3 ws d:=by unfold cI wy;refine yL (n:=k) (λe a=>{?_,vC a}) (mY _) _ _ h;unfold xD;rw[b e a]
 unfold bA;rw[aj7 h,b d h,c]
def Itv(K:Frag)(a:jl)(n:Z5):It:=
 {λi H=>∃xs x,X0 K H a xs/\xs.length=n/\xs.reverse[i]?=some x,λi H x H'=>H'=H/\∀xs,X0 K H a xs->xs.reverse[i]?=some x,λi _=>i=n}
def YG{α:Type}{xs:fy α}{i:Z5}{x:α}(h:xs.reverse[i]?=some x):i<xs.length/\xs[xs.length-1-i]?=some x:=by grind
def G9{P:t6}{w:t7}{K:Frag}{tg:Expr}(a it:jl)(n:Z5):Turn P w K tg (Itv K a n) [it] it (λi h=>h.IsRevIter it a (↥n-1 -↥i)) where
 mem:=by simp
 obj:=λi h st b f=>by
  let e:b=it:=⇑f
  subst e;let⟨o,e,c,d⟩:=st;exact{o,e,λv z=>by rw[d] at z;cases z}
 keep:=λi h h' st k=>st.at λo e=>k it o8 o e
 item:=by
  intro X q B m F i X4 s σ H E I l st j;subst q B m;let⟨xs,x,L,hn,O⟩:=j;let⟨hi,A⟩:=YG O;let⟨C5,S,p,hz⟩:=I.list L;let⟨u,hu,ru⟩:=S.get A;let⟨f0,f1,f2,C,y,t⟩:=l it o8;let r:↥n-1 -↥i =((xs.length-1-i:Z5):Z4):=by omega
  rw[r] at st;refine wpAny_pyNext_rev_item st p.isList (x:=u) (⇑hu) λh' g sb=>?_
  let e1:((xs.length-1-i:Z5):Z4)-1 =↥n-1 -((i+1:Z5):Z4):=by omega
  rw[e1] at g;let I1:Inv X X4 σ H {s with heap:=h'}:=I.turned (t':=s.toks) (λb o f e=>(sb.2 b f).trans e) f0 f1 C y t;let⟨o,e,c,d⟩:=id g;exact{u,J,wM (s:={s with heap:=h'}) e c d o7 {x,H,I1,ru,{J,λys U=>by rwa[I.uF U L]},g,λb f=>(l b f).1}}
 done:=by
  intro X q B m F i X4 s σ H E I l st j;subst q B m;let j:i=n:=j;subst j;let r:↥i-1 -↥i = -1:=by omega
  rw[r] at st;let⟨f0,f1,f2,C,y,t⟩:=l it o8;exact wpAny_pyNext_rev_end (I.ok.hd F) st λh' Y=>{J,I.turned (t':=s.toks) (λb o f e=>Y b o f e) f0 f1 C y t}
 self:=λ_ _ _ _ _ st h=>wpAny_pyIter_revIter st h
inductive Fe(K:Frag)(R:It->Hp->Z3)(vs:fy V)(H1:Hp):Z3
 |m l xs(_:vs=[.ref l])(_:X0 K H1 l xs)(_:R (Itv K l xs.length) H1)
def aio(K:Frag)(ta:TA):TI:=λσ H R=>ta σ H λvs H1=>Fe K R vs H1
def Zh{X:Cx}{tg a:Expr}{ta:TA}{p pos:Pos}(g:Gl X "reversed")(i:X.mg "reversed" = Z0)(j:PA X [a] ta)(hs:starEach [a] X.env=[(Z2,eval a X.env)]:=by rfl) :
  PI X tg (.Call (.Name "reversed" p) [a] [] pos) (aio X.K ta):=by
 intro X4 s σ H R I h;refine Call_<|gQ I g i boot_reversed<|ajv (thn (j pos X4 s σ H _ I h) λ us s1 ⟨vs,H1,I1,r1,q1⟩=>?_) hs J;let⟨l,xs,e,c,q⟩:=q1;subst e;let⟨u,rfl,m⟩:=vals1 r1;cases (show u=Value.ref l from m);let⟨C5,f,pl,v⟩:=I1.list c;let t:=f.length;refine call_reversed_list pl.isList ?_;let n:((C5.toArray.size:Z5):Z4)-1 =↥xs.length-1 -((0:Z5):Z4):=by simp;omega
 rw[n];let st:(s1.heap.push (revObj l (↥xs.length-1 -((0:Z5):Z4)))).IsRevIter (~~~s1) l (↥xs.length-1 -((0:Z5):Z4)):={_,aiW _ J,J,J};refine wpAny_pyIter_revIter (s:={s1 with heap:=s1.heap.push (revObj l<|↥xs.length-1 -((0:Z5):Z4))}) st ?_;refine{(~~~s1),[~~~s1],_,_,H1,J,I1.kept (t':=s1.toks) λb o e=>aiI _ e,G9 l _ xs.length,st,λb r=>?_,q};let e:b=( ~~~s1):=⇑r
 subst e;exact I1.nO (aiL _)<|I1.hok.fresh<|aiL _
def Ht{K:Frag}{a:jl}(D:jl){xs:fy V}{g:TG}{tt:TT}{te:TE}{σ:St}{H:Hp}{R:Hp->Z3}(f:Z5->St->Hp->fy V->Z3)(h0:f 0 σ H [])(s:∀i σ H ys,f i σ H ys->X0 K H a xs)(hs:∀i x σ H ys,xs.reverse[i]?=some x->f i σ H ys->g x σ H λc o=>tt c o λb l=>if b=Z1 then
   te c l λy j=>j D=some (.lst ys)/\ys.length<Z7/\f (i+1) c (Z9 j D (.lst (ys++[y]))) (ys++[y]) else f (i+1) c l ys)(u:∀σ H ys,f xs.length σ H ys->R H) :
  ∃W:Z5->Z5->St->Hp->fy V->Z3,(∃m,W 0 m σ H [])/\∀i m σ' H' ys,W i m σ' H' ys->((Itv K a xs.length).stop i H'/\R H')∨
   ((Itv K a xs.length).go i H'/\∃N:St->Hp->fy V->Z3,(∀σ' H' h,N σ' H' h->∃r,r<m/\W (i+1) r σ' H' h)/\∀x H2,(Itv K a xs.length).yld i H' x H2->g x σ' H2 λc o=>tt c o λb l=>if b=Z1 then
    te c l λy j=>j D=some (.lst ys)/\ys.length<Z7/\N c (Z9 j D (.lst (ys++[y]))) (ys++[y])
    else N c l ys):=by
 exists λi m σ H ys=>m=xs.length-i/\i≤xs.length/\f i σ H ys,{xs.length,o8,ajc _,h0};rintro i m σ H ys ⟨rfl,hi,p⟩;let q:=s i σ H ys p;by_cases n:i<xs.length
 .let ex:xs.reverse[i]?=some (xs.reverse[i]'(⇑n)):=aiG _;refine .inr {{xs,_,q,J,ex},f (i+1),λσ' H' h t=>{xs.length -(i+1),o6,J,n,t},λx H' y=>?_};let⟨e,y⟩:=y;subst e;exact hs i x σ _ ys (y xs q) p
 .let e:i=xs.length:=by omega
  subst e;exact .inl {J,u σ H ys p}
inductive Mx(K:Frag)(x:V)(y:V)(H:Hp)(Q:VK):Z3
 |m a b xs ys(_:x=.ref a)(_:y=.ref b)(_:X3 K H a xs)(_:H b=some (.tup ys))(_:ys≠[])(_:xs.length+ys.length≤Z7)(_:∀p H',H' p=some (.tup (xs++ys))->aj H H'->Q (.ref p) H')
def Ij{ws:fy mu}(o:IsTup s.heap t (#[]:sA mu))(q:IsTup s.heap b ws.toArray)(h1:Q (.ref b) s):wpAny (model prog w) A (binaryOp .Add (.ref t) (.ref b)) Q E s:=by
 let⟨⟨cls,dd,data,m⟩,i,h,n,l⟩:=id o;let⟨⟨j,f,data2,g⟩,e,c,p,a⟩:=id q;simp only at h l c a;subst h l c a;exact concat_meets {_,i,J} {_,e,J} aml seq_tuple_add alx alk (ak7 _ _)
   (tuple_addW0 t b #[] ws.toArray n p dd f m g o8) ⟨i,e,h1⟩
def CN{X:Cx}{K:Frag}(e:X.K=K):OpR X (binaryOp .Add) (Mx K):=by
 subst e;intro X4 s σ H x y v u Q I l m h;let⟨a,b,xs,ys,rfl,rfl,n,j,p,i,q⟩:=h;cases l;cases m;let⟨C5,r1,f,_⟩:=I.tuple n;let⟨g,r2,p2,_⟩:=I.tuple<|X3.of j;by_cases c:xs=[]
 .subst c;let:C5=[]:=r1.xJ.mpr rfl;subst this;exact Ij f p2 {.ref b,H,I,J,q b H j<|aj.refl _}
 .refine HT.Qp f p2 (λz=>c<|r1.xJ.mp z) (λz=>absurd (r2.xJ.mp z) p) (λz=>?_) (by rwa[←r1.length,←r2.length]);refine{.ref (~~~s),_,I.laid (t':=s.toks) (o:=.tup (xs++ys)) (λb r q=>aiI _ q) (aiL _) ?_,J,q _ _ af<|aj.new<|I.hok.fresh<|aiL _};exact{by rwa[aji],_,r1.append r2,IsTup.new _ _}
abbrev Lf:=fy Z6×Z4
def vL{α S L:Type}(g:α->S->fy L×S):fy α->S->fy L×S
 |[],s=>([],s)
 |a::r,s=>((g a s).1 ++(vL g r (g a s).2).1,(vL g r (g a s).2).2)
def sr{α S L:Type}(g:α->S->fy L×S):∀a b s,vL g (a++b) s =((vL g a s).1 ++(vL g b (vL g a s).2).1,(vL g b (vL g a s).2).2)
 |[],b,s=>by simp[vL]
 |x::r,b,s=>by show((g x s).1 ++(vL g (r++b) (g x s).2).1,(vL g (r++b) (g x s).2).2)=_;rw[sr g r b];simp[vL]
def FL{α b S L:Type}(g:b->S->fy L×S)(f:α->b):∀a s,vL g (a.map f) s=vL (λx=>g (f x)) a s
 |[],s=>rfl
 |x::r,s=>by show((g (f x) s).1 ++(vL g (r.map f) (g (f x) s).2).1,(vL g (r.map f) (g (f x) s).2).2)=_;rw[FL g f r];rfl
def rR(b:nt Lf)(c:Z4):Bool:=match b with|none=>false|some x=>decide (x.2≤c)
def visit(nx:fy Z6->fy Z6)(bd:fy Z6->Z4):Z5->fy Z6->nt Lf->fy Lf×nt Lf
 |0,_,b=>([],b)
 |f+1,ws,b=>if rR b (bd ws)=Z1 then([(ws,bd ws)],b) else if nx ws=[] then([(ws,bd ws)],some (ws,bd ws)) else vL (λw=>visit nx bd f<|ws++[w]) (nx ws) b
section
variable{nx:fy Z6->fy Z6}{bd:fy Z6->Z4}
structure fL(b:nt Lf)(lv:fy Lf)(b':nt Lf):Z3 where
 low:∀ l∈lv,∃x,b'=some x/\x.2≤l.2
 pos:b'=b∨∃(x:Lf)(j:Z5),b'=some x/\lv[j]?=some x/\(∀(i:Z5)l,i<j->lv[i]?=some l->x.2<l.2)/\∀y,b=some y->x.2<y.2
def fL.nil:fL b [] b:={λl h=>by simp at h,.inl J}
def fL.trans(h1:fL b l1 b1)(h2:fL b1 l2 b2):fL b (l1++l2) b2:=by
 exists λl a=>?_
 .rcases ai0.mp a with h|h
  .let⟨x,ex,s⟩:=h1.low l h;rcases h2.pos with e|⟨y,j,r,_,_,f⟩
   .grind
   .grind
  .exact h2.low l h
 .rcases h2.pos with e|⟨x,j,ex,c,o,f⟩
  .rcases h1.pos with p|⟨x,j,ex,c,o,f⟩
   .grind
   .let m:j<l1.length:=(aiH.mp c).1;refine .inr {x,j,e.trans ex,by rwa[aiM m],λi l hi a=>?_,f};rw[aiM o6] at a;exact o i l hi a
  .refine .inr {x,l1.length+j,ex,by rwa[aiO o6,Nat.add_sub_cancel_left],λi l hi a=>?_,λy r=>?_}
   .by_cases g:i<l1.length
    .rw[aiM g] at a;let⟨z,n,q⟩:=h1.low l<|aiQ a;let:=f z n;omega
    .grind
   .rcases h1.pos with p|⟨z,_,n,_,_,q⟩
    .grind
    .grind
def fL.list{α:Type}{g:α->nt Lf->fy Lf×nt Lf}(h:∀a b,fL b (g a b).1 (g a b).2):∀as b,fL b (vL g as b).1 (vL g as b).2
 |[],b=>fL.nil
 |a::r,b=>(h a b).trans<|fL.list h r _
def pS:∀(f:Z5)(ws:fy Z6)(b:nt Lf),fL b (visit nx bd f ws b).1 (visit nx bd f ws b).2
 |0,ws,b=>fL.nil
 |f+1,ws,b=>by
  unfold visit;split
  .rename_i a;refine{λl c=>?_,.inl J};let:l =(ws,bd ws):=⇑c
   subst this;cases b with
   |none=>cases a
   |some x=>exact{x,J,ajn a}
  .rename_i a;split
   .refine{λl c=>?_,.inr {(ws,bd ws),(0),J,J,λi l hi=>by omega,λy e=>?_}}
    .grind
    .subst e;let:¬y.2≤bd ws:=λz=>a (aiS z)
     show bd ws<y.2;omega
   .exact fL.list (λw b=>pS f (ws++[w]) b) (nx ws) b
def Dp{α:Type}{g:α->nt Lf->fy Lf×nt Lf}(h:∀a b,b≠Z0->(g a b).2≠Z0):∀as b,b≠Z0->(vL g as b).2≠Z0
 |[],b,hb=>hb
 |a::r,b,hb=>Dp h r _<|h a b hb
def fL.some(h:fL b lv b')(a:b≠Z0):b'≠Z0:=by
 rcases h.pos with e|⟨x,_,e,_⟩
 .rw[e];exact a
 .rw[e];simp
variable{n:Z5}(hn:∀ws,nx ws=[]↔n≤ws.length)
include hn
def AV:∀(f:Z5)(ws:fy Z6)(b:nt Lf),n<f+ws.length->0<f->(visit nx bd f ws b).1≠[]/\(visit nx bd f ws b).2≠Z0
 |0,ws,b,h,h0=>by omega
 |f+1,ws,b,h,h0=>by
  unfold visit;split
  .rename_i i;exists o8;cases b with
   |none=>cases i
   |some x=>simp
  .split
   .exact⟨o8,o8⟩
   .rename_i g;let l:ws.length<n:=by grind
    cases e:nx ws with
    |nil=>exact absurd e g
    |cons w r=>
     let c:=AV f (ws++[w]) b (by simp;omega) o6;exists λz=>?_
     .let z:(visit nx bd f (ws++[w]) b).1++_=[]:=z;exact c.1 (List.append_eq_nil_iff.mp z).1
     .exact Dp (λa b j=>(pS f (ws++[a]) b).some j) r _ c.2
end
def pile(nx:fy Z6->fy Z6)(bd:fy Z6->Z4)(n:Z5):fy (fy Z6)->nt Lf->fy Lf×nt Lf:=vL λws=>visit nx bd (n+1-ws.length) ws
def HV{n:Z5}(h:ws.length≤n)(h1:rR b (bd ws)=Z2)(h2:nx ws≠[]) :
  pile nx bd n (ws::r) b=pile nx bd n ((nx ws).map (λw=>ws++[w])++r) b:=by
 obtain⟨f,a⟩:∃f,n+1-ws.length=f+1:={n-ws.length,o6};let e:visit nx bd (n+1-ws.length) ws b=vL (λws=>visit nx bd (n+1-ws.length) ws) ((nx ws).map (λw=>ws++[w])) b:=by rw[a,FL];show(if rR b (bd ws)=Z1 then _ else if nx ws=[] then _ else vL (λw=>visit nx bd f<|ws++[w]) (nx ws) b)=_;rw[aiJ (by rw[h1];simp),aiJ h2];congr 1;funext w;rw[show n+1 -(ws++[w]).length=f by simp;omega]
 unfold pile;rw[sr,←e];rfl
def Ia{n:Z5}(h:ws.length≤n)(h1:rR b (bd ws)=Z1) :
  pile nx bd n (ws::r) b =((ws,bd ws) ::(pile nx bd n r b).1,(pile nx bd n r b).2):=by
 obtain⟨f,a⟩:∃f,n+1-ws.length=f+1:={n-ws.length,o6};let e:visit nx bd (n+1-ws.length) ws b =([(ws,bd ws)],b):=by rw[a];exact aiN h1
 unfold pile;simp only[vL,e];rfl
def GI{n:Z5}(h:ws.length≤n)(h1:rR b (bd ws)=Z2)(h2:nx ws=[]) :
  pile nx bd n (ws::r) b =((ws,bd ws) ::(pile nx bd n r (some (ws,bd ws))).1,(pile nx bd n r (some (ws,bd ws))).2):=by
 obtain⟨f,a⟩:∃f,n+1-ws.length=f+1:={n-ws.length,o6};let e:visit nx bd (n+1-ws.length) ws b =([(ws,bd ws)],some (ws,bd ws)):=by rw[a];show(if rR b (bd ws)=Z1 then _ else if nx ws=[] then _ else _)=_;rw[aiJ (by rw[h1];simp),aiN h2]
 unfold pile;simp only[vL,e];rfl
def work(n:Z5):fy (fy Z6)->Z5
 |[]=>0
 |ws::r=>5 ^ (n+1-ws.length)+work n r
def fN(n:Z5):∀a b,work n (a++b)=work n a+work n b
 |[],b=>by simp[work]
 |x::r,b=>by simp only[List.cons_append,work,fN n r b,Nat.add_assoc]
def Ah(n:Z5):∀a,work n a.reverse=work n a
 |[]=>rfl
 |x::r=>by rw[amb,fN,Ah n r];simp only[work];omega
def yw{n:Z5}{ws:fy Z6}(h:ws.length<n):∀(nx:fy Z6),work n (nx.map (λw=>ws++[w]))=nx.length*5 ^ (n-ws.length)
 |[]=>by simp[work]
 |w::r=>by simp only[List.map_cons,work,yw h r,List.length_cons];rw[show n+1 -(ws++[w]).length=n-ws.length by simp,Nat.add_mul];omega
def uT(n:Z5):∀a,a.length≤work n a
 |[]=>aiL _
 |x::r=>by let:=uT n r;let:=anO (n:=n+1-x.length) (show 0<5 by omega);simp only[work,List.length_cons];omega
def FO{n:Z5}{ws:fy Z6}{nx:fy Z6}(h:ws.length<n)(h4:nx.length≤4):work n (nx.map (λw=>ws++[w]))<5 ^ (n+1-ws.length):=by rw[yw h,show n+1-ws.length =(n-ws.length)+1 by omega,Nat.pow_succ];let:=anO (n:=n-ws.length) (show 0<5 by omega);let:=am7 (5 ^ (n-ws.length)) h4;omega
def qi(C0:fy Z4)(ws:fy Z6):bP C0 ws=[]↔C0.length≤ws.length:=by
 unfold bP;cases e:C0[ws.length]? with
 |none=>exact{λ_=>ami.mp e,λ_=>rfl}
 |some a=>exact{λh=>absurd h<|Ag a ws,λh=>by rw[ajx h] at e;cases e}
def B4(C0:fy Z4)(ws:fy Z6):(bP C0 ws).length≤4:=by
 unfold bP;split
 .simp
 .unfold cE;split <;> split <;> split <;> simp
def jr(h:w∈bP C0 ws):∃a,C0[ws.length]?=some a/\w∈cE a ws:=by
 unfold bP at h;split at h
 .simp at h
 .grind
def VU(H:Hp)(a:jl)(l:Lf):Z3:=∃t,H a=some (.tup [.ref t,.int l.2])/\H t=some (.tup<|l.1.map V.str)
def cY(H H':Hp):Z3:=∀t xs,H t=some (.tup xs)->H' t=some (.tup xs)
def cY.of(s:aj H H'):cY H H':=λt xs e=>s _ _ e
def cY.trans(a:cY H H')(b:cY H' H''):cY H H'':=λt xs e=>b _ _<|a _ _ e
def cY.lst(h:H l=some (.lst xs)):cY H (Z9 H l (.lst ys)):=λt zs e=>by rw[ak λz=>by rw[z,h] at e;cases e];exact e
structure iI(H:Hp)(LL:fy jl)(lv:fy Lf):Z3 where
 len:LL.length=lv.length
 get:∀(i:Z5)a l,LL[i]?=some a->lv[i]?=some l->VU H a l
def iI.mono(R:iI H LL lv)(k:cY H H'):iI H' LL lv:=
 {R.len,λi a l c b=>let ⟨t,h1,h2⟩:=R.get i a l c b;{t,k _ _ h1,k _ _ h2}}
def iI.nil:iI H [] []:={J,λi a l e=>by simp at e}
def iI.snoc(R:iI H LL lv)(h:VU H a l):iI H (LL++[a]) (lv++[l]):=
 ⟨by simp[R.len],λi b m c e=>by
  let g:=R.len;by_cases hi:i<LL.length
  .rw[aiM hi] at c;rw[aiM o6] at e;exact R.get i b m c e
  .rw[aiO o6] at c;rw[aiO o6] at e;let f:i-LL.length=0:=by let:=(aiH.mp c).1;simp at this;omega
   rw[f] at c;rw[show i-lv.length=0 by omega] at e;simp at c e;subst c e;exact h⟩
structure dS(H:Hp)(PL:fy jl)(S:fy (fy Z6)):Z3 where
 len:PL.length=S.length
 get:∀(i:Z5)a ws,PL[i]?=some a->S[i]?=some ws->H a=some (.tup (ws.map V.str))
def dS.mono(R:dS H PL S)(k:cY H H'):dS H' PL S:={R.len,λi a ws c b=>k _ _<|R.get i a ws c b}
def dS.nil:dS H [] []:={J,λi a l e=>by simp at e}
def dS.append(R:dS H PL S)(e:dS H PM S'):dS H (PL++PM) (S++S'):=
 ⟨by simp[R.len,e.len],λi b m c a=>by
  let f:=R.len;by_cases hi:i<PL.length
  .rw[aiM hi] at c;rw[aiM o6] at a;exact R.get i b m c a
  .rw[aiO o6] at c;rw[aiO o6] at a;rw[←f] at a;exact e.get _ b m c a⟩
def dS.one(h:H a=some (.tup (ws.map V.str))):dS H [a] [ws]:=
 ⟨J,λi b m e c=>by
  let f:i=0:=by grind
  subst f;simp at e c;subst e c;exact h⟩
def dS.last(R:dS H PL (S++[ws])):∃e a,PL=e++[a]/\dS H e S/\H a=some (.tup (ws.map V.str)):=by
 let b:=R.len;let c:PL≠[]:=λz=>by rw[z] at b;simp at b
 exists PL.dropLast,PL.getLast c,(List.dropLast_concat_getLast c).symm,{by simp at b;rw[am1];omega,λi a w f g=>?_}
 .let hi:i<PL.dropLast.length:=(aiH.mp f).1;let h1:PL[i]?=some a:=by grind
  let h2:(S++[ws])[i]?=some w:=by grind
  exact R.get i a w h1 h2
 .refine R.get (PL.length-1) _ ws ?_ ?_
  .grind
  .grind
def zy(H:Hp)(v c:V):nt Lf->Z3
 |none=>v=.non/\c=.non
 |some x=>∃t,v=.ref t/\H t=some (.tup<|x.1.map V.str)/\c=.int x.2
def zy.mono(h:zy H v c b)(k:cY H H'):zy H' v c b:=by
 cases b with
 |none=>exact h
 |some x=>let⟨t,e,h,z⟩:=h;exact{t,e,k _ _ h,z}
def aha{n:Z5}(h:n≤7):5 ^ (n+1)≤390625:=ai9 (Nat.pow_le_pow_right o6 (show n+1≤8 by omega)) o7
def xK{n:Z5}(h:n≤400000):n<Z7:=akl h o7
def HZ{k:Z5}(e:σ.set k (some x)=σ')(h:N σ' H):ng k x σ H N:=by subst e;exact h
def gK{c:TT}{t u:TS}{D:Ends}{σ:St}{H:Hp}(a:∀Q:Bool->Hp->Z3,Q Z2 H->c σ H Q)(h:u D σ H):tY c t u D σ H:=a _<|fR h
def gz{c:TT}{t u:TS}{D:Ends}{σ:St}{H:Hp}(a:∀Q:Bool->Hp->Z3,Q Z1 H->c σ H Q)(h:t D σ H):tY c t u D σ H:=a _<|fS h
def Aj{X:Cx}{K:Frag}(e:X.K=K):dh X (.builtin "isinstance") (iQ K):=by subst e;exact oj
open PySem PySem.Spec PyProof.Rows Builtin Builtin.Str
def pe(x y:Z6):(x++y).cps.toList=x.cps.toList++y.cps.toList:=by show(x.cps++y.cps).toList=_;simp
def xG(x:Z6):x.cps.toList.length=x.length:=by simp[Str.length]
def vt{f b:Z5->Z4}{B:Z4}(a:0≤B)(c:∀d,f d≤B):∀k d,wyF f b k d≤↥k*B
 |0,_=>by show↥0≤_;simp
 |k+1,d=>by
  show f d +(if b d<0 then 0 else wyF f b k (b d).toNat)≤((k+1:Z5):Z4)*B;let h1:=c d;let h2:0≤↥k*B:=ajJ o6 a;let e:((k+1:Z5):Z4)*B =↥k*B+B:=by rw[show((k+1:Z5):Z4) =↥k+1 from J,amN,Int.one_mul]
  rw[e];by_cases h0:b d<0
  .rw[aiN h0];omega
  .rw[aiJ h0];let:=vt (b:=b) a c k (b d).toNat;omega
def pF{c:Z5->Z4}{B:Z4}(a:0≤B):∀{k:Z5},(∀d,d<k->c d≤B)->sumTo c k≤↥k*B
 |0,_=>by show↥0≤_;simp
 |k+1,h=>by
  show sumTo c k+c k≤((k+1:Z5):Z4)*B;let h1:=pF (k:=k) a λd b=>h d o6
  let h2:=h k o6;rw[show((k+1:Z5):Z4) =↥k+1 from J,amN,Int.one_mul];omega
def jq(xs:sA Z5):Z3:=∀(i j a b:Z5),xs[i]?=some a->xs[j]?=some b->i<j->a<b
def uY{xs:sA Z5}{j:Z5}(g:jq xs):∀(b lo hi:Z5),hi≤xs.size->hi-lo≤b->lo≤hi->(∀i a,i<lo->xs[i]?=some a->a<j)->(∀i a,hi≤i->xs[i]?=some a->j≤a) →
  ∃p,SetTable.below.go xs j b lo hi=p/\p≤xs.size/\(∀i a,i<p->xs[i]?=some a->a<j)/\(∀i a,p≤i->xs[i]?=some a->j≤a)
 |0,lo,hi,h1,h2,h3,h4,h5=>{lo,J,o6,h4,λi a c e=>h5 i a o6 e}
 |b+1,lo,hi,h1,h2,h3,h4,h5=>by
  unfold SetTable.below.go;by_cases l:lo<hi
  .rw[aiN l];dsimp only;let m:(lo+hi) / 2<xs.size:=by omega
   let em:xs[(lo+hi) / 2]?=some xs[(lo+hi) / 2]:=ajU m;let n:xs.getD ((lo+hi) / 2) j=xs[(lo+hi) / 2]:=by simp[Array.getD,m]
   rw[n];by_cases f:xs[(lo+hi) / 2]<j
   .rw[aiN f];refine uY g b _ hi h1 o6 o6 (λi a c e=>?_) h5;by_cases h:i =(lo+hi) / 2
    .rw[h,em] at e;cases e;exact f
    .exact alN (g i _ a _ e em o6) f
   .rw[aiJ f];refine uY g b lo _ o6 o6 o6 h4 λi a c e=>?_;by_cases h:i =(lo+hi) / 2
    .rw[h,em] at e;cases e;exact alD f
    .exact ajt (akl (alD f)<|g _ i _ a em e o6)
  .rw[aiJ l];exact{lo,J,o6,h4,λi a c e=>h5 i a o6 e}
def vc(b:jq xs)(j:Z5):SetTable.below xs j≤xs.size/\(∀i a,i<SetTable.below xs j->xs[i]?=some a->a<j)/\(∀i a,SetTable.below xs j≤i->xs[i]?=some a->j≤a):=by let⟨p,e,h⟩:=uY (j:=j) b xs.size 0 xs.size (aiL _) o6 o6 (λi a h=>by omega) (λi a h e=>by rw[amO h] at e;cases e);let:SetTable.below xs j=p:=e;rwa[this]
def DH{xs:sA Z5}(b:jq xs){i a:Z5}(h:xs[i]?=some a):SetTable.below xs (a+1)=i+1:=by
 let⟨h1,h2,h3⟩:=vc b (a+1);let hi:i<xs.size:=(ajy.mp h).1;rcases amc (SetTable.below xs (a+1)) (i+1) with z|z|z
 .exact absurd (h3 i a (Nat.le_of_lt_succ z) h) (Nat.not_succ_le_self a)
 .exact z
 .let e:xs[i+1]?=some (xs[i+1]'o6):=ajU o6;let u1:=h2 (i+1) _ z e;let u2:=b i (i+1) _ _ h e o6;omega
def D9(a:jq xs):SetTable.below xs 0=0:=by
 let⟨h1,h2,_⟩:=vc a 0;rcases anw (SetTable.below xs 0) with z|z
 .exact z
 .let e:xs[0]?=some (xs[0]'o6):=ajU o6;let:=h2 0 _ z e;omega
def An{α:Type}(xs:sA α){p:Z5}(b:p≤xs.size)(x:α)(i:Z5):(SetTable.insertAt xs p x)[i]? = if i<p then xs[i]? else if i=p then some x else xs[i-1]?:=by
 rw[←ajI,SetTable.toList_insertAt];let a:(xs.toList.take p).length=p:=by rw[aiV];exact alP b
 by_cases h1:i<p
 .rw[aiN h1,aiM<|a.symm ▸ h1,aj7 h1,ajI]
 .let h2:=alD h1;rw[aiJ h1,aiO<|a.symm ▸ h2,a];let⟨k,rfl⟩:=Nat.exists_eq_add_of_le h2;cases k with
  |zero=>simp
  |succ k=>rw[aiJ o6,show p +(k+1)-p=k+1 by omega,amA,alb,ajI];rfl
def BX{xs:sA Z5}(h:jq xs){j:Z5}(p:xs[SetTable.below xs j]?≠some j):jq (SetTable.insertAt xs (SetTable.below xs j) j):=by
 let⟨o,h1,h2⟩:=vc h j;let h3:∀i a,SetTable.below xs j≤i->xs[i]?=some a->j<a:=λi a hi e=>by
  let:=h2 i a hi e;rcases anx this with z|z
  .exact z
  .exfalso;subst z;rcases anx hi with y|y
   .let m:=ajU<|alN y (ajy.mp e).1;exact aj4 _<|akl (h2 _ _ (aiL _) m)<|h _ _ _ _ m e y
   .rw[←y] at e;exact p e
 intro i k a b f c l;rw[An xs o] at f c;by_cases g:i<SetTable.below xs j
 .rw[aiN g] at f;by_cases k1:k<SetTable.below xs j
  .rw[aiN k1] at c;exact h i k a b f c l
  .rw[aiJ k1] at c;by_cases k2:k=SetTable.below xs j
   .rw[aiN k2] at c;cases c;exact h1 i a g f
   .rw[aiJ k2] at c;exact alN (h1 i a g f)<|h3 (k-1) b o6 c
 .rw[aiJ g] at f;by_cases n:i=SetTable.below xs j
  .rw[aiN n] at f;cases f;rw[aiJ o6,aiJ o6] at c;exact h3 (k-1) b o6 c
  .rw[aiJ n] at f;rw[aiJ o6,aiJ o6] at c;exact h (i-1) (k-1) a b f c o6
def HD(a:jq xs){j:Z5}(h:xs[SetTable.below xs j]?=some j):j∈xs.toList:=by grind
def vW:∀(m:Z5)(l:fy Z5),(∀j,j<m->j∈l)->m≤l.length
 |0,l,_=>ajc _
 |m+1,l,h=>by
  let a:=h m o6;let b:=vW m (l.erase m) λj c=>(List.mem_erase_of_ne o6).mpr<|h j o6
  rw[List.length_erase_of_mem a] at b;let:=List.length_pos_of_mem a;omega
def hop(N i:Z5):Z5:=(i*5+1) % N
def ED(N:Z5):Z5->Z5->Z5
 |0,i=>i
 |m+1,i=>ED N m<|hop N i
def zM(N:Z5):Z5->Z5->Z5
 |0,_=>0
 |m+1,i=>(1 <<< i) ||| zM N m (hop N i)
def Bk{N j:Z5}:∀m i,(zM N m i).testBit j=Z1->∃k,k<m/\ED N k i=j
 |0,i,h=>by simp[zM] at h
 |m+1,i,h=>by
  unfold zM at h;rw[Nat.testBit_or,Bool.or_eq_true] at h;rcases h with h|h
  .exists (0),o6;rw[Nat.testBit_shiftLeft] at h;simp only[Bool.and_eq_true,decide_eq_true_eq] at h;let⟨h1,h2⟩:=h;let:j-i=0:=by
    rcases anw (j-i) with z|z
    .exact z
    .rw[Nat.testBit_one_eq_true_iff_self_eq_zero] at h2;exact h2
   show i=j;omega
  .let⟨k,a,e⟩:=Bk m (hop N i) h;exact{k+1,o6,e}
def fH(N:Z5):Bool:=(List.range N).all λi=>zM N N i==2 ^ N-1
def UM:fH 8=Z1:=by decide +kernel
def Cb:fH 32=Z1:=by decide +kernel
def Bg:fH 128=Z1:=by decide +kernel
def EO{N:Z5}(h:fH N=Z1){i j:Z5}(hi:i<N)(a:j<N):∃k,k<N/\ED N k i=j:=by unfold fH at h;rw[akh] at h;let:=h i<|ali.mpr hi;rw[alj] at this;refine Bk N i ?_;rw[this,Nat.testBit_two_pow_sub_one];exact aiS a
def adv(t:SetTable):Z5->SetTable.Probe->SetTable.Probe
 |0,p=>p
 |k+1,p=>adv t k<|t.advance p
def Qm(t:SetTable):∀a b p,adv t (a+b) p=adv t b (adv t a p):=by intro x;induction x <;> grind [adv]
def oJ(t:SetTable)(q:Z5×Z5)(d:nt Z5):SetTable.Probe:={j:=q.1,more:=SetTable.runEnd t.mask q.1-q.1,i:=q.1,perturb:=q.2,dummy:=d}
def CM(t:SetTable):∀m p,p.more=m->adv t (m+1) p=oJ t (SetTable.leap t.mask p.i p.perturb) p.dummy
 |0,p,h=>by show t.advance p=_;unfold SetTable.advance;rw[aiJ o6];rfl
 |m+1,p,h=>by
  show adv t (m+1) (t.advance p)=_;let e:t.advance p={p with j:=p.j+1,more:=p.more-1}:=by unfold SetTable.advance;rw[aiN o6]
  rw[e,CM t m _ (by grind)]
def eB(mask:Z5):Z5->Z5×Z5->Z5×Z5
 |0,q=>q
 |m+1,q=>eB mask m<|SetTable.leap mask q.1 q.2
def aid(mask i:Z5):SetTable.runEnd mask i-i≤9:=by unfold SetTable.runEnd;split <;> omega
def yQ(t:SetTable)(d:nt Z5):∀m q,∃k,k≤10*m/\adv t k (oJ t q d)=oJ t (eB t.mask m q) d
 |0,q=>{(0),o6,J}
 |m+1,q=>by let⟨k,a,e⟩:=yQ t d m<|SetTable.leap t.mask q.1 q.2;exists (SetTable.runEnd t.mask q.1-q.1+1)+k,(by let:=aid t.mask q.1;omega);rwa[Qm,CM t (SetTable.runEnd t.mask q.1-q.1) (oJ t q d) rfl]
def yW(mask:Z5):∀a b q,eB mask (a+b) q=eB mask b (eB mask a q):=by intro x;induction x <;> grind [eB]
def yu(mask:Z5):∀m q,(eB mask m q).2=q.2 / 32 ^ m
 |0,q=>by simp[eB]
 |m+1,q=>by show(eB mask m<|SetTable.leap mask q.1 q.2).2=_;rw[yu mask m];show q.2 / 32 / 32 ^ m=_;rw[Nat.div_div_eq_div_mul,Nat.pow_succ,Nat.mul_comm]
def wU(mask:Z5):∀m i,eB mask m (i,0) =(ED (mask+1) m i,0)
 |0,i=>rfl
 |m+1,i=>by
  show eB mask m (SetTable.leap mask i 0)=_;let e:SetTable.leap mask i 0 =(hop (mask+1) i,0):=by unfold SetTable.leap hop;simp
  rw[e,wU mask m];rfl
def Di(h:Z4):SetTable.bits h<2 ^ 64:=by unfold SetTable.bits;let h1:=aj3 h (show(2 ^ 64:Z4)≠0 by decide);let h2:=ajP h (show↥0<2 ^ 64 by decide);omega
def yG{mask:Z5}(b:fH (mask+1)=Z1){q:Z5×Z5}(c:q.2<2 ^ 64){j:Z5}(a:j<mask+1):∃m,m<mask+15/\(eB mask m q).1=j:=by
 let f:(eB mask 13 q).2=0:=by rw[yu];exact Nat.div_eq_of_lt<|alN c o7
 let l0:(eB mask 13 q).1<mask+1:=by rw[show(13:Z5)=12+1 from J,yW];show(_ % (mask+1))<_;exact am3 _ o6
 let⟨k,g,e⟩:=EO b l0 a;exists 13+k,o6;rw[yW,show eB mask 13 q =((eB mask 13 q).1,0) from by rw[←f],wU];exact e
def IJ{t:SetTable}(a:t.dummies=#[])(j:Z5):(t.slot j=.empty/\t.place[SetTable.below t.place j]?≠some j)∨(∃i,t.slot j=.live i)/\t.place[SetTable.below t.place j]?=some j:=by
 unfold SetTable.slot;by_cases h:t.place[SetTable.below t.place j]?=some j
 .grind
 .left;let h2:SetTable.has t.dummies j=Z2:=by rw[a];simp[SetTable.has]
  let h1:(t.place[SetTable.below t.place j]? == some j)=Z2:=⇑h
  simp only[h1,h2];exact⟨J,h⟩
def Gs(f:t.dummies=#[])(h:Z4):∀(a:Z5)(p:SetTable.Probe),p.dummy=Z0 →
  (∃j,SetTable.probe.go t (λ_=>h+1) h a p=some (.empty j Z0)/\t.place[SetTable.below t.place j]?≠some j)∨∀k,k<a->t.place[SetTable.below t.place (adv t k p).j]?=some (adv t k p).j
 |0,p,_=>.inr λk g=>by omega
 |a+1,p,hp=>by
  unfold SetTable.probe.go;rcases IJ f p.j with⟨e,hn⟩|⟨⟨i,e⟩,l⟩
  .grind
  .rw[e];dsimp only;let c:((h+1:Z4)==h)=Z2:=by simp;omega
   rw[c];simp only[Bool.false_eq_true,↓reduceIte];let b:(t.advance p).dummy=Z0:=by unfold SetTable.advance;split <;> exact hp
   rcases Gs f h a (t.advance p) b with z|z
   .exact .inl z
   .refine .inr λk g=>?_
    cases k with
    |zero=>exact l
    |succ k=>exact z k o6
def Gb{t:SetTable}(o:t.dummies=#[])(n:jq t.place)(i:fH (t.mask+1)=Z1)(hs:t.place.size≤t.mask)(h:Z4):∃j,t.freeSlot h=some (j,Z2)/\t.place[SetTable.below t.place j]?≠some j:=by
 let c:=Gs o h (10*SetTable.turns t.mask) (t.probeStart h) rfl;rcases c with⟨j,e,hn⟩|a
 .refine{j,?_,hn};unfold SetTable.freeSlot SetTable.probe;rw[e];rfl
 .exfalso;let f:=vW (t.mask+1) t.place.toList λj g=>by let⟨m,f,e⟩:=yG i (q:=(SetTable.bits h % (t.mask+1),SetTable.bits h)) (Di h) g;let⟨k,p,l⟩:=yQ t Z0 m (SetTable.bits h % (t.mask+1),SetTable.bits h);let b:t.probeStart h=oJ t (SetTable.bits h % (t.mask+1),SetTable.bits h) Z0:=rfl;let:=a k (by unfold SetTable.turns;omega);rw[b,l] at this;let this:t.place[SetTable.below t.place (eB t.mask m (SetTable.bits h % (t.mask+1),SetTable.bits h)).1]?=some (eB t.mask m (SetTable.bits h % (t.mask+1),SetTable.bits h)).1:=this;rw[e] at this;exact HD n this
  simp at f;omega
def zW{mask:Z5}:∀a q,
  (∃j,SetTable.layClean.free mask owner a q.1 q.2=some j/\owner[j]?=some Z0)∨∀m,m<a->owner[(eB mask m q).1]?≠some Z0
 |0,q=>.inr λm c=>by omega
 |a+1,q=>by
  unfold SetTable.layClean.free;cases e:(List.range (SetTable.runEnd mask q.1+1-q.1)).find? λk=>(owner.getD (q.1+k) (some 0)).isNone with
  |some k=>
   left;let g:=List.find?_some e;exists q.1+k,J;by_cases b:q.1+k<owner.size
   .simp_all
   .grind
  |none=>
   dsimp only;rcases zW a (SetTable.leap mask q.1 q.2) with z|z
   .exact .inl z
   .refine .inr λm c=>?_
    cases m with
    |succ m=>exact z m o6
    |zero=>intro h0;let:=List.find?_eq_none.mp e 0<|ali.mpr (by unfold SetTable.runEnd;split <;> omega);let h0:owner[q.1]?=some Z0:=h0;let b:q.1<owner.size:=(ajy.mp h0).1;let f:=(ajy.mp h0).2;simp[Array.getD,b,f] at this
def fJ(owner:sA (nt Z5)):fy Z5:=owner.toList.filterMap id
def IA{l:fy (nt Z5)}(h:∀j,j<l.length->l[j]?≠some Z0):(l.filterMap id).length=l.length:=by
 induction l with
 |nil=>rfl
 |cons x r c=>
  let b:=h 0 o8;cases x with
  |none=>exact absurd J b
  |some a=>rw[show(some a::r).filterMap id=a::r.filterMap id from J,ajp,ajp,c λj e=>by let:=h (j+1) (by simp;omega);simpa using this]
def QY{mask:Z5}{owner:sA (nt Z5)}(f:fH (mask+1)=Z1)(hs:owner.size=mask+1)(a:(fJ owner).length<mask+1){i p:Z5}(b:p<2 ^ 64):∃j,SetTable.layClean.free mask owner (SetTable.turns mask) i p=some j/\owner[j]?=some Z0:=by
 rcases zW (mask:=mask) (owner:=owner) (SetTable.turns mask) (i,p) with z|z
 .exact z
 .exfalso;let g:=IA (l:=owner.toList) λj c=>by let⟨m,h,e⟩:=yG f (q:=(i,p)) b (j:=j) (by simpa[hs] using c);let:=z m (by unfold SetTable.turns;omega);rw[e] at this;rwa[ajI]
  unfold fJ at a;rw[g] at a;simp[hs] at a
def Hi{l:fy (nt Z5)}{j k:Z5}(h:l[j]?=some Z0):((l.set j (some k)).filterMap id).Perm (l.filterMap id++[k]):=by
 let c:j<l.length:=(aiH.mp h).1;let e:l=l.take j++Z0::l.drop (j+1):=by let a:l[j]=Z0:=(aiH.mp h).2;let:=alH j l;rw[akz c,a] at this;exact this.symm
 let b:l.set j (some k)=l.take j++some k::l.drop (j+1):=by grind
 rw[b]
 conv=>rhs;rw[e]
 simp only[List.filterMap_append];rw[show(some k::l.drop (j+1)).filterMap id=k ::(l.drop (j+1)).filterMap id from J,show(Z0::l.drop (j+1)).filterMap id =(l.drop (j+1)).filterMap id from J,aky];exact(amj _).mpr (List.perm_append_singleton _ _).symm
def AR{mask:Z5}(a:fH (mask+1)=Z1):∀(hs:fy Z4)(owner:sA (nt Z5))(k:Z5),owner.size=mask+1->(fJ owner).Perm (List.range k)->k+hs.length≤mask+1 →
  ∃o,hs.foldl (λacc h=>do
   let (owner,k) ←acc;let j ←SetTable.layClean.free mask owner (SetTable.turns mask) (SetTable.bits h % (mask+1)) (SetTable.bits h)
   pure (owner.setIfInBounds j (some k),k+1)) (some (owner,k))=some (o,k+hs.length)/\o.size=mask+1/\(fJ o).Perm (List.range (k+hs.length))
 |[],owner,k,h1,h2,h3=>⟨owner,J,h1,h2⟩
 |h::r,owner,k,h1,h2,h3=>by
  let e:(fJ owner).length<mask+1:=by rw[h2.length_eq,amd];simp at h3;omega
  let⟨j,c,l⟩:=QY a h1 e (i:=SetTable.bits h % (mask+1))<|Di h;let g:(fJ (owner.setIfInBounds j (some k))).Perm (List.range (k+1)):=by unfold fJ;rw[Array.toList_setIfInBounds,akK];exact(Hi (by grind)).trans (h2.append_right _)
  let⟨o,b,s1,f⟩:=AR a r (owner.setIfInBounds j<|some k) (k+1) (⇑h1) g (by simp at h3;omega);refine{o,?_,s1,by rwa[ajp,show k +(r.length+1)=k+1+r.length by omega]};rw[amE];simp only[Option.bind_eq_bind,Option.bind_some,c];rwa[ajp,show k +(r.length+1)=k+1+r.length by omega]
def BO{mask:Z5}(b:fH (mask+1)=Z1)(a:sA Z4)(hn:a.size≤mask):∃o,SetTable.layClean mask a=some o/\o.size=mask+1/\(fJ o).Perm (List.range a.size):=by
 let h0:fJ (Array.replicate (mask+1) Z0)=[]:=by unfold fJ;simp
 let⟨o,e,h1,h2⟩:=AR b a.toList (Array.replicate (mask+1) Z0) 0 o8 (by rw[h0];exact .nil) (by simp;omega);rw[Nat.zero_add,ajT] at h2;refine{o,?_,h1,h2};unfold SetTable.layClean;rw[←Array.foldl_toList];rw[e];rfl
def oz{α:Type}(f:α->Bool)(g:α->nt Z5)(a:∀x,f x =(g x).isSome):∀l:fy α,l.filterMap (λj=>(g j).map λ_=>j)=l.filter f
 |[]=>rfl
 |x::r=>by
  cases e:g x with
  |none=>rw[List.filterMap_cons_none (by rw[e];rfl),List.filter_cons_of_neg (by rw[a,e];simp),oz f g a r]
  |some y=>rw[List.filterMap_cons_some (b:=x) (by rw[e];rfl),List.filter_cons_of_pos (by rw[a,e];rfl),oz f g a r]
def Qu{l:fy Z5}(h:l.Pairwise (· < ·)):jq l.toArray:=by intro i j a b e f c;simp only[List.getElem?_toArray] at e f;let⟨hi,m⟩:=aiH.mp e;let⟨g,n⟩:=aiH.mp f;let:=List.pairwise_iff_getElem.mp h i j hi g c;omega
def Qf{mask:Z5}(i:fH (mask+1)=Z1)(a:sA Z4)(hn:a.size≤mask)(finger moves:Z5)(led plain:Bool) :
  ∃place b,SetTable.laid mask finger moves led plain a=some ({mask,place,dummies:=#[],finger,led,moves,plain},b)/\jq place/\place.size=a.size/\b.toList.Perm (List.range a.size):=by
 let⟨o,e,hs,g⟩:=BO i a hn;exists _,_,by unfold SetTable.laid;rw[e];rfl,?_,?_
 .rw[al3];let n:(λj=>Option.map (λx:Z5×Nat=>x.1) (Option.map (λy=>(j,y)) (o.getD j Z0)))=λj=>(o.getD j Z0).map λ_=>j:=by funext j;cases o.getD j Z0 <;> rfl
  rw[n,oz (λj=>(o.getD j Z0).isSome) _ λ_=>rfl];exact Qu<|List.pairwise_lt_range.filter _
 .let m:((List.range (mask+1)).filterMap λj=>(o.getD j Z0).map λy=>(j,y)).length =(fJ o).length:=by
   rw[←aiE (f:=λx:Z5×Nat=>x.2)];rw[al3];unfold fJ;let c:o.toList =(List.range (mask+1)).map λj=>o.getD j Z0:=by
    refine alu λj=>?_
    rw[ajI,aiR];by_cases h:j<mask+1
    .simp_all
    .grind
   rw[c,al1];congr 2;funext j;simp only[Function.comp_apply,_root_.id];cases o.getD j Z0 <;> rfl
  simp only[List.size_toArray,List.length_map];rw[m,g.length_eq,amd]
 .let l:((List.range (mask+1)).filterMap λj=>(o.getD j Z0).map λy=>(j,y)).map (λx:Z5×Nat=>x.2)=fJ o:=by
   rw[al3];unfold fJ;let c:o.toList =(List.range (mask+1)).map λj=>o.getD j Z0:=by
    refine alu λj=>?_
    rw[ajI,aiR];by_cases h:j<mask+1
    .simp_all
    .grind
   rw[c,al1];congr 1;funext j;simp only[Function.comp_apply,_root_.id];cases o.getD j Z0 <;> rfl
  show(((List.range (mask+1)).filterMap λj=>(o.getD j Z0).map λy=>(j,y)).map λx:Z5×Nat=>x.2).Perm _;rwa[l]
structure mh(t:SetTable)(n:Z5)(L:Bool):Z3 where
 sz:t.place.size=n
 dm:t.dummies=#[]
 ri:jq t.place
 pl:t.plain=Z1
 ld:t.led=L
 ms:(t.mask=7/\n≤4)∨(t.mask=31/\n≤18)∨(t.mask=127/\n≤63)
def mh.fits{n:Z5}(h:mh t n L):t.fits n=Z1:=by unfold SetTable.fits SetTable.fill;rw[h.sz,h.dm];let:=h.ms;simp;omega
def mh.fresh(L:Bool):mh (.fresh 0 0 L) 0 L:={J,J,λi j a b h=>by simp[SetTable.fresh] at h,J,J,.inl ⟨J,o6⟩}
def mh.cov{n:Z5}(h:mh t n L):fH (t.mask+1)=Z1:=by
 rcases h.ms with⟨e,_⟩|⟨e,_⟩|⟨e,_⟩ <;> rw[e]
 .exact UM
 .exact Cb
 .exact Bg
def kN{α:Type}(xs:sA α)(p:Z5)(x:α):(SetTable.insertAt xs p x).size=xs.size+1:=by rw[←ajT,(SetTable.insertAt_perm xs p x).length_eq];simp
def EV{es:sA (Z4×mu)}{L:Bool}(T:mh t es.size L)(hn:es.size<63)(h:Z4)(x:mu) :
  ∃a t',layNew t es h x =(a,t',Z2,Z2)/\a.size=es.size+1/\t'.place.size=es.size+1/\t'.dummies=#[]/\jq t'.place/\t'.plain=Z1/\t'.led=L/\t'.mask=t.mask:=by
 let⟨j,c,e⟩:=Gb T.dm T.ri T.cov (by let:=T.ms;let:=T.sz;omega) h;let hsz:=T.sz;let b:(SetTable.insertAt es (SetTable.below t.place j) (h,x)).size=es.size+1:=kN ..;let i:SetTable.has t.dummies j=Z2:=by rw[T.dm];simp[SetTable.has]
 let g:t.put j =({t with place:=SetTable.insertAt t.place (SetTable.below t.place j) j},SetTable.below t.place j):=by unfold SetTable.put;simp only[i];rfl
 let f:({t with place:=SetTable.insertAt t.place (SetTable.below t.place j) j}:SetTable).fits (es.size+1)=Z1:=by unfold SetTable.fits SetTable.fill;simp only[kN,T.dm,hsz];let:=T.ms;simp;omega
 refine{SetTable.insertAt es (SetTable.below t.place j) (h,x),{t with place:=SetTable.insertAt t.place (SetTable.below t.place j) j},?_,b,by show(SetTable.insertAt _ _ _).size=_;rw[kN,hsz],T.dm,BX T.ri e,T.pl,T.ld,J};unfold layNew;rw[c];dsimp only;rw[g];dsimp only;unfold SetTable.orStandIn;rw[b,f];rfl
def Hr{a mask:Z5}(l:SetTable.sizeAbove a-1=mask)(i:fH (mask+1)=Z1)(hn:es.size≤mask) :
  ∃c t',relayAll t es a =(c,t',Z2)/\c.size=es.size/\t'.place.size=es.size/\t'.dummies=#[]/\jq t'.place/\t'.plain=t.plain/\t'.led=t.led/\t'.mask=mask:=by
 let⟨place,b,e,o,f,g⟩:=Qf i (es.map (·.1)) (⇑hn) t.finger (t.movedTo mask) t.led t.plain;rw[Array.size_map] at f g;let n:t.relaid (es.map (·.1)) a=some ({mask,place,dummies:=#[],finger:=t.finger,led:=t.led,moves:=t.movedTo mask,plain:=t.plain},b):=by unfold SetTable.relaid;rwa[l]
 let h:(b.filterMap (es[·]?)).size=es.size:=by rw[←ajT,Array.toList_filterMap,((g.filterMap _).trans (by rw[filterMap_getElem?_range])).length_eq];simp
 let m:coversAll b es.size=Z1:=List.isPerm_iff.mpr g;let j:({mask,place,dummies:=#[],finger:=t.finger,led:=t.led,moves:=t.movedTo mask,plain:=t.plain}:SetTable).fits es.size=Z1:=by unfold SetTable.fits SetTable.fill;simp[f];omega
 refine{b.filterMap (es[·]?),{mask,place,dummies:=#[],finger:=t.finger,led:=t.led,moves:=t.movedTo mask,plain:=t.plain},?_,h,f,J,o,J,J,J};unfold relayAll;rw[n];dsimp only;rw[h,m,j];rfl
def aai:mu->Z4
 |.int n _=>n
 |_=>0
def ki(es:sA (Z4×mu)):fy Z4:=es.toList.map λe=>aai e.2
def i9(prog:t6)(w:t7)(h:Heap)(a:jl)(b:fy Z4)(L:Bool):Z3:=
 ∃es ep t,h.get? a=some {.type "set",Z0,.set es ep t,#[]}/\ElemsOf (intKind prog w) es.toList/\(ki es).Perm b/\mh t es.size L/\es.size≤63
def AJ(b:ElemsOf (intKind prog w) es.toList){k:Z4}:k∈ki es↔∃ e∈es.toList,(intKind prog w).is k e.2=Z1:=by
 unfold ki;rw[aje];constructor
 .rintro⟨e,a,rfl⟩;let⟨⟨g,f,_⟩,_⟩:=b e a;let⟨t,c⟩:=alp (show Value.isInt g e.2=Z1 from f);exact{e,a,by rw[c];exact intKind_is prog w _ t}
 .rintro⟨e,a,f⟩;let⟨t,c⟩:=alp (show Value.isInt k e.2=Z1 from f);exact{e,a,by rw[c];rfl}
def zJ(es:sA (Z4×mu)):(ki es).length=es.size:=by unfold ki;simp
section
variable{prog:t6}{w:t7}{A:Around}{E:mu->q8->Z3}{s:q8}
def vA{ep:Z5}(b:s.heap.get? a=some {.type "set",Z0,.set es ep t,#[]})(c:es'.size≤64)(h:∀h',Heap.SameBut a s.heap h'->h'.get? a=some {.type "set",Z0,.set es' (ep+1) t',#[]}->Q () {s with heap:=h'}):wpAny (model prog w) A (storeSet a es' t') Q E s:=by refine wpAny_storeSet_of b J (h _ (akd s.heap a _) ?_)<|ajt<|aF o6;let:=ajw (Obj.putSet es' t') b (by rw[putSet_of es' t' rfl];rfl);rwa[putSet_of es' t' rfl] at this
def Hq{k:Z4}(hS:i9 prog w s.heap a fm L)(r:(step_dedup fm k).length≤63)(h:∀b h',Heap.SameBut a s.heap h'->i9 prog w h' a (step_dedup fm k) L->Q b {s with heap:=h'}) :
  wpAny (model prog w) A (setAddHashed a (.int k tk) (hashInt k)) Q E s:=by
 let⟨es,ep,t,Y,i,l,U,hsz⟩:=hS;let hf:=U.fits;let q:(Value.int k tk).scannable=Z1:=rfl;let n:(intKind prog w).is k (.int k tk)=Z1:=intKind_is prog w k tk;unfold setAddHashed setAddHashedIn;refine aka<|aiF<|alv Y J hf ?_;dsimp only;rw[byScan_of (knd:=intKind prog w) q (by unfold scanBound;omega) i];simp only[↓reduceIte];unfold setAddByScan;refine aiF ?_;refine aiF<|wpAny_rule ?_;refine aiF<|wpAny_setScan_of (knd:=intKind prog w) n Y J hf i ?_;cases hr:List.findIdx? (λe=>(intKind prog w).is k e.2) es.toList with
 |some j=>
  dsimp only;let⟨hj,a5,_⟩:=List.findIdx?_eq_some_iff_getElem.mp hr;let a6:k∈fm:=l.mem_iff.mp<|(AJ i).mpr {_,ajF hj,a5};let x:step_dedup fm k=fm:=by unfold step_dedup;rw[aiN<|akV.mpr ⟨k,a6,o8⟩]
  rw[x] at h;refine aiK<|aiK ?_;let e:s={s with heap:=s.heap}:=by cases s;rfl
  rw[e];exact h _ s.heap (Heap.SameBut.refl a s.heap) ⟨es,ep,t,Y,i,l,U,hsz⟩
 |none=>
  dsimp only;let O:k∉fm:=λz=>by let⟨e,he,hp⟩:=(AJ i).mp<|l.mem_iff.mpr z;let:=List.findIdx?_eq_none_iff.mp hr e he;rw[hp] at this;exact Bool.noConfusion this
  let x:step_dedup fm k=fm++[k]:=by
   unfold step_dedup;rw[aiJ (λz=>by
    let⟨y,hy,e⟩:=akV.mp z;let:y=k:=⇑e
    exact O<|this ▸ hy)]
  rw[x] at h r;let a7:fm.length=es.size:=by rw[←l.length_eq,zJ]
  let S:es.size<63:=by grind
  let g:=layNew_perm t es (hashInt k)<|.int k tk;let⟨f,v,e1,z1,z2,z3,z4,z5,z6,z7⟩:=EV U S (hashInt k)<|.int k tk;let a8:layNew t es ((intKind prog w).hash k) (.int k tk) =(f,v,Z2,Z2):=e1;rw[e1] at g;dsimp only at g;rw[Array.toList_push] at g;let p:ElemsOf (intKind prog w) f.toList:=(i.push n q).perm g;let o:(ki f).Perm (fm++[k]):=by unfold ki;refine(g.map _).trans ?_;rw[ajb];exact l.append_right _
  let B:layNew t es (hashInt k) (.int k tk) =(f,v,Z2,Z2):=e1;rw[B];dsimp only;refine aiF<|aiK ?_;rw[z5];simp only[↓reduceIte];rw[hashByValue_scannable 8 q];refine aiF<|aiK ?_;simp only[plainKind,↓reduceIte];refine aiF (vA Y o6 λh1 H F=>?_);by_cases c:v.tooFull=Z1
  .rw[c];simp only[Bool.not_false,Bool.and_self,↓reduceIte];obtain⟨mask,hm,hc,a2,a3⟩:∃mask,SetTable.sizeAbove (SetTable.grown f.size)-1=mask/\fH (mask+1)=Z1/\f.size≤mask/\((mask=7/\f.size≤4)∨(mask=31/\f.size≤18)∨(mask=127/\f.size≤63)):=by
    unfold SetTable.tooFull SetTable.fill at c;rw[z2,z3,z7] at c;let c:(es.size+1+0)*5≥t.mask*3:=ajn c;rcases U.ms with⟨u,C⟩|⟨u,C⟩|⟨u,C⟩
    .rw[u] at c;let:f.size=5:=by omega
     rw[this];exact{(31),o4,Cb,o6,o6}
    .rw[u] at c;let:f.size=19:=by omega
     rw[this];exact{(127),o4,Bg,o6,o6}
    .grind
   let m:=relayAll_perm v f<|SetTable.grown f.size;let⟨a1,t2,e2,y1,y2,y3,y4,y5,y6,y7⟩:=Hr (t:=v) (es:=f) hm hc a2;rw[e2] at m ⊢;dsimp only at m ⊢;refine aiF<|aiK ?_;refine aiF (vA F o6 λh2 a0 a4=>?_);refine aiK<|aiK ?_;refine h _ h2 (H.trans a0) {a1,_,t2,a4,p.perm m,(m.map _).trans o,{y2.trans y1.symm,y3,y4,y5.trans z5,y6.trans z6,by rwa[y7,y1]},o6}
  .let c:v.tooFull=Z2:=⇑c
   rw[c];simp only[Bool.and_false,Bool.false_eq_true,↓reduceIte];refine aiK<|aiK ?_;refine h _ h1 H {f,_,v,F,p,o,{z2.trans z1.symm,z3,z4,z5,z6,?_},o6};unfold SetTable.tooFull SetTable.fill at c;rw[z2,z3,z7] at c;let c:¬(es.size+1+0)*5≥t.mask*3:=akL c;rw[z7,z1];rcases U.ms with⟨u,C⟩|⟨u,C⟩|⟨u,C⟩
   .grind
   .grind
   .right;right;omega
def i9.at(S:i9 prog w h a fm L)(e:∀o,h.get? a=some o->h'.get? a=some o):i9 prog w h' a fm L:=by grind [i9]
def tK(val:Z5->Z4):∀{i n:Z5},i≤n->(firstMet val i).length≤(firstMet val n).length
 |i,0,h=>by rw[show i=0 by omega];exact aiL _
 |i,n+1,h=>by
  by_cases e:i=n+1
  .grind
  .refine ai9 (tK val (show i≤n by omega)) ?_;rw[firstMet_succ,step_length];split <;> omega
def F1{n:Z5}{P:Z5->mu->Z3}{St:Z5->q8->Z3}(W:WalksS prog w A.in1 I fp wr G n P St)(S:jl)(y:S∉fp)(val:Z5->Z4)(q:∀i v,P i v->∃t,v=.int (val i) t)(c:(firstMet val n).length≤63):∀k i s,n-i=k->i≤n->St i s->i9 prog w s.heap S (firstMet val i) L →
   (∀s',Moved (S::wr) G s s'->i9 prog w s'.heap S (firstMet val n) L->R (.ok (.ret .none)) s')->codeAny (model prog w) A (.builtin "set.update.loop" {[.ref S,.ref I],[]}) R s:=by
 let z:S∉wr:=λh=>y<|W.sub _ h
 let a:∀ b∈wr,b∈S::wr:=λb c=>aiZ _ c
 intro k
 induction k with
 |zero=>
  intro i s hk hi g F B;let O:i=n:=by omega
  subst O;refine aj8 ale ?_;rw[aj1 akn _];show wpAny _ A.in1 (pyNext (.ref I) >>= _) _ _ s;refine aiF (W.done s _ _ g λs' u=>?_);show wpAny _ A.in1 (ret Value.none) _ _ s';exact aiK<|B s' (u.mono a) (F.at λo e=>u.heap S o z e)
 |succ k Y=>
  intro i s hk hi g F B;let f:i<n:=by omega
  refine aj8 ale ?_;rw[aj1 akn _];show wpAny _ A.in1 (pyNext (.ref I) >>= _) _ _ s;refine aiF (W.item i s _ _ f g λv s' U l u=>?_);let⟨t,rfl⟩:=q i v U;let H:i9 prog w s'.heap S (firstMet val i) L:=F.at λo e=>u.heap S o z e
  show wpAny _ A.in1 (holding [Value.int (val i) t] (setAdd S<|.int (val i) t) >>= _) _ _ s';refine aiF<|aka ?_;unfold setAdd;refine aka ?_;refine aiF<|(intKind prog w).pyHash (k:=val i) (intKind_is _ _ _ _) ?_;let m:=firstMet_succ val i;refine Hq (s:={s' with toks:=s'.toks+1}) H (by rw[←m];exact ai9 (tK val f) c) λb h' r j=>?_
  rw[←m] at j;refine aiK {alB akn _,Y (i+1) _ o6 f (W.frame _ s' _ _ l (akZ _) λb c o e=>?_) j λC p x=>?_}
  .rw[r.2 b λh:b=S=>y (by rwa[←h])];exact e
  .refine B C (Moved.trans W.gtrans ((u.mono a).then_heap (akZ _) λb o c e=>?_) p) x;rwa[r.2 b λh:b=S=>c (by grind)]
def HL(a:mu)(h:Q₁ (.ref (~~~s)) {s with heap:=s.heap.push {.type "set",Z0,.set #[] 0 (.fresh 0 0 (!w.params.followText "set-order")),#[]}}) :
  codeAny (model prog w) A (.call (.builtin "set.__new__") {[.type "set",a],[]}) (wants Q₁ E) s:=by
 refine codeAny_of_tree ?_;show wpAny _ A.in1 (do checkBuiltinCall "set.__new__" {[.type "set",a],[]};again<|.builtin "set.__new__" {[.type "set",a],[]}) _ _ s;refine aiF<|alA (PySem.F.newCall_set_1 a)<|aiK {alB amU _,aj8 PySem.F.entry_set_new ?_};rw[aj1 amU _];unfold Builtin.«set.__new__» Builtin.Frozenset.newClass;let b:=sub_set_self;let⟨e,g,d,c,os⟩:=s;dsimp only
 wp_walk
 refine akW<|aiK ?_;dsimp only;simp only[newObj];refine aiF<|wpAny_alloc<|aiK ?_;exact aiK h
set_option maxHeartbeats 6400000 in
theorem Fy(hh:A.handled=Z0)(hl:s.heap.IsList l items)(hi:IntsAre items.toList ns)(U:(firstMet (λi=>ns.getD i 0) items.size).length≤63)(h:∀h' tk,i9 prog w h' (~~~s) (firstMet (λi=>ns.getD i 0) items.size) (!w.params.followText "set-order")->(∀b o,b<~~~s->s.heap.get? b=some o->h'.get? b=some o)->Q (.ref (~~~s)) {s with heap:=h',toks:=tk}) :
  wpAny (model prog w) A (call (.type "set") [.ref l]) Q E s:=by
 let⟨c,tl,a8⟩:=ajY.mro;let a2:=ajY.made;let a7:=ajY.sub;refine am2<|codeAny_of_tree ?_;show wpAny _ _ (callAny (.type "set") _) _ _ _;refine aiK {Code.quiet_builtin _ o4,aj8 PySem.F.entry_type_call ?_};rw[Around.under_plain (weight_type_call_type "set" [.ref l] []) rfl];let h1:=ajY.notType;let h2:=ajY.canCreate;let ar:=PySem.F.typeCall_set_1<|.ref l
 repeat (any_goals (first|assumption|wp_step))
 obtain⟨led,g⟩:∃led:Bool,led=!w.params.followText "set-order":={1};refine akR (HL (.ref l) (E:=E) (Q₁:=λobj j=>obj=.ref (~~~s)/\j={s with heap:=s.heap.push {.type "set",Z0,.set #[] 0 (.fresh 0 0 led),#[]}}) {J,by rw[g]}) λr j hr=>?_
 cases r with
 |error e=>exact hr
 |ok fl=>
  cases fl with
  |ret obj=>
   let⟨rfl,rfl⟩:=hr;let hS:(s.heap.push {.type "set",Z0,.set #[] 0 (.fresh 0 0 led),#[]}).get? (~~~s)=some {.type "set",Z0,.set #[] 0 (.fresh 0 0 led),#[]}:=aiW _ rfl;let hT:Shared.TypeIs {s with heap:=s.heap.push {.type "set",Z0,.set #[] 0 (.fresh 0 0 led),#[]}} (.ref (~~~s)) "set":={_,hS,J};let al:=ajY.init.lookup;let an:=ajY.init.bind<|.ref (~~~s)
   repeat (any_goals (first|assumption|wp_step))
   refine akR (codeAny_call_builtin (R:=wants (λr m=>r=.none/\∃h' tk,m={s with heap:=h',toks:=tk}/\i9 prog w h' (~~~s) (firstMet (λi=>ns.getD i 0) items.size) (!w.params.followText "set-order")/\(∀b o,b<~~~s->s.heap.get? b=some o->h'.get? b=some o)) E) ajY.init.plain PySem.F.entry_set_init<|check_set_init_1 hT ?_) λz m a=>?_
   .let⟨ol,O,B,nl,S⟩:=hl;let⟨ac,n,a4,f⟩:=ol;simp only at B S;subst B;subst S;let y:(s.heap.push {.type "set",Z0,.set #[] 0 (.fresh 0 0 led),#[]}).get? l=some {.type "list",n,.seq items nl,f}:=aiI _ O;let ab:=PySem.F.sub_list_set;let a9:=PySem.F.sub_list_frozenset;let am:(Value.type "list" == Value.type "dict")=Z2:=by decide
    let H:(s.heap.push {.type "set",Z0,.set #[] 0 (.fresh 0 0 led),#[]}).IsList l items:={_,y,J,nl,J};unfold Builtin.«set.__init__» noKeywords Builtin.Frozenset.updateFrom;generalize hPI:pyIter=PI
    wp_walk
    subst hPI;refine alq H ?_;refine aiF<|wpAny_runValue ?_;let C:l<(~~~s):=aiP O;let a0:A.in1.in1.in1.handled=Z0:=by simp[hh]
    let u:l≠(s.heap.push {.type "set",Z0,.set #[] 0 (.fresh 0 0 led),#[]}).objs.size:=by rw[aj0];exact ajs<|akP C
    let a6:( ~~~s)∉[(s.heap.push {.type "set",Z0,.set #[] 0 (.fresh 0 0 led),#[]}).objs.size,l]:=by rw[aj0];simp only[List.mem_cons,List.mem_singleton,List.not_mem_nil,or_false,not_or];exact{ajs<|akA _,akQ C}
    let x:∀(i:Z5)(v:mu),items[i]?=some v->∃t,v=.int ((λi=>ns.getD i 0) i) t:=λi v hv=>IntsAre.int_at hi i v (by grind)
    refine F1 (L:=!w.params.followText "set-order") ((Walks.list a0 _ l u items).toS) (~~~s) a6 (λi=>ns.getD i 0) x U (items.size-0) 0 _ o6 (ajc _) {{_,aiW _ J,J,J},(H.push _)} ?hS0 ?hR
    case hS0=>exact{#[],(0),_,aiI _ hS,λe he=>by simp at he,.nil,by rw[←g];exact mh.fresh _,o8}
    case hR=>
     intro s' Y p;let⟨h',g',d',a5,a3⟩:=s';let eg:g'=s.gens:=Y.gens;let ed:d'=s.drawn:=Y.drawn;let eo:a3=s.os:=Y.os;subst eg;subst ed;subst eo;show wpAny _ _ _ _ _ _;refine aiK ?_;show wpAny _ _ (ret Value.none) _ _ _;refine aiK {J,h',a5,J,p,λb o U e=>?_};let ag:b≠(~~~s):=ajs U;let ae:b≠(s.heap.push {.type "set",Z0,.set #[] 0 (.fresh 0 0 led),#[]}).objs.size:=by rw[aj0];exact ajs<|akP U
     exact Y.heap b o (by grind)<|aiI _<|aiI _ e
   .cases z with
    |error e=>exact a
    |ok q=>
     cases q with
     |ret r=>
      let⟨rfl,h',tk,rfl,p,a1⟩:=a
      repeat (any_goals (first|assumption|wp_step))
      exact h _ _ p a1
     |_=>exact a.elim
  |_=>exact hr.elim
end
structure rq(t:SetTable)(n:Z5)(L:Bool):Z3 where
 sz:t.place.size=n
 ri:jq t.place
 pl:t.plain=Z1
 ld:t.led=L
 fits:t.fits n=Z1
def mh.w{t:SetTable}{n:Z5}{L:Bool}(h:mh t n L):rq t n L:=⟨h.sz,h.ri,h.pl,h.ld,h.fits⟩
def Nx(prog:t6)(w:t7)(h:Heap)(a:jl)(b:fy Z4)(L:Bool):Z3:=
 ∃es ep t,h.get? a=some {.type "set",Z0,.set es ep t,#[]}/\ElemsOf (intKind prog w) es.toList/\(ki es).Perm b/\rq t es.size L/\es.size≤63
def i9.w{prog:t6}{w:t7}{h:Heap}{a:jl}{f:fy Z4}{L:Bool}(S:i9 prog w h a f L):Nx prog w h a f L:=let ⟨es,ep,t,a,b,c,d,e⟩:=S;⟨es,ep,t,a,b,c,d.w,e⟩
def Dt{α:Type}(next:Z5->Z5):∀(b k:Z5)(a:fy α)(out:sA α),a.length=b->(pickOrder.go next b k a out).toList.Perm (out.toList++a)
 |0,k,a,out,h=>by let:a=[]:=aln.mp h;subst this;unfold pickOrder.go;simp
 |b+1,k,a,out,h=>by
  unfold pickOrder.go;let c:next k % a.length<a.length:=am3 _ o6
  rw[aiG c];dsimp only;refine(Dt next b (k+1) _ _ (by grind)).trans ?_;rw[Array.toList_push,aky];refine(amj _).mpr ?_;rw[List.eraseIdx_eq_take_drop_succ];let e:a=a.take (next k % a.length)++a[next k % a.length]::a.drop (next k % a.length+1):=by simp_all
  conv=>rhs;rw[e]
  show(a[next k % a.length] ::(a.take (next k % a.length)++a.drop (next k % a.length+1))).Perm _;exact amo.symm
def FN{α:Type}(next:Z5->Z5)(xs:sA α):(pickOrder next xs).toList.Perm xs.toList:=by
 unfold pickOrder;let:=Dt next xs.size 0 xs.toList #[] o8
 simpa using this
def fC(w:t7)(d:jl)(ep:Z5)(es:sA (Z4×mu)):sA (Z4×mu):=if w.params.followText "set-order" = Z1 then pickOrder (w.params.setOrder d ep) es else es
def nC(w:t7)(d:jl)(ep:Z5)(es:sA (Z4×mu)):(fC w d ep es).toList.Perm es.toList:=by
 unfold fC;split
 .exact FN _ _
 .exact .rfl
def nE(w:t7)(d:jl)(ep:Z5)(es:sA (Z4×mu)):(fC w d ep es).size=es.size:=by rw[←ajT,(nC w d ep es).length_eq,ajT]
def slotAt(w:t7)(t:SetTable)(i:Z5):Z5:=if w.params.followText "set-order" = Z1 then 0 else match i with
 |0=>0
 |k+1=>t.place.getD k 0+1
inductive iH(h:Heap)(I d:jl)(first i n ep:Z5):Z3
 |m o(_:h.get? I=some o)(_:o.cls=.type "set_iterator")(_:o.data=.fields #[rawInt first,rawInt i,.ref d,rawInt n,rawInt ep])
def nN(h:Heap)(d:jl)(es:sA (Z4×mu))(ep:Z5)(t:SetTable):Z3:=h.get? d=some {.type "set",Z0,.set es ep t,#[]}
section
variable{prog:t6}{w:t7}{A:Around}{E:mu->q8->Z3}{s:q8}
def tU{d:jl}{es:sA (Z4×mu)}{ep:Z5}{t:SetTable}(q:nN s.heap d es ep t)(c:rq t es.size (!w.params.followText "set-order")){i:Z5}{Q:nt (mu×Z5)->q8->Z3}(h:∀r,(match (fC w d ep es)[i]? with|some e=>r=some (e.2,slotAt w t (i+1))|none=>r=Z0)->Q r s)(hi:i≤es.size) :
  wpAny (model prog w) A (setNext d (slotAt w t i) i ep) Q E s:=by
 let o:=c.fits;refine aiF<|alv q J o ?_;refine aiF<|aiF<|akW<|aiK ?_;by_cases b:w.params.followText "set-order" = Z1
 .let a:(model prog w).w.params.followText "set-order" = Z1:=b;simp only[a,↓reduceIte];simp only[bne_self_eq_false,Bool.false_eq_true,↓reduceIte];refine aiF ?_;refine aiF<|alv q J o ?_;refine aiF<|aiF<|akW<|aiK ?_;simp only[a,↓reduceIte];refine aiF<|akW<|aiK ?_;refine aiK<|h _ ?_;unfold fC slotAt;simp only[b,↓reduceIte];cases e:(pickOrder (w.params.setOrder d ep) es)[i]? with
  |none=>have g:(pickOrder ((model prog w).w.params.setOrder d ep) es)[i]? = Z0:=e;rw[g];rfl
  |some x=>have g:(pickOrder ((model prog w).w.params.setOrder d ep) es)[i]?=some x:=e;rw[g];rfl
 .let b:w.params.followText "set-order" = Z2:=⇑b
  let a:(model prog w).w.params.followText "set-order" = Z2:=b;simp only[a,Bool.false_eq_true,↓reduceIte];let n:=c.pl;let m:t.led=Z1:=by rw[c.ld,b];rfl
  show wpAny _ _ (if (!t.plain&&decide (es.size>1))=Z1 then _ else _) _ _ _;rw[n];simp only[Bool.not_true,Bool.false_and,Bool.false_eq_true,↓reduceIte];show wpAny _ _ ((if (!t.led&&!es.isEmpty)=Z1 then _ else _) >>= _) _ _ _;rw[m];simp only[Bool.not_true,Bool.false_and,Bool.false_eq_true,↓reduceIte];refine aiF<|aiK ?_;refine aiK<|h _ ?_;let u:fC w d ep es=es:=by grind [nN,fC,slotAt]
  let f:∀j,slotAt w t j=match j with|0=>0|k+1=>t.place.getD k 0+1:=λj=>by unfold slotAt;rw[aiJ (by rw[b];simp)]
  let hsz:=c.sz;let l:SetTable.below t.place (slotAt w t i)=i:=by
   rw[f];cases i with
   |zero=>exact D9 c.ri
   |succ k=>
    let p:k<t.place.size:=by omega
    let y:t.place[k]?=some t.place[k]:=ajU p;show SetTable.below t.place (t.place.getD k 0+1)=k+1;rw[show t.place.getD k 0=t.place[k] by simp[Array.getD,p]];exact DH c.ri y
  rw[u,l,f];by_cases v:i<es.size
  .simp_all
  .grind
namespace FS
def Ba:Manifest.owners.lookup (String.ofList ['r','o','t','a','r','e','t','i','_','t','e','s'].reverse)=some Manifest.sig_set_iterator:=by kernel_rfl
def fX:Slot "set_iterator" "__next__" "set_iterator.__next__" :=
 .of (owner:="set_iterator") (n:="__next__") (by rw[alQ,akT];kernel_rfl) o4 o4 o4
  (by first|exact .inl o4|exact .inr o4) (by rw[amV];kernel_rfl)
def qB:entryFor table "set_iterator.__next__" = some Builtin.«set_iterator.__next__»:=entryFor_of_tree (by kernel_rfl)
def rQ(a:mu):argsOk "set_iterator.__next__" ⟨[a],[]⟩:=by unfold argsOk;rw[signature?_of (id:="set_iterator.__next__") (n:=['_','_','t','x','e','n','_','_']) (o:=['r','o','t','a','r','e','t','i','_','t','e','s']) (by kernel_rfl) Ba];kernel_rfl
def rF:Slot "set_iterator" "__iter__" "set_iterator.__iter__" :=
 .of (owner:="set_iterator") (n:="__iter__") (by rw[alQ,akT];kernel_rfl) o4 o4 o4
  (by first|exact .inl o4|exact .inr o4) (by rw[amV];kernel_rfl)
def Bc(a:mu):argsOk "set_iterator.__iter__" ⟨[a],[]⟩:=by unfold argsOk;rw[signature?_of (id:="set_iterator.__iter__") (n:=['_','_','r','e','t','i','_','_']) (o:=['r','o','t','a','r','e','t','i','_','t','e','s']) (by kernel_rfl) Ba];kernel_rfl
def zg:entryFor table "set_iterator.__iter__" = some Builtin.«dict_keyiterator.__iter__» :=
 entryFor_alias (id':="dict_keyiterator.__iter__") (by kernel_rfl) (by first|rfl|decide +kernel|(unfold String.splitOn;simp +decide [String.splitOnAux])) o4 (by kernel_rfl)
def x9:entryFor table "set.__iter__" = some Builtin.«frozenset.__iter__» :=
 entryFor_alias (id':="frozenset.__iter__") (by kernel_rfl) J o4 (by kernel_rfl)
end FS
def iH.typeIs{a b c e:Z5}(x:iH s.heap I d a b c e):s.TypeIs (.ref I) "set_iterator":=let ⟨o,ho,hc,_⟩:=x;⟨o,ho,hc⟩
def iH.at{a b c e:Z5}(x:iH h I d a b c e)(k:∀o,h.get? I=some o->h'.get? I=some o):iH h' I d a b c e:=by grind [iH]
def nN.typeIs{ep:Z5}(x:nN s.heap d es ep t):s.TypeIs (.ref d) "set":={_,x,J}
def yZ{I d:jl}{es:sA (Z4×mu)}{ep:Z5}{t:SetTable}{i:Z5}{Q:nt mu->q8->Z3}(c:iH s.heap I d (slotAt w t i) i es.size ep)(n:nN s.heap d es ep t)(l:rq t es.size (!w.params.followText "set-order"))(hi:i<es.size)(u:∀h' x,(fC w d ep es)[i]?=some x->iH h' I d (slotAt w t (i+1)) (i+1) es.size ep->Heap.SameBut I s.heap h'->Q (some x.2) {s with heap:=h'}):wpAny (model prog w) A (pyNext (.ref I)) Q E s:=by
 let⟨o,h,q,b⟩:=id c;let hex:∃x,(fC w d ep es)[i]?=some x:={_,ajU (by rwa[nE])};let⟨x,j⟩:=hex;refine aiF<|al6<|ajQ (name:=Str.ofString "__next__") c.typeIs FS.fX<|ajS FS.fX c.typeIs FS.qB ?_<|FS.rQ _;refine aiF<|alA (a:=(Value.ref I,[])) J ?_
 try dsimp only
 refine aiF<|wpAny_fieldsOf h b ?_;refine aiF<|alX n J l.fits ?_;simp only[bne_self_eq_false,Bool.false_eq_true,↓reduceIte,Int.toNat_natCast];refine aiF<|tU n l (λr p=>?_)<|ajt hi;rw[j] at p;subst p;refine aiF<|akg h b o8 ?_;let g:=ajw (Obj.mapFields (·.setIfInBounds 0 (Value.int (slotAt w t (i+1):Z4) 0))) h<|aks<|ajO b _;let m:=(al9 (o:=o) (f:=(·.setIfInBounds 0 (Value.int (slotAt w t (i+1):Z4) 0)))).trans q;let e:(Obj.mapFields (·.setIfInBounds 0 (Value.int (slotAt w t (i+1):Z4) 0)) o).data=.fields #[rawInt (slotAt w t (i+1)),rawInt i,.ref d,rawInt es.size,rawInt ep]:=by rw[ajO b];simp[rawInt]
 generalize Obj.mapFields (·.setIfInBounds 0 (Value.int (slotAt w t (i+1):Z4) 0)) o=v at g m e;refine aiF<|akg g e o8 ?_;refine aiK {x.2,J,aiK<|u _ x j ?_<|(akd ..).trans<|akd ..};exact{_,ajw _ g<|aks<|ajO e _,(al9 ..).trans m,by rw[ajO e];simp[rawInt]}
def Au{I d:jl}{es:sA (Z4×mu)}{ep:Z5}{t:SetTable}{Q:nt mu->q8->Z3}(f:A.handled=Z0)(c:iH s.heap I d (slotAt w t es.size) es.size es.size ep)(i:nN s.heap d es ep t)(g:rq t es.size (!w.params.followText "set-order"))(n:∀h',Heap.ExtBut I s.heap h'->Q Z0 {s with heap:=h'}):wpAny (model prog w) A (pyNext (.ref I)) Q E s:=by
 let⟨o,j,p,e⟩:=id c;let l:(fC w d ep es)[es.size]? = Z0:=amO (by rw[nE];exact aiL _);refine aiF<|al6<|ajQ (name:=Str.ofString "__next__") c.typeIs FS.fX<|ajS FS.fX c.typeIs FS.qB ?_<|FS.rQ _;refine aiF<|alA (a:=(Value.ref I,[])) J ?_
 try dsimp only
 refine aiF<|wpAny_fieldsOf j e ?_;refine aiF<|alX i J g.fits ?_;simp only[bne_self_eq_false,Bool.false_eq_true,↓reduceIte,Int.toNat_natCast];refine aiF<|tU i g (λr h=>?_)<|aiL _;rw[l] at h;subst h;refine aiF<|akg j e o8 ?_;refine aiF ?_;simp only[newExc,newTuple];refine aiF<|ajC ?_ (by size_fits);refine aiF (m:=firstArgMember _ _)<|alA (a:=Value.none) (by first|rfl|(simp only[firstArgMember];rfl)) ?_;refine ajC ?_ (by size_fits);simp only[raiseNew];refine aiF<|wpAny_handled ?_
 first|rw[show A.in1.handled=Z0 from f]|rw[f]
 refine aiF<|aiK<|wpAny_throw ?_;refine aiF<|ams (T:="StopIteration") (b:=Z1) {_,aiW _ J,J} isSubtype_stop ?_;exact aiK<|n _<|((Heap.SameBut.extBut<|akd ..).push _).push _
def zq{a b c e:Z5}(f:iH s.heap I d a b c e)(h:Q (.ref I) s):wpAny (model prog w) A (pyIter (.ref I)) Q E s:=by refine wpAny_pyIter_slot f.typeIs FS.rF<|ajS FS.rF f.typeIs FS.zg ?_<|FS.Bc _;exact aiK {1,"set_iterator",_,f.typeIs,FS.fX.lookup,h}
def Be(d:jl)(n ep:Z5):Obj:={.type "set_iterator",Z0,.fields #[rawInt (0:Z5),rawInt (0:Z5),.ref d,rawInt n,rawInt ep],#[]}
def HM{d:jl}{es:sA (Z4×mu)}{ep:Z5}{t:SetTable}{Q:mu->q8->Z3}(c:nN s.heap d es ep t)(g:rq t es.size (!w.params.followText "set-order"))(h:Q (.ref (~~~s)) {s with heap:=s.heap.push (Be d es.size ep)}):wpAny (model prog w) A (pyIter (.ref d)) Q E s:=by
 let f:=g.fits;refine wpAny_pyIter_slot c.typeIs amW<|ajS amW c.typeIs FS.x9 ?_<|PySem.F.args_set_iter_1 _;refine aiF<|alA (a:=d) J ?_;refine aiF<|aiF<|alX c J f<|aiK ?_;refine aiF<|aiF<|alv c J f ?_;refine aiF<|aiF<|akW<|aiK ?_;refine aiK ?_;let e:∀b:Bool,(b &&(!t.plain&&decide (es.size>1)))=Z2:=λb=>by rw[g.pl];simp
 show wpAny _ _ (if (!w.params.followText "set-order" &&(!t.plain&&decide (es.size>1)))=Z1 then _ else _) _ _ _;rw[e];simp only[Bool.false_eq_true,↓reduceIte];refine aiF<|aiK ?_;refine aiF<|wpAny_setEpoch_of c J f ?_;simp only[newFields];refine aiF<|ajC ?_;refine aiK {1,"set_iterator",_,{_,aiW _ J,J},FS.fX.lookup,?_};exact h
def G2(c:s.TypeIs (.ref r) "set")(h:Q Z2 s):wpAny (model prog w) A (Builtin.List.listLengthHint (.ref r)) Q E s:=by
 refine aiF<|alO c PySem.F.slot_set_len.lookup ?_;generalize hid:("set.__len__":String)=e
 wp_delta
 rw[show splitId e=some ("set","__len__") from by subst hid;decide +kernel];subst hid;refine aiF<|ams (T:="set") (b:=Z1) c (by rw[amV];kernel_rfl) ?_;refine amF (λa=>absurd a o7) λ_=>?_;refine amF (λ_=>?_) λa=>absurd o4 a;refine aiF<|wpAny_typeOf c ?_;exact aiK h
def F6(q:A.handled=Z0)(I d:jl)(f:d≠I){es:sA (Z4×mu)}{ep:Z5}{t:SetTable}(m:rq t es.size (!w.params.followText "set-order")) :
  Walks prog w A I [I,d] [I] es.size (λi v=>∃e,(fC w d ep es)[i]?=some e/\v=e.2) (λi h=>iH h I d (slotAt w t i) i es.size ep/\nN h d es ep t) where
 sub:=λb a=>by simp at a;simp[a]
 frame:=λ_ _ _ st l=>{st.1.at λo e=>l I o8 o e,l d o8 _ st.2}
 item:=λi s Q E hi st j=>yZ st.1 st.2 m hi λh' x p g n=>j _ h' s.toks ⟨x,p,J⟩ {g,(n.2 d f).trans st.2} λb o a c=>n.extBut b o (λh=>a (by simp[h])) c
 done:=λs Q E st j=>Au q st.1 st.2 m λh' r=>j h' s.toks λb o a c=>r b o (λh=>a (by simp[h])) c
 self:=λ_ _ _ _ st h=>zq st.1 h
def Bt(w:t7)(t:SetTable):slotAt w t 0=0:=by unfold slotAt;split <;> rfl
def QG{d:jl}{es:sA (Z4×mu)}{ep:Z5}{t:SetTable}(c:rq t es.size (!w.params.followText "set-order")):KdlSrc prog w "set" d d es.size (λi v=>∃e,(fC w d ep es)[i]?=some e/\v=e.2) (λh=>nN h d es ep t) where
 type:=λ_ a=>a.typeIs
 there:=λ_ a=>{aiP a,aiP a}
 keep:=λ_ _ a g=>g d (.inl J) _ a
 notList:=by decide
 notTuple:=by decide
 hint:=λ_ _ _ _ a b=>G2 a.typeIs b
 iter:=λA s f a=>{Be d es.size ep,_,(λ_ _ b=>HM a c b),F6 f _ d (ajs<|aiP a) c,{{_,aiW _ J,J,by rw[Bt];rfl},aiI _ a}}
end
section
variable{X:Cx}
def Dh:∀{us:fy mu}{ns:fy Z4},us.length=ns.length->(∀(j:Z5)v,us[j]?=some v->∃n t,ns[j]?=some n/\v=Value.int n t)->Vals (ns.map Z8) us
 |[],[],_,_=>.nil
 |[],_::_,h,_=>by simp at h
 |_::_,[],h,_=>by simp at h
 |u::us,n::ns,h,key=>by
  let⟨m,t,a,f⟩:=key 0 u rfl;let a:n=m:=⇑a
  subst a;exact .cons ⟨t,f⟩ (Dh (⇑h) λj v e=>by let⟨m,t,c,b⟩:=key (j+1) v (⇑e);exact{m,t,⇑c,b})
def Eo(hc:X.calm=Z1){X4:fy (jl×Obj)}{σ:St}{H:Hp}{s:q8}{d:jl}{fm:fy Z4}{Q:VK}(I:Inv X X4 σ H s)(hS:Nx X.prog X.w s.heap d fm (!X.w.params.followText "set-order"))(q:∀(l:jl)(a:fy Z4),H l=Z0->a.Perm fm->a.Pairwise (·≤·)->Q (.ref l) (Z9 H l (.lst (a.map Z8)))):wpAny (model X.prog X.w) X.A (call (.builtin "sorted") [.ref d]) (EP X X4 σ Q) X.xe s:=by
 let⟨es,ep,t,O,r,B,hT,hsz⟩:=hS;let O:nN s.heap d es ep t:=O;obtain⟨ns,f⟩:∃ns,ns=ki (fC X.w d ep es):={1};let y:ns.Perm fm:=by rw[f];exact((nC X.w d ep es).map _).trans B
 let L:ns.length=es.size:=by rw[f,zJ,nE]
 let F:ns.length<64:=by omega
 refine Calls.call_function_entry kind_sorted plain_sorted entry_sorted (args_sorted1 _) ?_;refine aiF (m:=checkCount "sorted" 1 1 _)<|aiK ?_;refine aiF (PySem.W.kdu_collect (A:=X.A.in1) (QG (prog:=X.prog) (w:=X.w) (d:=d) (ep:=ep) hT) (I.ok.hd hc) O (ajt<|aF o6) λh' tk acc keep c=>?_);let Y:IntsAre acc.toList ns:=by
  refine alL (Dh (by rw[ajT,c.1,L]) λj v e=>?_);let⟨x,h1,h2⟩:=c.2 j v (by grind);let hx:x∈(fC X.w d ep es).toList:=by grind
  let⟨⟨k,hk,_⟩,_⟩:=r x<|(nC X.w d ep es).mem_iff.mp hx;let⟨t',S⟩:=alp (show Value.isInt k x.2=Z1 from hk);refine{k,t',?_,by rw[h2,S]};rw[f];unfold ki;rw[aiR,ajI,h1];show some (aai x.2)=some k;rw[S];rfl
 let u:acc.toList.length<64:=by rwa[vf Y]
 refine aiF<|wpAny_newList ?_<|ajt<|aF o6;let h:(h'.push (seqObj "list" acc.toList.toArray 0)).get? h'.objs.size=some (seqObj "list" acc.toList.toArray 0):=aiW _ rfl;refine aiF<|aka<|ajS slot_list_sort {_,h,J} entry_list_sort (list_sort_tree h Y u λout a b1 b2 b3=>{1,?_})<|args_list_sort _;refine aiK {1,?_};let⟨e,i⟩:=sortedHeap_at (out:=out) h;let C:s.heap.get? h'.objs.size=Z0:=by
  cases z:s.heap.get? h'.objs.size with
  |none=>rfl
  |some o=>exact absurd (aiP<|keep _ _ z)<|aj4 _
 let n:a.length≤Z7:=by rw[b2.length_eq];exact ajt<|aF o6
 let g:∀b o,s.heap.get? b=some o->(sortedHeap (h'.push (seqObj "list" acc.toList.toArray 0)) h'.objs.size acc.toList out).get? b=some o:=λb o z=>by let U:=keep b o z;let p:=aiP U;rw[sortedHeap_old (ajs p) (by rw[size_push'];exact akP p)];exact aiI _ U
 let⟨H',I',_⟩:=I.W6 (t':=tk) (vs:=a.map Z8) C g {by rwa[aiE],out.toList,e,yi b1,⇑i};exact{.ref h'.objs.size,_,I',J,q _ a H' (b2.trans y) b3}
def FD(val:Z5->Z4)(i:Z5)(k:Z4):k∈firstMet val i↔∃j,j<i/\val j=k:=by
 let h:=firstMet_any val i k;rw[akI,akV,akV] at h;constructor
 .grind
 .grind
def nP(val:Z5->Z4):∀i,(firstMet val i).Nodup
 |0=>.nil
 |i+1=>by
  rw[firstMet_succ];unfold step_dedup;let a:=nP val i;split
  .exact a
  .grind
def dd(ns:fy Z4):fy Z4:=firstMet (λi=>ns.getD i 0) ns.length
def GS{k:Z4}:k∈dd ns↔k∈ns:=by
 unfold dd;rw[FD];constructor
 .grind
 .intro b;let⟨j,a,e⟩:=akG b;exact{j,a,by rw[ai2,aiG a,e];rfl}
def MH{c ns:fy Z4}(f:c.Perm (dd ns))(hs:c.Pairwise (·≤·)):c.Pairwise (· < ·)/\∀k,k∈c↔k∈ns:=by refine{?_,λk=>f.mem_iff.trans GS};let e:c.Nodup:=f.nodup_iff.mpr<|nP _ _;let:=hs.and e;exact this.imp λ{a b}h=>by let:=h.1;let:=h.2;omega
inductive CL(K:Frag)(Q:VK)(v:V)(H1:Hp):Z3
 |m l ns(_:v=.ref l)(_:X0 K H1 l (ns.map Z8))(_:(dd ns).length≤63)(_:∀(r:jl)(ns':fy Z4),H1 r=Z0->ns'.Pairwise (· < ·)->(∀k,k∈ns'↔k∈ns)->Q (.ref r) (Z9 H1 r (.lst (ns'.map Z8))))
def aeW(K:Frag)(te:TE):TE:=λσ H Q=>te σ H λv H1=>CL K Q v H1
def QI{e:Expr}{te:TE}{L p2 i a:Pos}(B:X.calm=Z1)(y:Gl X "sorted")(n:X.mg "sorted" = Z0)(m:Gl X "set")(z:X.mg "set" = Z0)(S:PE X e te)(g:starEach [Expr.Call (.Name "set" p2) [e] [] a] X.env=[(Z2,eval (Expr.Call (.Name "set" p2) [e] [] a) X.env)]:=by rfl)(f:starEach [e] X.env=[(Z2,eval e X.env)]:=by rfl) :
  PE X (.Call (.Name "sorted" L) [.Call (.Name "set" p2) [e] [] a] [] i) (aeW X.K te):=by
 intro X4 s σ H Q I h;refine ajD<|gQ I y n boot_sorted ?_;refine alK ?_ g rfl;rw[g];refine akk ?_;refine ajD<|gQ I m z boot_set ?_;refine ajv ?_ f rfl;rw[f];refine akk (thn (S X4 s σ H _ I h) λ u s1 ⟨x,H1,I1,r1,q1⟩=>?_);let⟨l,ns,rfl,U,v,q⟩:=q1;cases r1;refine akx ?_;let⟨C5,A,p,hz⟩:=I1.list U;let hI:=alL A;let c:C5.length=ns.length:=by let:=A.length;simpa using this.symm
 refine Fy (I1.ok.hd B) p.isList (⇑hI) (by rwa[ai3,c]) λh' tk F keep=>?_
 refine akx ?_;let Y:Inv X X4 σ H1 {s1 with heap:=h',toks:=tk}:=I1.kept λb o e=>keep b o (aiP e) e
 rw[show C5.toArray.size=ns.length by rw[ai3,c]] at F;exact Eo B Y (i9.w F) λr t O C j=>q r t O (MH C j).1 (MH C j).2
end
end L2
namespace HT
open PySem PySem.Spec PyProof.Rows
def lexLe:fy Z4->fy Z4->Bool
 |[],[]=>Z1
 |[],_::_=>Z1
 |_::_,[]=>Z2
 |x::xs,y::ys=>if x=y then lexLe xs ys else decide (x≤y)
def wI(x y:Z4)(xs ys:fy Z4):lexLe (x::xs) (y::ys)=if x=y then lexLe xs ys else decide (x≤y):=rfl
def yP:∀xs ys:fy Z4,lexLe xs ys=!lexLt ys xs
 |[],[]=>rfl
 |[],_::_=>rfl
 |_::_,[]=>rfl
 |x::xs,y::ys=>by
  rw[wI,gr];by_cases h:x=y
  .rw[aiN h,aiN h.symm];exact yP xs ys
  .rw[aiJ h,aiJ λe=>h e.symm];by_cases a:x≤y
   .rw[aiS a,aiX o6];rfl
   .rw[aiX a,aiS o6];rfl
def IB(A:Around)(s:q8)(a:Z4)(t:Tok)(c:Z4)(u:Tok)(prog:t6)(w:t7)(E:mu->q8->Z3)(Q:mu->q8->Z3)(h:Q (.bool (decide (a≤c))) s) :
  wpAny (model prog w) A (richCompare .LtE (.int a t) (.int c u)) Q E s:=
 (PyProof.Rows.le_int h:wpAny (model prog w) A (compareOp .LtE (.int a t)<|.int c u) Q E s)
end HT
namespace L2
open PySem PySem.Spec PyProof.Rows
def zC:∀{l m:fy Z4},l.Pairwise (· < ·)->m.Pairwise (· < ·)->(∀a,a∈l↔a∈m)->l=m
 |[],[],_,_,_=>rfl
 |[],b::m,_,_,h=>absurd ((h b).mpr o8) o8
 |a::l,[],_,_,h=>absurd ((h a).mp o8) o8
 |a::l,b::m,hl,hm,h=>by
  rw[List.pairwise_cons] at hl hm;let e:a=b:=by
   rcases aiU.mp ((h a).mp o8) with e|h1
   .exact e
   .rcases aiU.mp ((h b).mpr o8) with e|h2
    .exact e.symm
    .let:=hm.1 a h1;let:=hl.1 b h2;omega
  subst e;rw[zC hl.2 hm.2 λc=>{λf=>?_,λf=>?_}]
  .rcases aiU.mp ((h c).mp (by simp[f])) with e|h1
   .subst e;let:=hl.1 c f;omega
   .exact h1
  .rcases aiU.mp ((h c).mpr (by simp[f])) with e|h1
   .subst e;let:=hm.1 c f;omega
   .exact h1
abbrev aiC:=Z4->nt (Z4×Z4×Bool)
def okG(a g:Bool):Z3:=g=Z1∨a=Z2
instance (gd g:Bool):Decidable (okG gd g):=inferInstanceAs<|Decidable (_∨_)
section
variable{α:Type}
def uK(M:Z4->nt α)(n:Z4)(x:nt α):Z4->nt α:=λm=>if m=n then x else M m
def Ca{M:Z4->nt α}{n:Z4}:uK M n x n=x:=aiN J
def xo{M:Z4->nt α}{n m:Z4}(h:m≠n):uK M n x m=M m:=aiJ h
structure j4(Pr:V->α->Z3)(C4:fy (Key×V))(M:Z4->nt α):Z3 where
 nd:(C4.map (·.1)).Nodup
 ur:nH C4
 none_:∀n,M n=Z0->bD C4 (Sum.inl n)=Z0
 Dy:∀n u,M n=some u->∃v,bD C4 (Sum.inl n)=some v/\Pr v u
variable{Pr Pr':V->α->Z3}{C4:fy (Key×V)}{M:Z4->nt α}
def j4.nil:j4 Pr [] (λ_=>Z0):={List.nodup_nil,nH.nil,λn _=>rfl,λn u e=>by cases e}
def j4.mono(h:j4 Pr C4 M)(k:∀v u,Pr v u->Pr' v u):j4 Pr' C4 M:={h.nd,h.ur,h.none_,λn u e=>let ⟨v,h1,h2⟩:=h.Dy n u e;{v,h1,k v u h2}}
def j4.put(h:j4 Pr C4 M){n:Z4}(b:Pr v u):j4 Pr (putK C4 (Sum.inl n) v) (uK M n (some u)):=by
 refine{F0 _ h.nd,h.ur.put n _,λm e=>?_,λm a e=>?_}
 .by_cases em:m=n
  .grind [putK,uK]
  .rw[xo em] at e;rw[cX,aiJ λz=>em<|akY z];exact h.none_ m e
 .by_cases em:m=n
  .subst em;rw[Ca] at e;cases e;exact{v,by rw[cX,aiN rfl],b}
  .rw[xo em] at e;rw[cX,aiJ λz=>em<|akY z];exact h.Dy m a e
def j4.keys(h:j4 Pr C4 M){ns:fy Z4}(e:C4.map (·.1)=ns.map Sum.inl)(n:Z4):n∈ns↔(M n).isSome=Z1:=by
 let:n∈ns↔(bD C4 (Sum.inl n)).isSome=Z1:=by rw[El,e,aje];exact{λh=>⟨n,h,J⟩,λ⟨y,h,z⟩=>by cases z;exact h}
 rw[this];cases a:M n with
 |none=>rw[h.none_ n a];simp
 |some u=>let⟨v,h1,_⟩:=h.Dy n u a;rw[h1];rfl
end
structure aiD where
 wh:Bool
 b:Z5
 d:Z5
 rows:fy (Z5×Z5)
 bits:Z5
structure PcU where
 wh:Bool
 b:Z5
 d:Z5
 rows:fy (Z5×Z5)
 c:Z4
inductive cN(CW CG:jl)(H:Hp)(v:V)(u:PcU):Z3
 |m a(_:v=.ref a)(_:PAt CW CG H a u.wh u.b u.d u.rows u.c)(_:u.rows.length≤100)
section
variable{CW CG:jl}{H H':Hp}{F:fy jl}{v:V}{u:PcU}
def cN.keep(h:cN CW CG H v u)(k:aj H H'):cN CW CG H' v u:=let ⟨a,h1,h2,h3⟩:=h;{a,h1,h2.keep k,h3}
end
open PySem PySem.Spec PySem.Calls PyProof.Rows
abbrev jF(h:Heap)(e it:jl)(i:Z4)(item:mu)(a:jl)(f:Bool):Z3:=
 h.get? e=some {.type "enumerate",Z0,.fields #[rawInt a,.bool f,.ref it,rawInt i,.none,item],#[]}
section
variable{prog:t6}{w:t7}{A:Around}{E:mu->q8->Z3}{s:q8}
def Gi(b:s.heap.get? a=some o)(h:Q (some o) s):wpAny (model prog w) A (loadIfAlive a) Q E s:=by
 let h':Q (s.heap.get? a) s:=by rwa[b]
 exact λ_ _ _=>h'
def zR{i:Z5}(Y:jF s.heap e it i item a f)(ha:s.heap.get? a=some oa)(a2:a≠e)(a3:a≠it)(a1:s.heap.IsListIter it l i)(hl:s.heap.IsList l items)(hx:items[i]?=some x)(B:e≠it)(hQ:∀h',jF h' e it (↥i+1) item a Z1->h'.IsListIter it l (i+1)->h'.get? (~~~s)=some {.type "tuple",Z0,.seq #[.int i s.toks,x],#[]}->h'.objs.size= ~~~s+1 →
   (∀b o,b≠e->b≠it->s.heap.get? b=some o->h'.get? b=some o)->Q (some (.ref (~~~s))) {s with heap:=h',toks:=s.toks+1}) :
  wpAny (model prog w) A (pyNext (.ref e)) Q E s:=by
 let hT:s.TypeIs (.ref e) "enumerate":={_,Y,J};refine aiF (al6 (ajQ (name:=Str.ofString "__next__") hT ako
  (ajS ako hT alZ ?_<|alS _)))
 let⟨H,g,d,U,os⟩:=s;show wpAny _ _ (field (.ref e) 2 >>= _) _ _ _;refine aiF<|ajE Y J (x:=.ref it) J ?_;refine aiF (wpAny_nextOf_list_item a1 hl hx λh₁ y j=>?_);replace j:Heap.SameBut it H h₁:=j;let v:jF h₁ e it i item a f:=(j.2 e B).trans Y;refine aiF<|ajE v J (x:=rawInt i) J ?_;refine aiF<|ajE v J (x:=.none) J ?_;refine aiF<|wpAny_mkInt ?_;refine aiF (al4 v o8 λh₂ t n=>?_);replace n:Heap.SameBut e h₁ h₂:=n;replace t:jF h₂ e it (↥i+1) item a f:=t;refine aiF (al4 t o8 λh₃ u m=>?_);replace m:Heap.SameBut e h₂ h₃:=m;replace u:jF h₃ e it (↥i+1) item a f:=u;refine aiF<|wpAny_newTuple ?_;let q:jF (h₃.push {.type "tuple",Z0,.seq #[.int i U,x],#[]}) e it (↥i+1) item a f:=aiI _ u;generalize hh₄:h₃.push {.type "tuple",Z0,.seq #[.int i U,x],#[]}=h at q;let hsz:h₃.objs.size=H.objs.size:=by rw[m.1,n.1,j.1]
 let a0:e<H.objs.size:=aiP Y;let F:h.get? H.objs.size=some {.type "tuple",Z0,.seq #[.int i U,x],#[]}:=by rw[←hh₄,←hsz];exact aiW _ J
 let O:h.objs.size=H.objs.size+1:=by rw[←hh₄,aj0,hsz]
 let z:∀b o,b≠e->b≠it->H.get? b=some o->h.get? b=some o:=λb o S a4 hb=>by rw[←hh₄];exact aiI _<|m.extBut b o S<|n.extBut b o S<|j.extBut b o a4 hb
 let C:h.IsListIter it l (i+1):=by rw[←hh₄];let⟨o,ho,r⟩:=(y.extBut n.extBut<|ajH B).extBut m.extBut<|ajH B;exact{o,aiI _ ho,r}
 show wpAny _ _ (Builtin.SmallTypes.ownedTupleIsFree (.ref e) >>= _) _ _ {h,g,d,U+1,os};rw[hsz];clear hh₄ u m t n v j y hsz h₃ h₂ h₁;let L:h.get? a=some oa:=z a oa a2 a3 ha;refine aiF ?_;refine aiF<|ajE q J (x:=rawInt a) J ?_;show wpAny _ _ (loadIfAlive ((a:Z4).toNat) >>= _) _ _ _;rw[Int.toNat_natCast];refine aiF<|Gi L ?_;simp only[Option.isNone_some,Bool.false_eq_true,if_false];refine aiF<|ajE q J (x:=.bool f) J ?_;let fin:∀h₅:Heap,jF h₅ e it (↥i+1) item a Z1->Heap.SameBut e h h₅->Q (some (.ref H.objs.size)) ⟨h₅,g,d,U+1,os⟩:=λh₅ p c=>hQ h₅ p (C.extBut c.extBut<|ajH B) (c.extBut _ _ (akQ a0) F) (by rw[c.1,O]) λb o hb hi e=>c.extBut b o hb<|z b o hb hi e
 cases f with
 |true=>rw[aiJ (show ¬((Value.bool Z1 != Value.bool Z1)=Z1) from ai4)];refine aiK ?_;simp only[Bool.false_eq_true,if_false];exact aiK {1,aiK<|fin h q<|Heap.SameBut.refl _ _}
 |false=>rw[aiN (show(Value.bool Z2 != Value.bool Z1)=Z1 from J)];refine aiF (al4 q o8 λh₅ p c=>?_);replace c:Heap.SameBut e h h₅:=c;replace p:jF h₅ e it (↥i+1) item a Z1:=p;refine aiK ?_;simp only[Bool.false_eq_true,if_false];exact aiK {1,aiK<|fin h₅ p c}
def B0{i:Z5}(p:A.handled=Z0)(m:jF s.heap e it i item a f)(h:s.heap.IsListIter it l i)(r:s.heap.IsList l items)(n:items[i]? = Z0)(t:∀h',Heap.ExtBut it s.heap h'->Q Z0 {s with heap:=h'}):wpAny (model prog w) A (pyNext (.ref e)) Q E s:=by
 let j:s.TypeIs (.ref e) "enumerate":={_,m,J};refine aiF (al6 (ajQ (name:=Str.ofString "__next__") j ako
  (ajS ako j alZ ?_<|alS _)))
 show wpAny _ _ (field (.ref e) 2 >>= _) _ _ _;refine aiF<|ajE m J (x:=.ref it) J ?_;refine aiF (wpAny_nextOf_list_end p h r n λh' x g c=>?_);let⟨o,u,q⟩:=c;refine aiF<|ams (T:="StopIteration") (b:=Z1) ⟨o,u,q⟩ isSubtype_stop ?_;exact aiK<|t _ g
def EM:typeLookup (.type "enumerate") "__len__" = pure Z0:=by rw[alQ,akT];kernel_rfl
def Eu:typeLookup (.type "enumerate") "__length_hint__" = pure Z0:=by rw[alQ,akT];kernel_rfl
def D3(h:Heap)(e it:jl)(i:Z5)(b:jl->Z3):Z3:=(i=0/\IsEnum h e it 0 .none)∨∃item a f c,jF h e it i item a f/\h.get? a=some c/\a≠e/\a≠it/\b a
def Ic{i:Z5}(st:D3 s.heap e it i Pa)(g:s.heap.IsListIter it l i)(q:s.heap.IsList l items)(p:items[i]?=some x)(h:e≠it)(r:∀h' item a f,jF h' e it (↥i+1) item a f->((i=0/\a= ~~~s)∨Pa a)->h'.IsListIter it l (i+1)->h'.get? (~~~s)=some {.type "tuple",Z0,.seq #[.int i s.toks,x],#[]}->h'.objs.size= ~~~s+1 →
   (∀b o,b≠e->b≠it->s.heap.get? b=some o->h'.get? b=some o)->Q (some (.ref (~~~s))) {s with heap:=h',toks:=s.toks+1}) :
  wpAny (model prog w) A (pyNext (.ref e)) Q E s:=by
 rcases st with⟨rfl,n⟩|⟨item,a,f,v,n,u,m,j,t⟩
 .exact wpAny_pyNext_enum_item (i:=0) n g q p h λh' a b c d k=>r h' x _ Z2 a (.inl ⟨J,J⟩) b c d k
 .exact zR n u m j g q p h λh' a b c d k=>r h' item _ Z1 a (.inr t) b c d k
def Ib{i:Z5}(h:A.handled=Z0)(st:D3 s.heap e it i Pa)(b:s.heap.IsListIter it l i)(j:s.heap.IsList l items)(g:items[i]? = Z0)(m:∀h',Heap.ExtBut it s.heap h'->Q Z0 {s with heap:=h'}):wpAny (model prog w) A (pyNext (.ref e)) Q E s:=by
 rcases st with⟨rfl,c⟩|⟨item,a,f,r,c,q,o,n,p⟩
 .exact wpAny_pyNext_enum_end (i:=0) h c b j g m
 .exact B0 h c b j g m
end
def nU{a b:Z5}(h:a<b∨b<a):a≠b:=by omega
def EnL(H0 H:Hp)(xs:fy V)(ts:fy jl):Z3:=∀(j:Z5)(t:jl),ts[j]?=some t->H0 t=Z0/\∃x,xs[j]?=some x/\H t=some (.tup [.int ↥j,x])
def HC{X:Cx}{X4:fy (jl×Obj)}{σ:St}{A:Around}(hh:A.handled=Z0){S e it l:jl}{xs:fy V}{us:fy mu}(rv:Vals xs us)(as:e≠it)(ac:l≠e)(ar:l≠it)(a4:S≠e)(a7:S≠it)(an:l≠S)(hz:xs.length≤Z7)(res:mu){R:Result->q8->Z3}{H0:Hp}(hR:∀H' s' ts,Inv X X4 σ H' s'->(∀b o,b≠S->H0 b=some o->H' b=some o)->ts.length=xs.length->H' S=some (.lst (ts.map V.ref))->EnL H0 H' xs ts->R (.ok (.ret res)) s') :
  ∀(k i:Z5)(H:Hp)(s:q8)(ts:fy jl),xs.length-i=k->i≤xs.length->Inv X X4 σ H s->fq X X4 H e->fq X X4 H it->D3 s.heap e it i (λa=>ts[0]?=some a)->s.heap.IsListIter it l i->s.heap.IsList l us.toArray->(∀b o,b≠S->H0 b=some o->H b=some o)->H S=some (.lst (ts.map V.ref))->ts.length=i->EnL H0 H xs ts →
   codeAny (model X.prog X.w) A (.builtin "list.extend.loop" {[.ref S,.ref e,res],[]}) R s:=by
 intro k
 induction k with
 |zero=>
  intro i H s ts hk hi I fe U st m hl p Y g hE;let F:us.toArray[i]? = Z0:=by let:=rv.length;simp;omega
  refine aj8 amk ?_;rw[aj1 ak4 _];refine aiF (Ib (A:=A.in1) hh st m hl F λh' ex=>?_);refine aiK<|hR H _ ts (I.vZ (t':=s.toks) (ch:=[it]) (λb o c q=>ex b o (⇑c) q) λb c=>?_) p o6 Y hE;let e1:b=it:=⇑c
  rwa[e1]
 |succ k ih=>
  intro i H s ts hk hi I fe U st m hl p Y g hE;let B:i<xs.length:=by omega
  obtain⟨x,hx⟩:∃x,xs[i]?=some x:={_,aiG B};let⟨u,eu,ru⟩:=Vals.get rv hx;let am:us.toArray[i]?=some u:=⇑eu
  refine aj8 amk ?_;rw[aj1 ak4 _];refine aiF (Ic (A:=A.in1) st m hl am as λh' item a f ag a6 a5 ht hsz kk=>?_);let nT:H (~~~s)=Z0:=I.hok.fresh<|aiL _;let I2:Inv X X4 σ (Z9 H (~~~s) (.tup [.int ↥i,x])) {s with heap:=h',toks:=s.toks+1}:=
   I.vI (ch:=[e,it]) (λb o c q=>by
    simp only[List.mem_cons,List.not_mem_nil,or_false,not_or] at c;exact kk b o c.1 c.2 q) (λb c=>by
    simp only[List.mem_cons,List.not_mem_nil,or_false] at c;rcases c with rfl|rfl
    .exact fe
    .exact U) (aiL _) {by show 2≤Z7;decide,[Value.int ↥i s.toks,u],.cons ⟨s.toks,J⟩<|.cons ru .nil,{_,ht,J,(0),J}}
  let v:S≠(~~~s):=ao Y nT;let a0:Z9 H (~~~s) (.tup [.int ↥i,x]) S=some (.lst (ts.map V.ref)):=by rwa[ak v]
  let⟨_,C5,n,rS,lS,eS⟩:=I2.mD a0;let C:C5.length≤Z7:=by rw[←rS.length,aiE,g];exact ai9 (ajt B) hz
  let I3:=I2.Er (t':=s.toks+1) a0 eS (f:=(·.push (Value.ref (~~~s)))) (its':=C5++[Value.ref (~~~s)]) (ys:=(ts++[~~~s]).map V.ref) o8 (ajb ▸ Vals.append rS (.cons J .nil)) (by rw[aiE,aji,g];exact ai9 B hz);let up:∀b o,b≠S->h'.get? b=some o->(h'.update S (Obj.mapSeq (·.push (Value.ref (~~~s))))).get? b=some o:=λb o c e=>(ajA _ _<|ajH c).trans e
  let elt:e<(~~~s):=by
   rcases st with⟨_,he⟩|⟨_,_,_,_,he,_⟩
   .exact aiP he
   .exact aiP he
  let a9:it<(~~~s):=by let⟨o,L,_⟩:=m;exact aiP L
  let ab:∀b,b<~~~s->b≠S->Z9 (Z9 H (~~~s) (.tup [.int ↥i,x])) S (.lst ((ts++[~~~s]).map V.ref)) b=H b:=λb c hs=>by rw[ak hs,ak<|ajs c]
  let al:Z9 (Z9 H (~~~s) (.tup [.int ↥i,x])) S (.lst ((ts++[~~~s]).map V.ref)) (~~~s)=some (.tup [.int ↥i,x]):=by rw[ak v.symm,af]
  let h:∀b o,b≠S->H b=some o->Z9 (Z9 H (~~~s) (.tup [.int ↥i,x])) S (.lst ((ts++[~~~s]).map V.ref)) b=some o:=λb o c eb=>by rwa[ak c,ak<|ao eb nT]
  let ae:H0 (~~~s)=Z0:=by
   cases z:H0 (~~~s) with
   |none=>rfl
   |some o=>have:=p _ _ v.symm z;rw[nT] at this;cases this
  refine aiF (amG eS J (aiK ⟨alB ak4 _,ih (i+1) _ _ (ts++[~~~s]) o6 B I3 {(ab e elt a4.symm).trans fe.1,fe.2} {(ab it a9 a7.symm).trans U.1,U.2} (.inr ?_) (by
   let⟨o,L,r⟩:=a5;exact{o,up it o a7.symm L,r}) (by
   let⟨o,L,r⟩:=hl;exact{o,up l o an<|kk l o ac ar L,r}) (λb o c eb=>h b o c<|p b o c eb) af (by rw[aji,g];rfl) λj t O=>?_⟩) C (by rw[Array.size_push];exact Nat.succ_le_succ C))
  .let first:(ts++[~~~s])[0]?=some a:=by
    rcases a6 with⟨h0,rfl⟩|ha
    .rw[List.eq_nil_of_length_eq_zero<|g.trans h0];rfl
    .rw[aiM (aiH.mp ha).1];exact ha
   let a8:∃oa,(h'.update S (Obj.mapSeq (·.push (Value.ref (~~~s))))).get? a=some oa/\a≠e/\a≠it:=by
    rcases a6 with⟨_,rfl⟩|ha
    .exact{_,up _ _ v.symm ht,akQ elt,akQ a9}
    .let⟨_,y,_,hy⟩:=hE 0 a ha;let aS:a≠S:=λz=>by rw[z,Y] at hy;cases hy
     let⟨_,its',_,o,L,_⟩:=I3.hok a _<|h a _ aS hy;exact{o,L,ao hy fe.1,ao hy U.1}
   let⟨oa,l1,l2,l3⟩:=a8;refine{item,a,f,oa,?_,l1,l2,l3,first};let e2:((i+1:Z5):Z4) =↥i+1:=by omega
   rw[e2];exact up e _ a4.symm ag
  .rcases amc j ts.length with h1|h1|h1
   .rw[aiM h1] at O;let⟨a1,y,a2,a3⟩:=hE j t O;let tS:t≠S:=λz=>by rw[z,Y] at a3;cases a3
    exact{a1,y,a2,h t _ tS a3}
   .subst h1;rw[aiO<|aiL _,anA] at O;cases O;rw[g];exact⟨ae,x,hx,al⟩
   .rw[ajx (by rwa[aji])] at O;cases O
section
variable{X:Cx}
inductive FU(K:Frag)(Q:VK)(v:V)(H1:Hp):Z3
 |m l xs(_:v=.ref l)(_:X0 K H1 l xs)(_:∀(r:jl)(ts:fy jl)(H2:Hp),H1 r=Z0->aj H1 H2->ts.length=xs.length->H2 r=some (.lst (ts.map V.ref))->EnL H1 H2 xs ts->Q (.ref r) H2)
def ahc(K:Frag)(te:TE):TE:=λσ H Q=>te σ H λv H1=>FU K Q v H1
def BK{e:Expr}{te:TE}{p1 p2 B a:Pos}(hc:X.calm=Z1)(a6:Gl X "list")(a3:X.mg "list" = Z0)(L:Gl X "enumerate")(a7:X.mg "enumerate" = Z0)(he:PE X e te)(y:starEach [Expr.Call (.Name "enumerate" p2) [e] [] a] X.env=[(Z2,eval (Expr.Call (.Name "enumerate" p2) [e] [] a) X.env)]:=by rfl)(n:starEach [e] X.env=[(Z2,eval e X.env)]:=by rfl) :
  PE X (.Call (.Name "list" p1) [.Call (.Name "enumerate" p2) [e] [] a] [] B) (ahc X.K te):=by
 intro X4 s σ H Q I h;refine ajD<|gQ I a6 a3 boot_list ?_;refine ajv ?_ y rfl;rw[y];refine akk ?_;refine ajD<|gQ I L a7 boot_enumerate ?_;refine ajv ?_ n rfl;rw[n];refine akk (thn (he X4 s σ H _ I h) λ u s1 ⟨x,H1,I1,r1,q1⟩=>?_);let⟨l,xs,rfl,hl,q⟩:=q1;cases r1;refine akx ?_;let⟨us,rv,pl,hz⟩:=I1.list hl;let ll:l<(~~~s1):=by let⟨o,i,_⟩:=pl.isList;exact aiP i
 refine call_enumerate_list pl.isList λh' C z2 zs kk=>?_
 refine akx ?_;let I2:Inv X X4 σ H1 {s1 with heap:=h',toks:=s1.toks}:=I1.kept kk;let fe:fq X X4 H1 (~~~s1+1):=I1.nO (akZ _)<|I1.hok.fresh<|akZ _;let fi:fq X X4 H1 (~~~s1):=I1.nO (aiL _)<|I1.hok.fresh<|aiL _;let Y:h'.IsList l us.toArray:=by let⟨o,i,r⟩:=pl.isList;exact{o,kk l o i,r}
 obtain⟨e0,p⟩:∃e0,~~~s1+1=e0:={1};rw[p] at C fe ⊢;obtain⟨i0,a5⟩:∃i0,~~~s1=i0:={1};rw[a5] at C z2 fi p zs ll;let U:h'.objs.size=i0+2:=zs;refine callType_codes PySem.F.called_list (PySem.F.typeCall_list_1 _) PySem.F.entry_list_init (code_list_new (.ref e0) (Q₁:=λobj g=>obj=.ref h'.objs.size/\g={s1 with heap:=h'.push {.type "list",Z0,.seq #[] 0,#[]}}) ⟨J,J⟩) λobj g hq=>?_
 let⟨h1,h2⟩:=hq;subst h1 h2;let hS:(h'.push {.type "list",Z0,.seq #[] 0,#[]}).get? h'.objs.size=some {.type "list",Z0,.seq #[] 0,#[]}:=aiW _ rfl;exists {_,hS,J},PySem.F.args_list_init_2 _ _;unfold Builtin.«list.__init__»;generalize hX:Builtin.List.listExtendWith=XX
 wp_walk
 subst hX;let f:((h'.push {.type "list",Z0,.seq #[] 0,#[]}).update h'.objs.size (Obj.mapSeq λx=>#[])).get? h'.objs.size=some {.type "list",Z0,.seq #[] 0,#[]}:=ajw _ hS rfl;let kp:∀b o,h'.get? b=some o->((h'.push {.type "list",Z0,.seq #[] 0,#[]}).update h'.objs.size (Obj.mapSeq λx=>#[])).get? b=some o:=λb o e=>Heap.get?_update_of_ne _ (akQ<|aiP e)<|aiI _ e
 generalize (h'.push {.type "list",Z0,.seq #[] 0,#[]}).update h'.objs.size (Obj.mapSeq λx=>#[])=h2 at f kp ⊢;obtain⟨S,z⟩:∃S,h'.objs.size=S:={1};rw[z] at f U ⊢;let e2:IsEnum h2 e0 i0 0 .none:=kp _ _ C;let hT:Shared.TypeIs {s1 with heap:=h2} (.ref e0) "enumerate":={_,e2,J};refine aiF<|wpAny_typeOf hT ?_;let a4:Builtin.List.listSameRef (Value.ref S) (Value.ref e0)=Z2:=by unfold Builtin.List.listSameRef;simp;exact nU o6
 refine amF (λa0=>absurd a0 (by rw[a4];decide)) λ_=>?_;refine aiF<|ama (s:={s1 with heap:=h2}) e2 ?_;refine aiF<|aka ?_;refine aiF<|alO hT EM ?_;refine aiF<|alO hT Eu ?_;refine aiK ?_;refine aiF<|wpAny_rule ?_;refine aiF ?_;refine aiF<|amG f J ?_;let m:=ajw (Obj.mapSeq (·.push Value.none)) f rfl;refine amG m J ?_;let v:=ajw (Obj.mapSeq (·.pop)) m rfl;let c:∀b o,h'.get? b=some o->((h2.update S (Obj.mapSeq (·.push Value.none))).update S (Obj.mapSeq (·.pop))).get? b=some o:=λb o e=>by let hb:S≠b:=nU (by let hb:@LT.lt Z5 _ b h'.objs.size:=aiP e;let hs:h'.objs.size=S:=z;omega);exact(ajA _ _ hb).trans ((ajA _ _ hb).trans<|kp b o e)
 generalize (h2.update S (Obj.mapSeq (·.push Value.none))).update S (Obj.mapSeq (·.pop))=h4 at v c ⊢;let a9:=rv.length;let nS:H1 S=Z0:=I2.hok.fresh (by grind);let I4:Inv X X4 σ (Z9 H1 S (.lst [])) {s1 with heap:=h4,toks:=s1.toks}:=I2.laid (t':=s1.toks) (h':=h4) c (by grind) {ajc _,[],_,.nil,v};let hh:X.A.handled=Z0:=I1.ok.hd hc;let ab:@LT.lt Z5 _ l i0:=ll;refine aiK ⟨Code.quiet_builtin _ o4,HC (X:=X) (X4:=X4) (σ:=σ) (H0:=Z9 H1 S<|.lst []) (by simp[hh]) rv (S:=S) (e:=e0) (it:=i0) (l:=l) (nU o6) (nU o6) (nU o6) (nU o6) (nU o6) (nU o6) hz _ (λH' s' ts I' k' tl a8 hE=>?_) xs.length 0 (Z9 H1 S<|.lst []) _ [] o6 (ajc _) I4 {by rw[ak<|nU o6];exact fe.1,fe.2} {by rw[ak<|nU o6];exact fi.1,fi.2} (.inl {J,c _ _ C}) (by
  let⟨o,i,r⟩:=z2;exact{o,c _ _ i,r}) (by
  let⟨o,i,r⟩:=Y;exact{o,c _ _ i,r}) (λb o _ e=>e) af J λj t e=>by simp at e⟩
 refine{J,.ref S,H',I',J,q S ts H' nS (λb o O=>k' b o (ao O nS)<|(ak<|ao O nS) ▸ O) tl a8 λj t ej=>?_};let⟨a1,a2⟩:=hE j t ej;refine{?_,a2};by_cases ht:t=S
 .grind
 .rw[ak ht] at a1;exact a1
end
def nJ{f:Z5->Z4}:∀k i,i≤k->f i≤f (argBest (λi j=>decide (f i>f j)) k)
 |0,i,h=>by rw[show i=0 by omega];exact ajM _
 |k+1,i,h=>by
  let e:argBest (λi j=>decide (f i>f j)) (k+1)=if decide (f (k+1)>f (argBest (λi j=>decide (f i>f j)) k)) then k+1 else argBest (λi j=>decide (f i>f j)) k:=rfl
  rw[e];by_cases a:f (k+1)>f (argBest (λi j=>decide (f i>f j)) k)
  .rw[aiN<|aiS a];by_cases hi:i=k+1
   .rw[hi];exact ajM _
   .let:=nJ (f:=f) k i o6;omega
  .rw[aiJ (⇑a)];by_cases hi:i=k+1
   .rw[hi];omega
   .exact nJ k i o6
def wD{bt:Z5->Z5->Bool}:∀k,argBest bt k≤k
 |0=>aiL _
 |k+1=>by
  let e:argBest bt (k+1)=if bt (k+1) (argBest bt k) then k+1 else argBest bt k:=rfl
  rw[e];let:=wD (bt:=bt) k;split <;> omega
open PySem PySem.Spec PyProof.Rows Builtin Builtin.Str
section
variable{c:Z4}(h0:0≤c)(h1:c<10 ^ 20)
include h0 h1
end
@[elab_as_elim] def ln0{P:fy mu->Z3}(us:fy mu)(a:us.length=0)(h:P []):P us:=by
 cases us with
 |nil=>exact h
 |cons=>cases a
@[elab_as_elim] def ln1{P:fy mu->Z3}(us:fy mu)(b:us.length=1)(h:∀a,P [a]):P us:=by
 cases us with
 |nil=>cases b
 |cons x us=>exact ln0 (P:=λl=>P (x::l)) us (aj9 b)<|h x
@[elab_as_elim] def ln2{P:fy mu->Z3}(us:fy mu)(c:us.length=2)(h:∀a b,P [a,b]):P us:=by
 cases us with
 |nil=>cases c
 |cons x us=>exact ln1 (P:=λl=>P (x::l)) us (aj9 c)<|h x
@[elab_as_elim] def ln3{P:fy mu->Z3}(us:fy mu)(e:us.length=3)(h:∀a b c,P [a,b,c]):P us:=by
 cases us with
 |nil=>cases e
 |cons x us=>exact ln2 (P:=λl=>P (x::l)) us (aj9 e)<|h x
@[elab_as_elim] def ln4{P:fy mu->Z3}(us:fy mu)(e:us.length=4)(h:∀a b c d,P [a,b,c,d]):P us:=by
 cases us with
 |nil=>cases e
 |cons x us=>exact ln3 (P:=λl=>P (x::l)) us (aj9 e)<|h x
@[elab_as_elim] def ln5{P:fy mu->Z3}(us:fy mu)(f:us.length=5)(h:∀a b c d e,P [a,b,c,d,e]):P us:=by
 cases us with
 |nil=>cases f
 |cons x us=>exact ln4 (P:=λl=>P (x::l)) us (aj9 f)<|h x
@[elab_as_elim] def ln6{P:fy mu->Z3}(us:fy mu)(g:us.length=6)(h:∀a b c d e f,P [a,b,c,d,e,f]):P us:=by
 cases us with
 |nil=>cases g
 |cons x us=>exact ln5 (P:=λl=>P (x::l)) us (aj9 g)<|h x
@[elab_as_elim] def ln7{P:fy mu->Z3}(us:fy mu)(i:us.length=7)(h:∀a b c d e f g,P [a,b,c,d,e,f,g]):P us:=by
 cases us with
 |nil=>cases i
 |cons x us=>exact ln6 (P:=λl=>P (x::l)) us (aj9 i)<|h x
@[elab_as_elim] def ln8{P:fy mu->Z3}(us:fy mu)(j:us.length=8)(h:∀a b c d e f g i,P [a,b,c,d,e,f,g,i]):P us:=by
 cases us with
 |nil=>cases j
 |cons x us=>exact ln7 (P:=λl=>P (x::l)) us (aj9 j)<|h x
@[elab_as_elim] def ln9{P:fy mu->Z3}(us:fy mu)(m:us.length=9)(h:∀a b c d e f g i j,P [a,b,c,d,e,f,g,i,j]):P us:=by
 cases us with
 |nil=>cases m
 |cons x us=>exact ln8 (P:=λl=>P (x::l)) us (aj9 m)<|h x
@[elab_as_elim] def ln10{P:fy mu->Z3}(us:fy mu)(m:us.length=10)(h:∀a b c d e f g i j k,P [a,b,c,d,e,f,g,i,j,k]):P us:=by
 cases us with
 |nil=>cases m
 |cons x us=>exact ln9 (P:=λl=>P (x::l)) us (aj9 m)<|h x
def GA(K:Frag)(x:Z6)(a:jl):Z3:=nsIn K mainGlobals x=some (some<|.ref a)
def GN(K:Frag)(x:Z6):Z3:=nsIn K mainGlobals x=some Z0
def FA(K:Frag)(C:jl)(m:Z6)(f:jl):Z3:=findIn K (.ref C) m=some (some<|.ref f)
def GF(K:Frag)(x:Z6)(st:Stmt):Z3:=∃f fd,GA K x f/\Fun K x x st f fd
def MV(K:Frag)(m q:Z6)(st:Stmt)(f:jl):Z3:=isFn K (.ref f)=Z1/\∃fd,Fun K m q st f fd
def MF(K:Frag)(C:jl)(m q:Z6)(st:Stmt):Z3:=∃f,FA K C m f/\MV K m q st f
def PX(K:Frag)(C:jl):Z3:=Cls K C/\makesIn K C=Z1/\keepIn K (.ref C)=Z1
structure Bs(P:t6)(w:t7)(K:Frag)(mg:Z6->nt mu)(base:Heap):Z3 where
 ex:∃h:Heap,K.In h/\h.Ns mainGlobals mg
abbrev Bd(x q:Z6)(st:Stmt)(ps:fy Z6):Z3:=∀kV a c e b ct us,us.length=ps.length->bindArgs (fnOf x q (fz st) (dj st) (ay st) .none kV a c e b ct) {us,[]}=pure (ps.zip us)
section
variable{P:t6}{w:t7}{K:Frag}{mg:Z6->nt mu}{base:Heap}{x q m:Z6}{st:Stmt}{f C:jl}{fd:q9}{N ps:fy Z6}{k:Z5}{sp:Sp}
def Bs.at_(Y:Bs P w K mg base)(a:GA K x f):mg x=some (.ref f):=by let⟨h,X,G⟩:=Y.ex;exact ai5 X G a
def bdA{m q:Z6}{st:Stmt}{ps:fy Z6}(h:Bd m q st ps:=by intro _ _ _ _ _ _ us a;first|exact ln0 us a rfl|exact ln1 us a λ_=>rfl|exact ln2 us a λ_ _=>rfl|exact ln3 us a λ_ _ _=>rfl|exact ln4 us a λ_ _ _ _=>rfl|exact ln5 us a λ_ _ _ _ _=>rfl|exact ln6 us a λ_ _ _ _ _ _=>rfl|exact ln7 us a λ_ _ _ _ _ _ _=>rfl|exact ln8 us a λ_ _ _ _ _ _ _ _=>rfl|exact ln9 us a λ_ _ _ _ _ _ _ _ _=>rfl|exact ln10 us a λ_ _ _ _ _ _ _ _ _ _=>rfl):Bd m q st ps:=h
def GF.d(l:GF K x st)(Y:Bs P w K mg base)(h:∀{f fd},Fun K x x st f fd->aM P w K mg base (CXx P w) k f fd ps sp)(b:Bd x x st ps:=by exact bdA):DefX P w K mg base x k ps sp:=by let⟨f,fd,a,F⟩:=l;exact{f,fd,Y.at_ a,h F,F.kp,F.binds b}
def MV.d(l:MV K m q st f)(a:FA K C m f)(Y:Bs P w K mg base)(h:∀{f fd},Fun K m q st f fd->aM P w K mg base (CXx P w) k f fd ps sp)(b:Bd m q st ps:=by exact bdA):wQ P w K mg base C m k ps sp:=by let⟨i,fd,F⟩:=l;exact{f,fd,⟨a,i,F.kp⟩,h F,F.binds b}
def MF.d(l:MF K C m q st)(Y:Bs P w K mg base)(h:∀{f fd},Fun K m q st f fd->aM P w K mg base (CXx P w) k f fd ps sp)(b:Bd m q st ps:=by exact bdA):wQ P w K mg base C m k ps sp:=by let⟨f,a,l⟩:=l;exact l.d a Y h b
def MF.mk1(l:MF K C "__init__" q st)(a:GA K x C)(e:PX K C)(Y:Bs P w K mg base)(h:∀{f fd},Fun K "__init__" q st f fd->aM P w K mg base (CXx P w) k f fd ps sp)(c:Bd "__init__" q st ps:=by exact bdA):zB P w K mg base x C k ps sp:=by let⟨f,b,i,fd,F⟩:=l;exact{f,fd,Y.at_ a,⟨e.2.1,b,i,e.2.2⟩,h F,F.binds c}
def Fun.okY(F:Fun K x q st f fd)(S:aC N ps (ay st))(h:∀vs H Q E,sp vs H Q E->vs.length=ps.length/\∀a A outer s,cH k (A.deeper (envOfC q (ay st) (~~~s) f a)) →
   ∃t,PSs (aX (CXx P w) P w K mg base N q (ay st) f a A outer s H E) (dj st) t/\t {nx:=λ_ H'=>Q .non H',rt:=Q} (start N vs) H):aM P w K mg base (CXx P w) (k+1) f fd ps sp:=
 F.okX S (λvs H Q E e=>(h vs H Q E e).1) λa A outer s H vs Q E b e=>(h vs H Q E e).2 a A outer s b
end
section
variable{X:Cx}{k n:Z5}{C:jl}{ps:fy Z6}{sp:Sp}{E:XS}{x m:Z6}{p pos apos:Pos}{e o:Expr}{es:fy Expr}{ta:TE}{t:TA}
def pcS(D:DefX X.prog X.w X.K X.mg X.base x k ps sp)(c:dU X E)(i:cH n X.A)(g:PA X (e::es) t)(h:k≤n:=by first|decide|omega)(f:Gl X x:=by rfl)(a:(x ==("__debug__":Str))=Z2:=by decide)(j:starEach (e::es) X.env =(Z2,eval e X.env)::starEach es X.env:=by rfl)(b:(backTo pos (starEach es X.env)).any (·.1)=Z2:=by rfl) :
  PE X (.Call (.Name x p) (e::es) [] pos) (AE sp E t):=GX D c (i.mono h) f g a j b
def psS(i:Z5){x:Z6}{e:Expr}{te:TE}{pos pos':Pos}(a:X.N.Nodup)(c:PE X e te)(hi:X.N[i]?=some x:=by rfl)(b:Loc X.env.scope x:=by exact Or.inl J)(hs:swapsWith e (some (.Name x pos')) pos.line X.env=pure Z2:=by rfl)(f:X.fn x=Z1∨X.env.scope.names.lookup x=some .local:=by first|exact .inl rfl|exact .inr rfl|assumption) :
  PS X (.Assign [.Name x pos'] e pos) (DO te (ng i)):=qW a hi b c hs f
def pgN(i:Z5)(a:X.N.Nodup)(c:X.fn x=Z1∨X.env.scope.names.lookup x=some .local:=by first|exact .inl rfl|exact .inr rfl|assumption)(hi:X.N[i]?=some x:=by rfl)(b:Loc X.env.scope x:=by exact Or.inl J):PG X (.Name x pos) (ng i):=QV a hi b c
end
def dE(w:t7)(e:Z6×Tok×mu):DictEntry:={hashStr w e.1,.str e.1 e.2.1,e.2.2}
def gdn{P:t6}{w:t7}{K:Frag}{a:jl}{ep:Z5}(es:fy (Z6×Tok×mu))(b:(es.map (·.1)).Nodup)(h:K.lookup a=some {.type "dict",Z0,.dict (es.map (dE w)).toArray ep,#[]}){c:Heap}(X:K.In c):c.DictOf (cu P w) a (es.map λe=>((Sum.inr e.1:Key),e.2.2)):=by
 exists _,_,_,X a _ h,⟨J,J,J⟩,J,?_,?_
 .intro e f;simp only[List.mem_toArray,List.mem_map] at f;let⟨x,_,rfl⟩:=f;exact{Sum.inr x.1,sC x.1 x.2.1,J}
 .clear h b;show Pairs _ (es.map<|dE w) _
  induction es with
  |nil=>exact .nil
  |cons e es g=>exact .cons (sC e.1 e.2.1) J g
 .rw[akp];exact alw.mpr ((alw.mp b).imp λh e=>h<|Sum.inr.inj e)
def yF{es:fy (Z6×Tok×mu)}(a:(es.map (·.1)).Nodup){e:Z6×Tok×mu}(h:e∈es):valueAt (es.map λe=>((Sum.inr e.1:Key),e.2.2)) (Sum.inr e.1)=some e.2.2:=by
 induction es with
 |nil=>cases h
 |cons x es c=>
  rw[ajh,ajj] at a;unfold valueAt;rw[ajh,List.find?_cons];rcases aiU.mp h with rfl|h
  .simp
  .let b:x.1≠e.1:=λz=>a.1 (z ▸ ake h)
   simp only[Sum.inr.injEq,b,decide_false];exact c a.2 h
def GDF(P:t6)(w:t7)(K:Frag)(mg:Z6->nt mu)(a:jl)(l:fy (Z6×Z6)):Z3:=(a==sysModules)=Z2/\∀h:Heap,K.In h->∃vs:fy (Key×mu),h.DictOf (cu P w) a vs/\∀ p∈l,valueAt vs (Sum.inr p.1)=mg p.2
def abH{P:t6}{w:t7}{K:Frag}{mg:Z6->nt mu}{a:jl}{ep:Z5}(es:fy (Z6×Tok×mu))(l:fy (Z6×Z6))(hs:(a==sysModules)=Z2)(h:K.lookup a=some {.type "dict",Z0,.dict (es.map (dE w)).toArray ep,#[]})(f:l.map (·.1)=es.map (·.1))(c:(l.map (·.1)).Nodup)(j:l.map (λp=>mg p.2)=es.map λe=>some e.2.2):GDF P w K mg a l:=by rw[f] at c;refine{hs,λn X=>{_,gdn es c h X,λp b=>?_}};let⟨i,hi⟩:=aju.mp b;let h1:=congrArg (λl=>l[i]?) f;let h2:=congrArg (λl=>l[i]?) j;simp only[List.getElem?_map,hi,Option.map_some] at h1 h2;let⟨e,g,m⟩:=aja.mp h1.symm;rw[g] at h2;rw[←m,yF c<|aiQ g];exact(aiY h2).symm
inductive Am(Kn:Z6->Z3)(F:Z6->Sp)(E:XS)(t:TA)(σ:St)(Q:VK)(y:V)(H1:Hp):Z3
 |m z(_:y=.str z)(_:Kn z)(_:t σ H1 λvs H2=>F z vs H2 Q (E σ))
def Ue(a:Z6->Z3)(F:Z6->Sp)(E:XS)(ty:TE)(t:TA):TE:=λσ H Q=>ty σ H λy H1=>Am a F E t σ Q y H1
def G5{X:Cx}{d:jl}{l:fy (Z6×Z6)}{j:Z6->Z3}{F:Z6->Sp}{k:Z5}{E:XS}{o i e:Expr}{es:fy Expr}{p pos:Pos}{ty:TE}{t:TA}(g:GDF X.prog X.w X.K X.mg d l)(S:∀z,j z->∃n ps,(z,n)∈l/\DefX X.prog X.w X.K X.mg X.base n k ps (F z))(C:dU X E)(hr:cH k X.A)(U:PE X o (tC (.ref d)))(hi:PE X i ty)(hs:DI i)(ha:PA X (e::es) t)(he:starEach (e::es) X.env =(Z2,eval e X.env)::starEach es X.env:=by rfl)(c:(backTo pos (starEach es X.env)).any (·.1)=Z2:=by rfl)(L:eval (.Call (.Subscript o i p) (e::es) [] pos) X.env =(do callWith pos (←eval (.Subscript o i p) X.env) [] (backTo pos (starEach (e::es) X.env)) (backToKw pos (keywordEach [] X.env))):=by rfl) :
  PE X (.Call (.Subscript o i p) (e::es) [] pos) (Ue j F E ty t):=by
 intro X4 s σ H Q I h;rw[L];refine aiF<|xA ak2.lookup hs (thn (U X4 s σ H (λv H'=>v=.ref d/\H'=H) I ⟨J,J⟩) λ u s1 ⟨x,H1,I1,rx,ex,eH⟩=>?_);subst ex eH;obtain rfl:u=Value.ref d:=rx;refine thn (hi X4 s1 σ _ _ I1 h) λ iv s2 ⟨y,H2,I2,ry,a⟩=>?_
 let⟨z,rfl,hz,a⟩:=a;let⟨n,ps,Y,D⟩:=S z hz;let⟨f,fd,m,Fn,kp,b⟩:=D.ex;let⟨vs,dd,O⟩:=g.2 s2.heap I2.kIn;exists dd.typeIs;let B:=O _ Y;rw[m] at B;refine amm (lg (k:=Sum.inr z) ry) dd.mapOf B ?_;refine akm (h₀:=X.base) I.ok.mod.kin kp (thn (ha pos X4 _ σ H2 _ (I2.tok _) a) λ us s3 ⟨vs,H3,I3,r,q⟩=>{I3.kIn,?_}) he c;exact oR Fn hr b C I3 r q
def RelV.abu{x:V}{u:mu}(h:DM u=some x):RelV x u:=by unfold DM at h;split at h <;> first|(cases h;first|exact{1}|rfl)|cases h
def fj(K:Frag)(a:jl)(xs:fy V):Bool:=match K.lookup a with
 |some ⟨.type t,_,.seq C5 _,_⟩=>t == "tuple" &&(decide (C5.size≤1000)&&decide (C5.toList.map DM=xs.map some))
 |_=>Z2
def EW{K:Frag}{a:jl}{xs:fy V}(h:fj K a xs=Z1){H:Hp}:X3 K H a xs:=by
 unfold fj at h;split at h
 .rename_i t _ C5 n _ e;simp only[Bool.and_eq_true,beq_iff_eq,decide_eq_true_eq] at h;let⟨rfl,h1,h2⟩:=h;refine .inr {_,C5,n,e,J,J,ajt<|aF h1,?_};clear h1 e;generalize C5.toList=us at h2
  induction us generalizing xs with
  |nil=>cases xs with
   |nil=>exact .nil
   |cons x xs=>simp at h2
  |cons u us b=>cases xs with
   |nil=>simp at h2
   |cons x xs=>simp only[List.map_cons,List.cons.injEq] at h2;exact .cons (RelV.abu h2.1)<|b h2.2
 .cases h
def GDT(P:t6)(w:t7)(K:Frag)(a:jl)(l:fy (Z6×fy V)):Z3:=(a==sysModules)=Z2/\∀h:Heap,K.In h->∃vs:fy (Key×mu),h.DictOf (cu P w) a vs/\∀ p∈l,∃b,valueAt vs (Sum.inr p.1)=some (.ref b)/\∀H,X3 K H b p.2
def abg{P:t6}{w:t7}{K:Frag}{a:jl}{ep:Z5}(es:fy (Z6×Tok×mu))(l:fy (Z6×fy V))(hs:(a==sysModules)=Z2)(h:K.lookup a=some {.type "dict",Z0,.dict (es.map (dE w)).toArray ep,#[]})(g:l.map (·.1)=es.map (·.1))(f:(l.map (·.1)).Nodup)(n:∀ p∈es.zip l,∃b,p.1.2.2=.ref b/\fj K b p.2.2=Z1):GDT P w K a l:=by rw[g] at f;refine{hs,λr X=>{_,gdn es f h X,λp c=>?_}};let⟨i,hi⟩:=aju.mp c;let h1:=congrArg (λl=>l[i]?) g;simp only[List.getElem?_map,hi,Option.map_some] at h1;let⟨e,j,o⟩:=aja.mp h1.symm;let⟨b,m,q⟩:=n (e,p)<|aiQ (i:=i) (by rw[amh];exact⟨j,hi⟩);exact{b,by rw[←o,yF f<|aiQ j,m],λH=>EW q}
inductive GQ(l:fy (Z6×fy V))(Q:VK)(y:V)(H1:Hp):Z3
 |m z xs(_:y=.str z)(_:(z,xs)∈l)(_:Q (.bl Z1) H1)
def aik(l:fy (Z6×fy V))(ty:TE):TE:=λσ H Q=>ty σ H λy H1=>GQ l Q y H1
inductive LI(K:Frag)(l:fy (Z6×fy V))(Q:VK)(y:V)(H1:Hp):Z3
 |m z xs(_:y=.str z)(_:(z,xs)∈l)(_:∀b,(∀H,X3 K H b xs)->Q (.ref b) H1)
def tGT(K:Frag)(l:fy (Z6×fy V))(ty:TE):TE:=λσ H Q=>ty σ H λy H1=>LI K l Q y H1
section
variable{X:Cx}{i o:Expr}{pos:Pos}{ty:TE}{d:jl}{l:fy (Z6×fy V)}
def Ro(g:GDT X.prog X.w X.K d l)(hi:PE X i ty)(c:PE X o (tC (.ref d))):PC X .In i o (aik l ty):=by
 intro X4 s σ H Q I h;refine thn (hi X4 s σ H _ I h) λ m s1 ⟨y,H1,I1,ry,q1⟩=>thn (c X4 s1 σ H1 (λv H'=>v=.ref d/\H'=H1) I1 ⟨J,J⟩) λ u s2 ⟨x,H2,I2,rx,ex,eH⟩=>?_
 let⟨z,xs,f,e,q1⟩:=q1;subst ex eH f;obtain rfl:u=Value.ref d:=rx;let⟨vs,dd,a⟩:=g.2 s2.heap I2.kIn;let⟨b,j,_⟩:=a _ e;refine wpAny_in_of (lg (k:=Sum.inr z) ry) g.1 dd.mapOf ?_;rw[j];exact{.bl _,_,I2.tok _,J,q1}
def afF(g:GDT X.prog X.w X.K d l)(e:PE X o (tC (.ref d)))(hi:PE X i ty)(hs:DI i):PE X (.Subscript o i pos) (tGT X.K l ty):=by
 intro X4 s σ H Q I h;refine xA ak2.lookup hs (thn (e X4 s σ H (λv H'=>v=.ref d/\H'=H) I ⟨J,J⟩) λ u s1 ⟨x,H1,I1,rx,ex,eH⟩=>?_);subst ex eH;obtain rfl:u=Value.ref d:=rx;refine thn (hi X4 s1 σ _ _ I1 h) λ p s2 ⟨y,H2,I2,ry,a⟩=>?_
 let⟨z,xs,m,j,a⟩:=a;subst m;let⟨vs,dd,n⟩:=g.2 s2.heap I2.kIn;let⟨b,f,c⟩:=n _ j;exists dd.typeIs;exact amm (lg (k:=Sum.inr z) ry) dd.mapOf f {.ref b,_,I2.tok _,J,a b c}
end
def Al{X:Cx}{hs:fy ExceptHandler}:PH X hs (λ_ _ _ _ _=>False):=by
 unfold PH
 intros
 exact False.elim (by assumption)
def CQ:∀{l:fy Z5}{n:Z5},n∈l->n≤l.sum
 |x::l,n,h=>by
  rw[List.sum_cons];rcases aiU.mp h with h|h
  .omega
  .let:=CQ h;omega
def split_le{z p:Z6}{c:Z5}(a:p∈Txt.split z ⟨#[c]⟩):p.length≤z.length:=by let e:=alc z ⟨#[c]⟩;let h:=congrArg PySem.Str.length e;rw[←akS,size_glued] at h;let:=CQ (ake (f:=(·.length)) a);omega
def Dz{z:Z6}{c:Z5}:(Txt.split z ⟨#[c]⟩).length≤z.length+1:=by let e:=alc z ⟨#[c]⟩;let h:=congrArg PySem.Str.length e;rw[←akS,size_glued] at h;let:(⟨#[c]⟩:Str).length=1:=rfl;rw[this] at h;omega
def Eh:fy Z6->nt (Z4×Z4)
 |[a,b]=>if okW a=Z1/\okW b=Z1 then some (intOf a,intOf b) else Z0
 |_=>Z0
def chg(z:Z6):nt (Z4×Z4):=Eh<|Txt.split z<|Str.ofString "="
def nq{z:Z6}(h:okW z=Z1):z.length≤20:=by simp only[okW,Bool.and_eq_true,decide_eq_true_eq] at h;exact h.1.1.2
def Gu{ps:fy Z6}(h:¬ps.length=2):Eh ps=Z0:=by
 match ps,h with
 |[],_=>rfl
 |[_],_=>rfl
 |[_,_],h=>exact absurd J h
 |_::_::_::_,_=>rfl
inductive At where
 |c (s:Z6)
 |n (k:Z4)
def At.d:At->Z6
 |.c s=>s
 |.n k=>bG k
def dn:fy At->Z6
 |[]=>⟨#[]⟩
 |a::as=>as.foldl (λs b=>s++b.d) a.d
def flA(as:fy At):fy Z5:=as.flatMap λa=>a.d.cps.toList
def wu(as:fy At):(dn as).cps.toList=flA as:=by
 let:∀(as:fy At)(s:Z6),(as.foldl (λs b=>s++b.d) s).cps.toList=s.cps.toList++flA as:=by
  intro as
  induction as with
  |nil=>intro s;simp[flA]
  |cons a as c=>intro s;rw[amE,c,pe];simp[flA]
 cases as with
 |nil=>rfl
 |cons a as=>show(as.foldl (λs b=>s++b.d) a.d).cps.toList=_;rw[this];simp[flA]
def ec(p:Z6):fy At:=if p.cps.size=0 then [] else [.c p]
def gl:fy Z6->fy (fy At)->fy (fy At)
 |[p],w::ws=>(ec p++w)::ws
 |p::q::r,ws=>ec p::gl (q::r) ws
 |_,ws=>ws
def cut(s:Z5):fy At->fy (fy At)
 |[]=>[[]]
 |.n k::as=>match cut s as with
  |w::ws=>(.n k::w)::ws
  |[]=>[]
 |.c z::as=>gl (Txt.split z ⟨#[s]⟩)<|cut s as
def gu(as:fy At):Z3:=∀k,At.n k∈as->0≤k/\k<10 ^ 20
def Bb(p:Z6):flA (ec p)=p.cps.toList:=by
 unfold ec;split
 .rename_i h;let:p.cps=#[]:=Array.eq_empty_of_size_eq_zero h;rw[this];rfl
 .simp[flA,At.d]
def Dd(a b:fy At):flA (a++b)=flA a++flA b:=by simp[flA]
def jn(s:Z5):fy (fy Z5)->fy Z5
 |[]=>[]
 |[x]=>x
 |x::y::r=>x++s::jn s (y::r)
def xV(s:Z5):∀ws:fy Z6,(Str.join ⟨#[s]⟩ ws).cps.toList=jn s (ws.map (·.cps.toList))
 |[]=>rfl
 |[x]=>rfl
 |x::y::r=>by show(x ++⟨#[s]⟩++Str.join ⟨#[s]⟩ (y::r)).cps.toList=_;rw[pe,pe,xV s (y::r)];simp[jn]
def Qq(s:Z5)(x:fy Z5):∀{r:fy (fy Z5)},r≠[]->jn s (x::r)=x++s::jn s r
 |[],h=>absurd J h
 |_::_,_=>rfl
def O3(s:Z5)(a x:fy Z5)(r:fy (fy Z5)):jn s ((a++x)::r)=a++jn s (x::r):=by cases r <;> simp[jn]
def JE:∀{ps:fy Z6}{ws:fy (fy At)},ps≠[]->ws≠[]->gl ps ws≠[]
 |[],_,h,_=>absurd J h
 |[p],[],_,h=>absurd J h
 |[p],w::ws,_,_=>by simp[gl]
 |p::q::r,ws,_,_=>by simp[gl]
def Nk(s:Z5):∀{ps:fy Z6}{ws:fy (fy At)},ps≠[]->ws≠[]->jn s ((gl ps ws).map flA)=jn s (ps.map (·.cps.toList))++jn s (ws.map flA)
 |[],_,h,_=>absurd J h
 |[p],[],_,h=>absurd J h
 |[p],w::ws,_,_=>by show jn s (flA (ec p++w)::ws.map flA)=_;rw[Dd,O3,Bb];rfl
 |p::q::r,ws,_,hw=>by let a:=Nk s (ps:=q::r) (ws:=ws) o8 hw;show jn s (flA (ec p) ::(gl (q::r) ws).map flA)=_;rw[Qq s _<|⇑(JE o8 hw),a,Bb];simp[jn]
def qT(s:Z5):∀as:fy At,cut s as≠[]
 |[]=>by simp[cut]
 |.n k::as=>by
  let:=qT s as;unfold cut;split
  .simp
  .contradiction
 |.c z::as=>JE (λh=>by let:=split_pos z ⟨#[s]⟩;rw[h] at this;exact absurd this o7)<|qT s as
def AN(s:Z5):∀as:fy At,jn s ((cut s as).map flA)=flA as
 |[]=>rfl
 |.n k::as=>by
  let a:=AN s as;let hn:=qT s as;unfold cut;split
  .rename_i w ws e;rw[e] at a;show jn s (((bG k).cps.toList++flA w)::ws.map flA) =(bG k).cps.toList++flA as;rw[O3,←a];rfl
  .contradiction
 |.c z::as=>by
  show jn s ((gl _ _).map flA)=z.cps.toList++flA as;let b:Txt.split z ⟨#[s]⟩≠[]:=λh=>by let:=split_pos z ⟨#[s]⟩;rw[h] at this;exact absurd this o7
  rw[Nk s b<|qT s as,AN s as,←xV,alc]
def EY{s:Z5}{p:Z6}(h:s∉p.cps.toList):s∉flA (ec p):=by rwa[Bb]
def Cs{s:Z5}:∀{ps:fy Z6}{ws:fy (fy At)},(∀ p∈ps,s∉p.cps.toList)->(∀ w∈ws,s∉flA w)->∀ w∈gl ps ws,s∉flA w
 |[],ws,_,hw=>by cases ws <;> simpa[gl] using hw
 |[p],[],_,_=>by simp[gl]
 |[p],w::ws,hp,hw=>by
  intro x a;rcases aiU.mp a with rfl|a
  .rw[Dd,ai0];rintro(z|z)
   .exact EY (hp p o8) z
   .exact hw w o8 z
  .exact hw x (by simp[a])
 |p::q::r,ws,hp,hw=>by
  intro x a;rcases aiU.mp a with rfl|a
  .exact EY (hp p o8)
  .exact Cs (λy b=>hp y<|aiZ _ b) hw x a
def uO{s:Z5}(hs:s<48∨57<s):∀{as:fy At},gu as->∀ w∈cut s as,s∉flA w
 |[],_=>by simp[cut,flA]
 |.n k::as,h=>by
  let f:=uO hs (as:=as) λk b=>h k<|aiZ _ b
  unfold cut;split
  .rename_i w ws e;rw[e] at f;intro x a;rcases aiU.mp a with rfl|a
   .show s∉(bG k).cps.toList++flA w;rw[ai0];rintro(z|z)
    .exact gS (h k o8).1 hs z
    .exact f w o8 z
   .exact f x (by simp[a])
  .intro x a;cases a
 |.c z::as,h=>Cs (StrLaws.split_free z s) (uO hs λk b=>h k<|aiZ _ b)
def Bj{s:Z5}(hs:s<48∨57<s){as:fy At}(h:gu as):Txt.split (dn as) ⟨#[s]⟩ =(cut s as).map dn:=by
 let e:dn as=Str.join ⟨#[s]⟩ ((cut s as).map dn):=by
  refine xW ?_;rw[wu,xV,akp,←AN s as];congr 1;refine akf λw _=>?_
  exact(wu w).symm
 conv=>lhs;rw[e]
 refine lu (⇑(qT s as)) λp a=>?_
 let⟨w,b,rfl⟩:=aje.mp a;rw[wu];exact uO hs h w b
def wv:fy At->nt Z4
 |[.n k]=>some k
 |[.c z]=>if okW z=Z1 then some (intOf z) else Z0
 |_=>Z0
def vB{k:Z4}(h0:0≤k)(h1:k<10 ^ 20):intOf (bG k)=k:=by unfold intOf;rw[Ig h0 h1];rfl
def zv{w:fy At}{k:Z4}(h:gu w)(e:wv w=some k):okW (dn w)=Z1/\intOf (dn w)=k:=by
 unfold wv at e;split at e
 .cases e;let:=h k o8;exact{Cm this.1 this.2,vB this.1 this.2}
 .split at e
  .rename_i z a;cases e;exact⟨a,J⟩
  .cases e
 .cases e
def qp{s:Z5}:∀{as:fy At},gu as->∀ w∈cut s as,gu w
 |[],_=>by intro w m k f;simp[cut] at m;subst m;cases f
 |.n k::as,h=>by
  let g:=qp (s:=s) (as:=as) λk f=>h k<|aiZ _ f
  unfold cut;split
  .rename_i w ws e;rw[e] at g;intro x a j b;rcases aiU.mp a with rfl|a
   .rcases aiU.mp b with e|b
    .cases e;exact h k o8
    .exact g w o8 j b
   .exact g x (by simp[a]) j b
  .intro x a;cases a
 |.c z::as,h=>by
  let g:=qp (s:=s) (as:=as) λk f=>h k<|aiZ _ f
  show ∀ w∈gl _ _,gu w;generalize Txt.split z ⟨#[s]⟩=ps;generalize cut s as=ws at g;let i:∀p,gu (ec p):=λp k f=>by unfold ec at f;split at f <;> simp at f
  induction ps with
  |nil=>cases ws <;> simpa[gl] using g
  |cons p ps l=>cases ps with
   |nil=>cases ws with
    |nil=>intro x a;simp[gl] at a
    |cons w ws=>
     intro x a j b;rcases aiU.mp a with rfl|a
     .rcases ai0.mp b with b|b
      .exact i p j b
      .exact g w o8 j b
     .exact g x (by simp[a]) j b
   |cons q r=>
    intro x a;rcases aiU.mp a with rfl|a
    .exact i p
    .exact l x a
def cv(w:fy At):nt (Z4×Z4):=match cut 61 w with
 |[a,b]=>match wv a,wv b with
  |some x,some y=>some (x,y)
  |_,_=>Z0
 |_=>Z0
def Ng{w:fy At}{c:Z4×Z4}(h:gu w)(e:cv w=some c):chg (dn w)=some c:=by
 unfold cv at e;split at e
 .rename_i a b g;split at e
  .rename_i x y i j;cases e;let f:=qp (s:=61) h;rw[g] at f;let h1:=zv (f a o8) i;let h2:=zv (f b o8) j;unfold chg;rw[zL,Bj o7 h,g];show(if okW (dn a)=Z1/\okW (dn b)=Z1 then some (intOf<|dn a,intOf<|dn b) else Z0)=_;rw[aiN ⟨h1.1,h2.1⟩,h1.2,h2.2]
  .cases e
 .cases e
inductive Told where
 |chs (l:fy (Z4×Z4))
 |wrd (w:Z6)
 |nums (l:fy Z4)
def DE:fy Z6:=["whole","since","last"]
def iC:fy (Z6×Z5×nt Z5):=[("seal",1,some 1),("tidy",0,some 0),("carry",2,some 2),("harm",4,some 4),("heal",2,some 2),("marks",0,some 0),("lies",1,some 1),("line",2,some 2),("reach",1,some 1),("fetch",1,Z0),("price",1,Z0),("way",1,Z0),("plan",6,Z0)]
def gR(n:Z5)(f:Z5×nt Z5):Bool:=decide (f.1≤n) &&(match f.2 with|some m=>decide (n≤m)|none=>Z1)
def within(a:Z6)(ns:fy Z4):Z3:=(a = "harm"->∀b,ns[3]?=some b->b≤18446744073709551615)/\(a = "plan"->∀ x∈ns.tail,x≤1000000000000)
def yg(a:Z6)(ns:fy Z4):Bool:=(if a = "harm" then(match ns[3]? with|some b=>decide (b≤18446744073709551615)|none=>Z1) else Z1) &&(if a = "plan" then ns.tail.all λx=>decide (x≤1000000000000) else Z1)
def FH{a:Z6}{ns:fy Z4}(h:yg a ns=Z1):within a ns:=by
 unfold yg at h;rw[akC] at h;refine{λe b f=>?_,λe x c=>?_}
 .let h1:=h.1;rw[aiN e,f] at h1;exact ajn h1
 .let h2:=h.2;rw[aiN e] at h2;exact ajn<|akh.mp h2 x c
structure aft(hd:Z6)(ws:fy Z6)(ns:fy Z4):Z3 where
 fm:∃f,(hd,f)∈iC/\gR ws.length f=Z1
 ok:∀ w∈ws,okW w=Z1
 en:ns=ws.map intOf
 wi:within hd ns
def RowW(a:Z6)(ws:fy Z6):Told->Z3
 |.chs l=>a = "day"/\ws.map chg=l.map some
 |.wrd w=>a = "keep"/\ws=[w]/\w∈DE
 |.nums ns=>a≠"day"/\a≠"keep"/\aft a ws ns
def wO(z a:Z6)(td:Told):Z3:=∃ws,Txt.split z (Str.ofString " ")=a::ws/\RowW a ws td
def zY{α c:Type}(f:α->nt c):fy α->nt (fy c)
 |[]=>some []
 |a::as=>match f a,zY f as with
  |some b,some bs=>some (b::bs)
  |_,_=>Z0
def yb{α c:Type}{f:α->nt c}:∀{as:fy α}{bs:fy c},zY f as=some bs->as.map f=bs.map some
 |[],bs,h=>by cases h;rfl
 |a::as,bs,h=>by
  unfold zY at h;split at h
  .rename_i b e h1 h2;cases h;rw[ajh,ajh,h1,yb h2]
  .cases h
def rd(as:fy At):nt (Z6×Told):=match cut 32 as with
 |[.c hd]::ws=>if hd = "day" then(match zY cv ws with|some l=>some (hd,.chs l)|none=>Z0)
  else if hd = "keep" then(match ws with|[[.c w]]=>if w∈DE then some (hd,.wrd w) else none|_=>Z0)
  else match zY wv ws,iC.find? (λp=>p.1=hd) with
   |some ns,some f=>if (gR ws.length f.2&&yg hd ns)=Z1 then some (hd,.nums ns) else Z0
   |_,_=>Z0
 |_=>Z0
def Jo{as:fy At}{B:Z6}{td:Told}(h:gu as)(e:rd as=some (B,td)):wO (dn as) B td:=by
 let hs:=Bj (s:=32) o7 h;let y:=qp (s:=32) h;unfold rd at e;split at e
 .rename_i F ws p;rw[p] at hs y;let i:∀ w∈ws,gu w:=λw g=>y w (aiZ _ g)
  split at e
  .rename_i m;split at e
   .rename_i l C;cases e;exists ws.map dn,by rw[spS,hs];rfl,m;let:=yb C;rw[akp];refine Eq.trans (akf λw g=>?_) this;obtain⟨c,p⟩:∃c,cv w=some c:=by let n:cv w∈ws.map cv:=ake g;rw[this] at n;let⟨c,_,e⟩:=aje.mp n;exact⟨c,e.symm⟩
    rw[p];exact Ng (i w g) p
   .cases e
  .rename_i t;split at e
   .rename_i j;split at e
    .rename_i w;split at e
     .rename_i g;cases e;exact{[w],by rw[spS,hs];rfl,j,J,g}
     .cases e
    .cases e
   .rename_i q;split at e
    .rename_i ns f r z;split at e
     .rename_i u;cases e;rw[akC] at u;let A:=yb r;let o:∀ w∈ws,∃k,wv w=some k:=λw g=>by let n:wv w∈ws.map wv:=ake g;rw[A] at n;let⟨c,_,e⟩:=aje.mp n;exact⟨c,e.symm⟩
      refine{ws.map dn,by rw[spS,hs];rfl,t,q,{f.2,?_,by rw[aiE];exact u.1},λw g=>?_,?_,FH u.2}
      .let h1:=List.mem_of_find?_eq_some z;let h2:=List.find?_some z;rwa[←ajn h2]
      .let⟨x,v,rfl⟩:=aje.mp g;let⟨k,j⟩:=o x v;exact(zv (i x v) j).1
      .rw[akp];let:(ws.map (intOf ∘ dn)).map some=ns.map some:=by
        rw[←A,akp];refine akf λw g=>?_
        let⟨k,j⟩:=o w g;rw[j];exact congrArg some (zv (i w g) j).2
       exact((anB λa b h=>aiY h).mp this).symm
     .cases e
    .cases e
 .cases e
def Ed{ws:fy Z6}{a:fy (Z4×Z4)}{i:Z5}{w:Z6}{c:Z4×Z4}(h:(ws.take i).map chg=a.map some)(hi:ws[i]?=some w)(b:chg w=some c):(ws.take (i+1)).map chg =(a++[c]).map some:=by rw[ai1,hi];simp[h,b]
section
variable{X:Cx}
def ES(F:X.calm=Z1):dh X (.builtin "max") (λxs H Q=>∃(a:jl)(ns:fy Z4),xs=[.ref a]/\X0 X.K H a (ns.map Z8)/\ns≠[]/\∀ m∈ns,(∀ x∈ns,x≤m)->Q (.int m) H):=by
 rintro X4 s σ H xs us Q I r ⟨a,ns,rfl,Y,l,q⟩;let⟨u,rfl,ru⟩:=vals1 r;cases (show u=Value.ref a from ru);let⟨C5,C,pt,_⟩:=I.list Y;let B:=alL C;let p:s.heap.IsList a C5.toArray:=pt.isList;let h:a<(~~~s):=by let⟨o,e,_⟩:=p;exact aiP e
 let n:=vf B;let z:0<ns.length:=alW.mpr l;let c:∀i v,C5.toArray[i]?=some v->∃t,v=Value.int (ns.getD i 0) t:=λi v e=>B.int_at i v (⇑e)
 refine call_max_walk<|alq p {(~~~s),_,_,_,_,_,1,Walks.list (A:=X.A.in1) (I.ok.hd F) _ a (mE h<|aiL _) C5.toArray,{{_,aiW _ J,J,J},let ⟨o,e,r⟩:=p;{o,aiI _ e,r}},λb g=>?_,by simp;omega,CmpOf.ints_gt (λi=>ns.getD i 0) c,λv h' tk O hk=>?_}
 .show b <(s.heap.push _).objs.size;rw[aj0];simp only[List.mem_cons,List.not_mem_nil,or_false] at g;rcases g with rfl|rfl
  .exact akA _
  .exact akP h
 .let⟨t,rfl⟩:=c _ _ O;let b1:=wD (bt:=λi j=>decide (ns.getD i 0>ns.getD j 0)) (C5.toArray.size-1);let hsz:C5.toArray.size=ns.length:=by simp[n]
  let g:argBest (λi j=>decide (ns.getD i 0>ns.getD j 0)) (C5.toArray.size-1)<ns.length:=by omega
  refine{.int _,H,I.kept λb o e=>hk b o (λU=>?_)<|aiI _ e,⟨t,J⟩,q _ ?_ λx L=>?_}
  .let:b=( ~~~s):=⇑U
   exact absurd (aiP e) (by rw[this];exact aj4 _)
  .rw[ai2,aiG g,akD];exact ajF g
  .let⟨j,y⟩:=aju.mp L;let S:j<ns.length:=(aiH.mp y).1;let:=nJ (f:=λi=>ns.getD i 0) (C5.toArray.size-1) j o6;rw[show ns.getD j 0=x by rw[ai2,y];rfl] at this;exact this
end
def lX{n:Z5}:∀{ws:fy Z6},(∀ w∈ws,w.length≤n)->(ws.map (·.length)).sum≤n*ws.length
 |[],_=>by simp
 |w::r,h=>by
  let h1:=h w o8;let h2:=lX (n:=n) (ws:=r) λc a=>h c<|aiZ _ a
  simp only[List.map_cons,List.sum_cons,List.length_cons];rw[Nat.mul_add];omega
end L2
namespace HT
open PySem PySem.Spec PyProof.Rows
section
open PySem.SeqAt
open PySem.AutoSeq1 (wpAny_loadPart')
open PySem.MeetsSeq PySem.MeetsSeq2 PySem.MeetsSeq3
def ints_get:∀{vs:fy mu}{ns:fy Z4},IntsAre vs ns->∀(i:Z5)(h:i<vs.length)(h2:i<ns.length),∃t,vs[i]=.int ns[i] t
 |_,_,.nil,i,h,_=>by cases h
 |_,_,.cons a t r,0,_,_=>⟨t,J⟩
 |_,_,.cons a t r,i+1,h,h2=>ints_get r i (akN h)<|akN h2
def QX(l b:jl)(items a:sA mu)(n S:Z5)(ns o:fy Z4)(hi:IntsAre items.toList ns)(B:IntsAre a.toList o)(hsz:items.size=a.size)(k:Z5) :
  ∀i:Z5,items.size-i=k->Meets (Builtin.«list.__eq__.loop» {[.ref l,.ref b,rawInt i,rawInt 1],[]})
   (λ_ R s=>s.heap.get? l=some {.type "list",Z0,.seq items n,#[]}/\s.heap.get? b=some {.type "list",Z0,.seq a S,#[]}∧
    R (.ok (.ret (.bool (lexLe (ns.drop i) (o.drop i))))) s):=by
 let Y:items.size=ns.length:=by rw[←hi.length];simp
 let z2:a.size=o.length:=by rw[←B.length];simp
 induction k with
 |zero=>
  intro i U prog w A R s h;let⟨x,g,d,z,os⟩:=s;let⟨p,r,h⟩:=h
  wp_walk using ajV p,ajV r
  let c:items[((i:Z5):Z4).toNat]? = Z0:=by simp;omega
  let f:a[((i:Z5):Z4).toNat]? = Z0:=by simp;omega
  rw[amP o6,amP o6] at h;rw[c,f]
  wp_walk using ajV p,ajV r
  show R (.ok<|.ret<|.bool<|decide (items.size≤a.size)) _;rwa[aiS o6]
 |succ k O=>
  intro i U prog w A R s h;let⟨x,g,d,z,os⟩:=s;let⟨p,r,h⟩:=h
  wp_walk using ajV p,ajV r
  let v:i<items.size:=by omega
  let j:i<a.size:=by omega
  let c:items[((i:Z5):Z4).toNat]?=some items[i]:=by simp[v]
  let f:a[((i:Z5):Z4).toNat]?=some a[i]:=by simp[j]
  let H:(↥i+1) =((i+1:Z5):Z4):=by push_cast;rfl
  obtain⟨t,F⟩:∃t,items[i]=.int (ns[i]'o6) t:=by let⟨t,e⟩:=ints_get hi i (⇑v) o6;exact{t,⇑e}
  obtain⟨u,C⟩:∃t,a[i]=.int (o[i]'o6) t:=by let⟨t,e⟩:=ints_get B i (⇑j) o6;exact{t,⇑e}
  rw[akz o6,akz (i:=i) (l:=o) o6,wI] at h;rw[c,f,F,C];let⟨e,L,m⟩:=Hg A.in1 ⟨x,g,d,z,os⟩ (ns[i]'o6) t (o[i]'o6) u;refine aiF<|L prog w _ _ ?_;cases e with
  |true=>
   rw[aiN<|m.mp J] at h
   wp_walk
   rw[H];exact⟨alB plain_eq_loop _,aj8 entry_eq_loop (by rw[aj1 plain_eq_loop _];exact O (i+1) o6 prog w A R _ ⟨p,r,h⟩)⟩
  |false=>
   rw[aiJ λq=>absurd (m.mpr q) ai4] at h;let y:=IB A.in1 ⟨x,g,d,z,os⟩ (ns[i]'o6) t (o[i]'o6) u prog w
   wp_walk using ajV p,ajV r
   rw[c,f,F,C]
   wp_walk using y
   exact h
def Gn(l b:jl)(items a:sA mu)(n f:Z5)(ns c:fy Z4)(hi:IntsAre items.toList ns)(j:IntsAre a.toList c)(hsz:items.size=a.size) :
  Meets (Builtin.«list.__le__» {[.ref l,.ref b],[]})
   (λ_ R s=>s.heap.get? l=some {.type "list",Z0,.seq items n,#[]}/\s.heap.get? b=some {.type "list",Z0,.seq a f,#[]}∧
    R (.ok (.ret (.bool (lexLe ns c)))) s):=by
 intro prog w A R s h;let⟨m,g,d,p,os⟩:=s;let⟨e,i,h⟩:=h;let o:=AutoSeq1.sub_list_list
 wp_walk using ajV e,ajV i
 exact⟨alB plain_eq_loop _,aj8 entry_eq_loop (by rw[aj1 plain_eq_loop _];exact QX l b items a n f ns c hi j hsz _ 0 J prog w A R _ ⟨e,i,h⟩)⟩
end
end HT
namespace L2
open PySem PySem.Spec PyProof.Rows
def ahv:R2:=λx y H Q=>∃a b ns c,x=.ref a/\y=.ref b/\H a=some (.lst<|ns.map Z8)/\H b=some (.lst<|c.map Z8)/\ns.length=c.length/\Q (.bl (!HT.lexLt c ns)) H
def abK{X:Cx}(r:X.A.units<cLine):OpR X (compareOp .LtE) ahv:=by
 intro X4 s σ H x y v u Q I l m h;let⟨a,b,ns,ms,rfl,rfl,o,t,L,q⟩:=h;cases l;cases m;let⟨z,C5,n,r1,C,e⟩:=I.mD o;let⟨B,c,p,r2,j,g⟩:=I.mD t;let f:IntsAre C5.toArray.toList ns:=uN r1;let i:IntsAre c.toArray.toList ms:=uN r2;let s1:C5.length=ns.length:=⇑f.length
 let s2:c.length=ms.length:=⇑i.length
 refine richCompare_meets_room (op:=.LtE) {_,e,J} {_,g,J} PySem.F.slot_list_le PySem.F.entry_list_le (PySem.F.args_list_le_2 _ _) (HT.Gn a b C5.toArray c.toArray n p ns ms f i (by rw[ai3,ai3];omega))
  {e,g,show Value.bool (HT.lexLe ns ms)≠Value.notImplemented/\_ from{(λx=>nomatch x),.bl<|HT.lexLe ns ms,H,I,J,by rwa[HT.yP]}} r
def uE:∀{vs:fy mu}{xs:fy Z6},StrsAre vs xs->∀(i:Z5)(h:i<vs.length)(h2:i<xs.length),∃t,vs[i]=.str xs[i] t
 |_,_,.nil,i,h,_=>by cases h
 |_,_,.cons a t r,0,_,_=>⟨t,J⟩
 |_,_,.cons a t r,i+1,h,h2=>uE r i (akN h)<|akN h2
def isStr(z:Z6):mu->Bool
 |.str y _=>y.cps.toList==z.cps.toList
 |_=>Z2
def ahl(x:V)(xs:fy V)(H:Hp)(Q:VK):Z3:=∃(a:jl)(ws:fy Z6)(z:Z6)(j:Z5),x=.ref a/\xs=[.str z]/\H a=some (.lst<|ws.map V.str)/\ws[j]?=some z/\(∀i,i<j->ws[i]?≠some z)/\Q (.int (j:Z5)) H
def yz{X:Cx}:MtR X "list.index" ahl:=by
 rintro X4 s σ H x xs v us Q I m r ⟨a,ws,z,j,rfl,rfl,A,g,f,q⟩;cases m;let⟨u,rfl,B⟩:=Vals.one r;let⟨o,rfl⟩:=(show ∃t,u=Value.str z t from B);let⟨C,C5,n,r1,O,e⟩:=I.mD A;let sa:=rE r1;let S:=sa.length;let U:j<ws.length:=(aiH.mp g).1;let at_:∀(i:Z5)(h:i<C5.length),isStr z C5[i]=decide (ws[i]?=some z):=λi h=>by
  let⟨t,e⟩:=uE sa i h o6;rw[e,aiG o6];unfold isStr;by_cases c:ws[i]'o6=z
  .rw[c];simp
  .rw[aiX λz=>c<|aiY z];refine akc.mpr λl=>c ?_
   generalize ws[i]'o6=y at l;cases y;cases z;simpa using l
 refine akJ alo {_,e,J} PySem.F.entry_list_index (PySem.F.args_list_index_2 _ _)
  (MeetsSeq.list_index a C5.toArray n (.str z o) (isStr z) (λy L=>?_) j (by rw[ai3];omega) (by let:=al0;rw[aiE] at C;omega) (by let:=at_ j o6;rw[aiS g] at this;simpa using this) λi hi b=>by let:=at_ i o6;rw[aiX<|f i b] at this;simpa using this) {e,{.int _,H,I.tok _,{1},q}}
 let⟨i,h,e⟩:=akG (show y∈C5 by simpa using L);let⟨t,p⟩:=uE sa i h o6;rw[p] at e;subst e;exact PySem.SeqRoads2.EqGives.str _ _ _ _
def Ac{X:Cx}:dh X (.type "str") (λxs H Q=>∃z:Z6,xs=[.str z]/\Q (.str z) H):=by intro X4 s σ H xs us Q I r h;let⟨z,rfl,q⟩:=h;let⟨u,rfl,t,rfl⟩:=vals1 r;exact PySem.P.str_of_str {.str _,H,I,{1},q}
def zH{X:Cx}:dh X (.type "str") (λxs H Q=>∃x:V,xs=[x]/\((∃z,x=.str z/\Q (.str z) H)∨(∃i:Z4,x=.int i/\i.natAbs.log2<1920/\Q (.str (toString i)) H))):=by
 intro X4 s σ H xs us Q I r h;obtain⟨x,rfl,⟨z,rfl,q⟩|⟨i,rfl,a,q⟩⟩:=h
 .exact Ac X4 s σ H _ us Q I r ⟨z,J,q⟩
 .exact eZ X4 s σ H _ us Q I r ⟨i,J,a,q⟩
end L2
namespace Mine
open PySem L2
theorem E1{p:Z3}(h:p:=by show 3≤Z7;decide):p:=h
theorem v9{p:Z3}(h:p:=by show 2≤Z7;decide):p:=h
theorem v8{p:Z3}(h:p:=by show 1≤Z7;decide):p:=h
theorem v7{N ps sc}(h:aC N ps sc:=by exact{rfl,rfl,rfl,by decide +kernel,rfl,by decide +kernel,by decide +kernel}):aC N ps sc:=h
abbrev t8(a:Addr):Option V:=some<|.ref a
abbrev t9(a:Z4):Option V:=some<|.int a
seal PE PA PS PSs PT PTs PG PGs PI
def top(i:Z5):Stmt:=PySem.Challenge.pw_keepsakes_k89_plans_at_the_desk.main.body.getD i<|.Pass {(0),(0),(0),(0)}
abbrev jb:Stmt:=inClass (top 25) 0
abbrev kQ:Stmt:=inClass (top 25) 1
abbrev mq:Stmt:=inClass (top 25) 2
abbrev jW:Stmt:=inClass (top 25) 3
abbrev iy:Stmt:=inClass (top 25) 4
abbrev jM:Stmt:=inClass (top 25) 5
abbrev qt:Stmt:=top 26
abbrev uZ:Stmt:=top 39
abbrev pQ:Stmt:=top 40
abbrev iU:Stmt:=inClass (top 42) 0
abbrev dw:Stmt:=inClass (top 43) 0
abbrev qk:Stmt:=top 45
abbrev jA:Stmt:=top 49
abbrev nB:Stmt:=top 50
abbrev nL:Stmt:=top 51
abbrev iX:Stmt:=inClass (top 57) 0
abbrev n9:Stmt:=inClass (top 57) 1
abbrev oi:Stmt:=inClass (top 57) 2
abbrev iz:Stmt:=inClass (top 57) 6
abbrev jo:Stmt:=inClass (top 72) 0
abbrev pY:Stmt:=top 73
abbrev qY:Stmt:=top 74
abbrev jX:Stmt:=top 75
abbrev pI:Stmt:=top 76
abbrev qV:Stmt:=top 77
abbrev qg:Stmt:=top 78
abbrev pT:Stmt:=top 79
abbrev pR:Stmt:=top 80
abbrev qc:Stmt:=top 81
abbrev nZ:Stmt:=top 83
abbrev sq:Stmt:=top 84
abbrev qb:Stmt:=top 85
abbrev pD:Stmt:=top 89
abbrev kU:Stmt:=top 90
abbrev pW:Stmt:=top 91
abbrev lW:Stmt:=top 92
abbrev nX:Stmt:=top 93
abbrev gU:Stmt:=inClass (top 96) 0
abbrev iT:Stmt:=inClass (top 100) 0
abbrev rD:Stmt:=top 103
abbrev j3:Stmt:=top 104
abbrev iR:Stmt:=inClass (top 115) 0
abbrev jR:Stmt:=inClass (top 115) 1
abbrev kR:Stmt:=inClass (top 115) 2
abbrev mV:Stmt:=inClass (top 115) 3
abbrev kL:Stmt:=inClass (top 115) 6
abbrev kO:Stmt:=inClass (top 115) 8
abbrev iw:Stmt:=inClass (top 115) 16
abbrev iu:Stmt:=inClass (top 115) 18
abbrev mO:Stmt:=inClass (top 115) 20
abbrev rO:Stmt:=top 116
abbrev uQ:Stmt:=top 118
abbrev uI:Stmt:=top 120
abbrev qN:Stmt:=top 121
abbrev qa:Stmt:=top 127
abbrev rH:Stmt:=top 134
abbrev jx:Stmt:=inClass (top 136) 0
abbrev qj:Stmt:=inClass (top 136) 1
abbrev nK:Stmt:=top 138
abbrev nW:Stmt:=top 139
abbrev lQ:Stmt:=top 140
abbrev jT:Stmt:=top 141
abbrev jV:Stmt:=top 142
abbrev nY:Stmt:=top 143
abbrev nG:Stmt:=top 144
abbrev nM:Stmt:=top 145
abbrev nR:Stmt:=top 146
abbrev mG:Stmt:=top 147
abbrev mT:Stmt:=top 148
abbrev jS:Stmt:=top 149
abbrev kB:Stmt:=top 150
def uB:aC ["self","wide"] ["self","wide"] (ay jb):=v7
def eT:aC ["self","changes","place","block","table"] ["self","changes"] (ay kQ):=v7
def zj:aC ["self","day"] ["self","day"] (ay mq):=v7
def jh:aC ["self","one","other","places","day"] ["self","one","other"] (ay jW):=v7
def qJ:aC ["self","place","block"] ["self","place","block"] (ay iy):=v7
def vE:aC ["self","day"] ["self","day"] (ay jM):=v7
def Br:aC ["wide"] ["wide"] (ay qt):=v7
def Ff:aC ["number"] ["number"] (ay uZ):=v7
def fO:aC ["start","day","rows","numbers","place","block","check","number"] ["start","day","rows"] (ay pQ):=v7
def kY:aC ["self","start","day","rows","check","fitting"] ["self","start","day","rows","check"] (ay iU):=v7
def sU:aC ["self","day","rows","check"] ["self","day","rows","check"] (ay dw):=v7
def B7:aC ["days","day"] ["days","day"] (ay qk):=v7
def uq:aC ["word"] ["word"] (ay jA):=v7
def AI:aC ["word"] ["word"] (ay nB):=v7
def sH:aC ["word","parts"] ["word"] (ay nL):=v7
def sV:aC ["self"] ["self"] (ay iX):=v7
def rB:aC ["self","piece","number"] ["self","piece"] (ay n9):=v7
def Ab:aC ["self","number","piece"] ["self","number","piece"] (ay oi):=v7
def sD:aC ["self"] ["self"] (ay iz):=v7
def vd:aC ["self","sizes","weights","rates"] ["self","sizes","weights","rates"] (ay jo):=v7
def BR:aC ["many"] ["many"] (ay pY):=v7
def lD:aC ["task","choices","day","bases","words"] ["task","choices"] (ay qY):=v7
def gM:aC ["choices","bases","day","word"] ["choices"] (ay jX):=v7
def BB:aC ["choices"] ["choices"] (ay pI):=v7
def EB:aC ["task","choices"] ["task","choices"] (ay qV):=v7
def gC:aC ["task","choices","rows","ways","day","base","size"] ["task","choices"] (ay qg):=v7
def Bx:aC ["task","size"] ["task","size"] (ay pT):=v7
def tR:aC ["task","day","size","way","held"] ["task","day","size","way"] (ay pR):=v7
def iA:aC ["task","choices","bound","day","size"] ["task","choices"] (ay qc):=v7
def c6:aC ["task","best","least_cost","leaves","waiting","choices","bound"] ["task"] (ay nZ):=v7
def vY:aC ["days","begin","weights","rates","day"] ["days","begin","weights","rates"] (ay sq):=v7
def Bo:aC ["days","begin","day"] ["days","begin","day"] (ay qb):=v7
def nV:aC ["row","words","told"] ["row"] (ay pD):=v7
def oF:aC ["word","rest","numbers"] ["word","rest"] (ay kU):=v7
def BI:aC ["word","fits"] ["word","fits"] (ay pW):=v7
def zb:aC ["many","form"] ["many","form"] (ay lW):=v7
def Bm:aC ["word","numbers"] ["word","numbers"] (ay nX):=v7
def qD:aC ["self","many"] ["self","many"] (ay gU):=v7
def tw:aC ["self","rules"] ["self","rules"] (ay iT):=v7
def Ei:aC ["text"] ["text"] (ay rD):=v7
def jE:aC ["part","words","numbers"] ["part"] (ay j3):=v7
def sS:aC ["self","wide","rule","seek","each"] ["self","wide","rule","seek","each"] (ay iR):=v7
def vH:aC ["self","changes"] ["self","changes"] (ay jR):=v7
def xM:aC ["self"] ["self"] (ay kR):=v7
def kM:aC ["self","word","piece","number"] ["self","word"] (ay mV):=v7
def g7:aC ["self","shelf","many","mark","next_ones","deed"] ["self","shelf","many"] (ay kL):=v7
def xj:aC ["self"] ["self"] (ay kO):=v7
def qU:aC ["self","shelf"] ["self","shelf"] (ay iw):=v7
def rY:aC ["self","word"] ["self","word"] (ay iu):=v7
def yX:aC ["self","deed"] ["self","deed"] (ay mO):=v7
def En:aC ["shelf","deed"] ["shelf","deed"] (ay rO):=v7
def F4:aC ["things"] ["things"] (ay uQ):=v7
def F2:aC ["store","changes"] ["store","changes"] (ay uI):=v7
def D6:aC ["store","words"] ["store","words"] (ay qN):=v7
def BU:aC ["store","numbers"] ["store","numbers"] (ay qa):=v7
def pM:aC ["store","numbers","task","told"] ["store","numbers"] (ay rH):=v7
def uA:aC ["self","wide","seek","each","rules"] ["self","wide","seek","each","rules"] (ay jx):=v7
def tL:aC ["self","row","told"] ["self","row"] (ay qj):=v7
def zT:aC ["_law_script","_law_k"] ["_law_script","_law_k"] (ay nK):=v7
def rC:aC ["_law_cell_here","_law_k","_law_number"] ["_law_cell_here","_law_k"] (ay nW):=v7
def zd:aC ["_law_cell_here","_law_k"] ["_law_cell_here","_law_k"] (ay lQ):=v7
def vP:aC ["_law_cell_here","_law_wide"] ["_law_cell_here","_law_wide"] (ay jT):=v7
def jg:aC ["_law_choices","_law_weights_here","_law_some"] ["_law_choices","_law_weights_here"] (ay jV):=v7
def gV:aC ["_law_changes_here","_law_wide","_law_base_here","_law_day","_law_places","_law_row","_law_place","_law_block_here"] ["_law_changes_here","_law_wide","_law_base_here","_law_day"] (ay nY):=v7
def jj:aC ["_law_choices","_law_head","_law_base_here","_law_day"] ["_law_choices","_law_head"] (ay nG):=v7
def bX:aC ["_law_changes_here","_law_wide","_law_begin","_law_choices","_law_weights_here","_law_rates_here","_law_total","_law_ways","_law_day","_law_way","_law_base_here","_law_size_here"] ["_law_changes_here","_law_wide","_law_begin","_law_choices","_law_weights_here","_law_rates_here"] (ay nM):=v7
def gT:aC ["_law_told","_law_weights_here","_law_words","_law_figures","_law_sign","_law_day"] ["_law_told","_law_weights_here"] (ay nR):=v7
def iK:aC ["_law_choices","_law_others","_law_order","_law_ours","_law_theirs"] ["_law_choices","_law_others"] (ay mG):=v7
def iL:aC ["_law_cell_here","_law_rates_here","_law_k","_law_number"] ["_law_cell_here"] (ay mT):=v7
def gI:aC ["_law_cell_here","_law_many","_law_weights_here","_law_k","_law_number"] ["_law_cell_here","_law_many"] (ay jS):=v7
def cG:aC ["_law_script","_law_first","_law_wide","_law_count","_law_changes_here","_law_desk","_law_row","_law_marks","_law_many","_law_begin","_law_rates_here","_law_weights_here","_law_numbers","_law_asked","_law_told","_law_plan","_law_cost_here","_law_others","_law_day","_law_some"] ["_law_script"] (ay kB):=v7
def aU{k:Z5}{x:V}{σ:St}(σ':St){H:Hp}{N:St->Hp->Z3}(h:N σ' H)(e:σ.set k (some x)=σ':=by rfl):ng k x σ H N:=by subst e;exact h
def bR{b R:TS}{D:Ends}{σ:St}{H:Hp}(a:St->Hp->Z3)(h:∀N:St->Hp->Z3,(∀σ' H',a σ' H'->N σ' H')->b {D with nx:=N} σ H)(c:∀σ' H',a σ' H'->R D σ' H'):oh b R D σ H:=h (R D) c
def kJ{c:TT}{t u:TS}{D:Ends}{σ:St}{H:Hp}(b:Bool)(P:Hp->Z3)(f:∀Q:Bool->Hp->Z3,(∀H',P H'->Q b H')->c σ H Q)(a:b=Z1->∀H',P H'->t D σ H')(e:b=Z2->∀H',P H'->u D σ H'):tY c t u D σ H:=f _ λH' p=>by
 cases b with
 |true=>exact fS<|a J H' p
 |false=>exact fR<|e J H' p
def xH:∀{fk:fy (Key×V)},nH fk->∃ns:fy Z4,fk.map (·.1)=ns.map Sum.inl
 |[],_=>{[],J}
 |kv::r,h=>by
  let⟨n,hn⟩:=h kv o8;let⟨ns,e⟩:=xH (fk:=r) λx a=>h x (by simp[a])
  exact{n::ns,by rw[ajh,ajh,e,hn]}
def Io{x y w k:Z4}(h0:0≤k)(h1:k<3):∃z,atI [V.int x,V.int y,V.int w] k=some (V.int z)/\(z=x∨z=y∨z=w):=by
 let:k=0∨k=1∨k=2:=by omega
 rcases this with rfl|rfl|rfl
 .exact{x,J,.inl J}
 .exact{y,J,.inr<|.inl J}
 .exact{w,J,.inr<|.inr J}
inductive mj(C:jl)(vs:fy V)(H:Hp)(Q:VK)(E:XK):Z3
 |m (p d:jl) (fl:Z4) (C4:fy (Key×V))(_:vs=[.ref p])(_:iS C H p d fl C4)(_:Q (.int fl) H)
def Gz{c:TT}{t u:TS}{D:Ends}{σ:St}{H:Hp}(e:∀Q:Bool->Hp->Z3,Q Z1 H->Q Z2 H->c σ H Q)(a:t D σ H)(b:u D σ H):tY c t u D σ H:=e _ (fS a)<|fR b
inductive yc(C:jl)(vs:fy V)(H:Hp)(Q:VK)(E:XK):Z3
 |m (p dx:jl) (wd:Z4)(_:vs=[.ref p,.int wd])(_:H p=some (.ins C dx []))(_:(1≤wd/\wd≤40)->∀(ta sa tz se:jl)(H':Hp),bJ C H' p ta sa [tz] [se] wd.toNat [List.replicate wd.toNat 0] [[]]->(∀ b∈[ta,sa,tz,se],H b=Z0)->aV [p] H H'->Q .non H')(_:¬(1≤wd/\wd≤40)->False)
inductive wZ(vs:fy V)(H:Hp)(Q:VK)(E:XK):Z3
 |m (wd:Z4)(_:vs=[.int wd])(_:(1≤wd/\wd≤40)->Q .non H)(_:¬(1≤wd/\wd≤40)->False)
inductive ye(C:jl)(vs:fy V)(H:Hp)(Q:VK)(E:XK):Z3
 |m (p ta sa:jl) (TL SL:fy jl) (wd:Z5) (C2 C3:fy (fy Z4)) (c:Z4×Z4)(_:vs=[.ref p,.int c.1,.int c.2])(_:bJ C H p ta sa TL SL wd C2 C3)(_:gh wd c=Z0->Q .non H)(_:∀x,gh wd c=some (Z1,x)->False)(_:∀x,gh wd c=some (Z2,x)->False)
inductive xF(C:jl)(vs:fy V)(H:Hp)(Q:VK)(E:XK):Z3
 |m (p ta sa:jl) (TL SL:fy jl) (wd:Z5) (C2 C3:fy (fy Z4)) (d:Z4)(_:vs=[.ref p,.int d])(_:bJ C H p ta sa TL SL wd C2 C3)(_:(0≤d/\d<C2.length)->Q .non H)(_:¬(0≤d/\d<C2.length)->False)
inductive uz(C:jl)(vs:fy V)(H:Hp)(Q:VK)(E:XK):Z3
 |m (p ta sa:jl) (TL SL:fy jl) (wd:Z5) (C2 C3:fy (fy Z4)) (d:Z4)(_:vs=[.ref p,.int d])(_:bJ C H p ta sa TL SL wd C2 C3)(_:(0≤d/\d<C2.length)->∀t tab,C2[d.toNat]?=some tab->H t=Z0->Q (.ref t) (Z9 H t (.lst (tab.map Z8))))(_:¬(0≤d/\d<C2.length)->False)
inductive rX(C:jl)(vs:fy V)(H:Hp)(Q:VK)(E:XK):Z3
 |m (p ta sa a:jl) (TL SL:fy jl) (wd:Z5) (C2 C3:fy (fy Z4)) (L:fy V) (chs:fy (Z4×Z4))(_:vs=[.ref p,.ref a])(_:bJ C H p ta sa TL SL wd C2 C3)(_:H a=some (.lst L))(_:fZ H L chs)(_:chs.length≤300)(_:C2.length≤500)(_:a∉foot p ta sa TL SL)(_:dG wd chs=Z0->∀(m d:jl)(H':Hp)(tab:fy Z4),C2[C2.length-1]?=some tab->bJ C H' p ta sa (TL++[m]) (SL++[d]) wd (C2++[nextT tab chs]) (C3++[chs.map Prod.fst])->H m=Z0->H d=Z0->aV (foot p ta sa TL SL) H H'->Q (.int (C2.length:Z4)) H')(_:∀x,dG wd chs=some (Z1,x)->False)(_:∀x,dG wd chs=some (Z2,x)->False)
def iF(C3:fy (fy Z4))(lo hi:Z4)(k:Z4):Z3:=∃(d:Z5)(xs:fy Z4),lo <↥d/\↥d≤hi/\C3[d]?=some xs/\k∈xs
structure mz(wd:Z5)(C3:fy (fy Z4)):Z3 where
 most:wd≤40
 day:∀ xs∈C3,xs.length≤300/\∀ x∈xs,0≤x/\x <(wd:Z4)
inductive qe(C:jl)(vs:fy V)(H:Hp)(Q:VK)(E:XK):Z3
 |m (p ta sa:jl) (TL SL:fy jl) (wd:Z5) (C2 C3:fy (fy Z4)) (one other:Z4)(_:vs=[.ref p,.int one,.int other])(_:bJ C H p ta sa TL SL wd C2 C3)(_:mz wd C3)(_:C2.length≤500)(_:(0≤one/\one<C2.length)->(0≤other/\other<C2.length)->∀(r:jl)(ns:fy Z4)H',H' r=some (.lst (ns.map Z8))->H r=Z0->ns.Pairwise (· < ·)->(∀k,k∈ns↔iF C3 (min one other) (max one other) k)->aj H H'->Q (.ref r) H')(_:∀d,(¬(0≤one/\one<C2.length)/\d=one)∨((0≤one/\one<C2.length)/\¬(0≤other/\other<C2.length)/\d=other)->False)
def kC:∀(m:Z5)(l:fy Z4),l.Nodup->(∀ x∈l,0≤x/\x <↥m)->l.length≤m
 |0,l,_,h=>by
  cases l with
  |nil=>exact aiL _
  |cons x r=>have:=h x o8;omega
 |m+1,l,hn,h=>by
  let b:=kC m (l.erase ↥m) (hn.erase _) λx a=>by
   let h1:=h x<|List.mem_of_mem_erase a;let h2:x≠↥m:=λz=>by rw[z] at a;exact(List.Nodup.not_mem_erase hn) a
   omega
  by_cases c:↥m∈l
  .grind
  .grind
def ae0{wd:Z5}(h:wd≤40){ns:fy Z4}(a:∀ x∈ns,0≤x/\x <↥wd):(dd ns).length≤63:=by
 let:=kC wd (dd ns) (nP _ _) λx h=>a x<|GS.mp h
 omega
def QU{n:Z5}(h:n≤200000):n≤Z7:=ai9 h o7
def F5{α:Type}{xs:fy α}{v:α}(h:xs[xs.length-1]?=some v):atI xs (-1)=some v:=by let a:=(aiH.mp h).1;unfold atI ixN;rwa[aiJ o6,aiN o6,show((-1:Z4) +↥xs.length).toNat=xs.length-1 by omega]
def oq(wd:Z5)(a:fy (Z4×Z4)):Z3:=a.length≤4/\∀ x∈a,0≤x.1/\x.1 <↥wd/\0≤x.2/\x.2<2 ^ 64
def HA{wd:Z5}{a:fy (Z4×Z4)}(h:oq wd a):dG wd a=Z0:=by grind [oq,dG,gh]
def IV(ts:fy (fy Z4)):fy Z4:=(ts[ts.length-1]?).getD []
def cP(a:fy (fy (Z4×Z4))):fy (fy Z4):=[]::a.map (List.map Prod.fst)
def EL(a:fy (fy (Z4×Z4)))(c:fy (Z4×Z4)):cP (a++[c])=cP a++[c.map Prod.fst]:=by unfold cP;simp
def last_of{ts:fy (fy Z4)}{t:fy Z4}(h:ts[ts.length-1]?=some t):IV ts=t:=by unfold IV;rw[h];rfl
def TabOk(wd:Z5)(t:fy Z4):Z3:=t.length=wd/\∀ v∈t,0≤v
def Cj{wd:Z5}:∀{a:fy (Z4×Z4)}{t:fy Z4},TabOk wd t->(∀ c∈a,0≤c.2)->TabOk wd (nextT t a)
 |[],t,h,_=>h
 |c::r,t,h,hc=>by
  show TabOk wd (nextT (t.set c.1.toNat c.2) r);refine Cj {by rw[amD];exact h.1,λv e=>?_} λx b=>hc x (by simp[b])
  rcases List.mem_or_eq_of_mem_set e with z|z
  .exact h.2 v z
  .grind
def QE{wd:Z5}{a:fy (fy (Z4×Z4))}(i:wd≤40)(h:∀ f∈a,oq wd f):mz wd (cP a):=⟨i,λxs b=>by
 unfold cP at b;rcases aiU.mp b with rfl|b
 .grind
 .let⟨f,e,rfl⟩:=aje.mp b;refine{by rw[aiE];let:=(h f e).1;omega,λx b=>?_};let⟨c,g,rfl⟩:=aje.mp b;let:=(h f e).2 c g;omega⟩
def jk(a:fy Z4):fy (Z5×Z5):=a.zipIdx.map λq=>(q.2,q.1.toNat)
def rm(a:fy Z4):(jk a).length=a.length:=by unfold jk;simp
def IK{a:fy Z4}{i:Z5}{v:Z4}(h:a[i]?=some v):(jk a)[i]?=some (i,v.toNat):=by grind [jk]
def enum_rows{H0 H:Hp}{a:fy Z4}{ts:fy jl}(h:EnL H0 H (a.map Z8) ts)(f:ts.length =(a.map Z8).length)(h0:∀ v∈a,0≤v):dO H (ts.map V.ref) (jk a):=
 ⟨by rw[aiE,f,aiE,rm],λi v e=>by rw[aiR] at e;let⟨t,j,rfl⟩:=aja.mp e;let⟨_,x,b,g⟩:=h i t j;rw[aiR] at b;let⟨z,c,rfl⟩:=aja.mp b;let:=h0 z<|aiQ c;exists t,1,IK c;rw[g];show some (HO.tup [V.int ↥i,V.int z])=some (HO.tup [V.int ↥i,V.int ↥z.toNat]);rw[Int.toNat_of_nonneg this]⟩
def Ip{wd:Z5}{ns:fy Z4}(h:ns.Pairwise (· < ·))(b:∀ x∈ns,0≤x/\x <↥wd):ns.length≤wd:=kC wd ns (h.imp λa=>by omega) b
def CJ{wd:Z5}{C3:fy (fy Z4)}(h:mz wd C3){lo hi k:Z4}(b:iF C3 lo hi k):0≤k/\k <↥wd:=by let⟨d,xs,_,_,e,a⟩:=b;exact(h.day xs<|aiQ e).2 k a
def okD(n:Z5)(d:Z4):Z3:=0≤d/\d <↥n
structure uo(C:jl)(H:Hp)(p:jl)(wd:Z5)(C2 C3:fy (fy Z4)):Z3 where
 D:∃ta sa TL SL,bJ C H p ta sa TL SL wd C2 C3
 S:mz wd C3
 T:∀ t∈C2,TabOk wd t
 n:C2.length≤500
def uo.keep{C:jl}{H H':Hp}{p:jl}{wd:Z5}{C2 C3:fy (fy Z4)}(h:uo C H p wd C2 C3)(s:aj H H'):uo C H' p wd C2 C3:=let ⟨ta,sa,TL,SL,D⟩:=h.D;{{ta,sa,TL,SL,D.same s},h.S,h.T,h.n}
inductive pJ(C CW CG:jl)(vs:fy V)(H:Hp)(Q:VK)(E:XK):Z3
 |m (p:jl) (wd:Z5) (C2 C3:fy (fy Z4)) (day:Z4)(_:vs=[.ref p,.int day])(_:uo C H p wd C2 C3)(_:okD C2.length day->∀(q:jl)(tab:fy Z4)H',C2[day.toNat]?=some tab->PAt CW CG H' q Z1 0 day.toNat (jk tab) (DX Z1 0 day.toNat (jk tab):Z5)->aj H H'->Q (.ref q) H')(_:¬okD C2.length day->False)
def QM(C4:fy (Key×V))(k:Key)(v:V):(putK C4 k v).length=if (bD C4 k).isSome=Z1 then C4.length else C4.length+1:=by
 unfold putK;rw[gO];split
 .simp
 .simp
inductive yk(vs:fy V)(H:Hp)(Q:VK)(E:XK):Z3
 |m (n:Z4)(_:vs=[.int n])(_:1≤n)(_:n≤7)(_:Q .non H)
inductive uP(K:Frag)(vs:fy V)(H:Hp)(Q:VK)(E:XK):Z3
 |m (tu:Bool) (c:jl) (ws:fy Z6)(_:vs=[.ref c])(_:SqB K tu H c (ws.map V.str))(_:ws.length≤7)(_:∀(d:jl)(C4:fy (Key×V))H',H' d=some (.dK C4)->H d=Z0->cy C4 ws->aj H H'->Q (.ref d) H')
inductive pN(K:Frag)(C:jl)(vs:fy V)(H:Hp)(Q:VK)(E:XK):Z3
 |m (p c:jl) (tu:Bool) (C1:fy (fy Z4)) (C0 C7:fy Z4) (ws:fy Z6)(_:vs=[.ref p,.ref c])(_:gf C H p C1 C0 C7)(_:SqB K tu H c (ws.map V.str))(_:ws.length≤C0.length)(_:C1.length=C0.length)(_:C0.length≤7)(_:∀(l:jl)H',H' l=some (.lst ((bP C0 ws).map V.str))->H l=Z0->aj H H'->Q (.ref l) H')
structure Fit(C1:fy (fy Z4))(C0:fy Z4)(r0 r1 r2 r3:Z4):Z3 where
 n7:C1.length≤7
 nw:C0.length=C1.length
 row:∀(i:Z5)xs,C1[i]?=some xs->xs.length=i+1
 b1:∀ xs∈C1,∀ x∈xs,0≤x/\x≤1000000000000
 b2:∀ x∈C0,0≤x/\x≤1000000000000
 b3:∀ x∈[r0,r1,r2,r3],0≤x/\x≤1000000000000
def Fit.sz{C1:fy (fy Z4)}{C0:fy Z4}{r0 r1 r2 r3:Z4}(F:Fit C1 C0 r0 r1 r2 r3)(ws:fy Z6){d:Z5}(f:d<C1.length):∃row,C1[d]?=some row/\row[(bB ws d+1).toNat]?=some (szD C1 ws d)/\0≤szD C1 ws d/\szD C1 ws d≤1000000000000:=by
 let e:C1[d]?=some C1[d]:=aiG f;let g:=F.row d _ e;let b1:=mY ws d;let b2:=zP ws d;let b:(bB ws d+1).toNat<C1[d].length:=by omega
 let a:C1[d][(bB ws d+1).toNat]?=some C1[d][(bB ws d+1).toNat]:=aiG b;let c:szD C1 ws d=C1[d][(bB ws d+1).toNat]:=by unfold szD;rw[ai2,ai2,e,akD,a,akD]
 exists C1[d],e,(by rw[a,c]);rw[c];exact F.b1 _ (ajF f) _<|ajF b
inductive xw(C:jl)(vs:fy V)(H:Hp)(Q:VK)(E:XK):Z3
 |m (p:jl) (C1:fy (fy Z4)) (C0:fy Z4) (r0 r1 r2 r3 size:Z4)(_:vs=[.ref p,.int size])(_:gf C H p C1 C0 [r0,r1,r2,r3])(_:Fit C1 C0 r0 r1 r2 r3)(_:Q (.int (r2+r3*size)) H)
inductive xE(C:jl)(vs:fy V)(H:Hp)(Q:VK)(E:XK):Z3
 |m (p:jl) (C1:fy (fy Z4)) (C0:fy Z4) (r0 r1 r2 r3 size way:Z4) (d:Z5)(_:vs=[.ref p,.int (d:Z4),.int size,.int way])(_:gf C H p C1 C0 [r0,r1,r2,r3])(_:Fit C1 C0 r0 r1 r2 r3)(_:d<C1.length)(_:0≤size)(_:size≤1000000000000)(_:Q (.int ((r0+r1*((C1.length:Z4) -(d:Z4)))*size+C0.getD d 0*way)) H)
inductive zF(K:Frag)(vs:fy V)(H:Hp)(Q:VK)(E:XK):Z3
 |m (tu:Bool) (c:jl) (ws:fy Z6)(_:vs=[.ref c])(_:SqB K tu H c (ws.map V.str))(_:VW ws)(_:ws.length≤7)(_:∀(l:jl)H',H' l=some (.lst (pq ws))->H l=Z0->aj H H'->Q (.ref l) H')
structure i6(H:Hp)(L:fy V)(c:Z5->Z4):Z3 where
 get:∀(i:Z5)v,L[i]?=some v->∃t x y,v=V.ref t/\H t=some (.tup [x,y,.int (c i)])
def i6.mono{H H':Hp}{L:fy V}{c:Z5->Z4}(R:i6 H L c)(h:∀t xs,H t=some (.tup xs)->H' t=some (.tup xs)):i6 H' L c:=
 ⟨λi v e=>let ⟨t,x,y,a,b⟩:=R.get i v e;{t,x,y,a,h _ _ b}⟩
def i6.snoc{H:Hp}{L:fy V}{c:Z5->Z4}(R:i6 H L c){t:jl}{x y:V}(h:H t=some (.tup [x,y,.int (c L.length)])):i6 H (L++[.ref t]) c:=
 ⟨λi v e=>by
  by_cases hi:i<L.length
  .rw[aiM hi] at e;exact R.get i v e
  .rw[aiO o6] at e;let a:i-L.length=0:=by let:=(aiH.mp e).1;simp at this;omega
   rw[a] at e;let e:V.ref t=v:=⇑e
   let:i=L.length:=by omega
   subst this;exact⟨t,x,y,e.symm,h⟩⟩
inductive uD(K:Frag)(C:jl)(vs:fy V)(H:Hp)(Q:VK)(E:XK):Z3
 |m (p c:jl) (tu:Bool) (C1:fy (fy Z4)) (C0:fy Z4) (r0 r1 r2 r3:Z4) (ws:fy Z6)(_:vs=[.ref p,.ref c])(_:gf C H p C1 C0 [r0,r1,r2,r3])(_:Fit C1 C0 r0 r1 r2 r3)(_:SqB K tu H c (ws.map V.str))(_:VW ws)(_:ws.length≤C1.length)(_:∀(l:jl)(L:fy V)H',H' l=some (.lst L)->L.length=ws.length->i6 H' L (bA C1 C0 r0 r1 r2 r3 ws)->aj H H'->Q (.ref l) H')
inductive uC(K:Frag)(C:jl)(vs:fy V)(H:Hp)(Q:VK)(E:XK):Z3
 |m (p c:jl) (tu:Bool) (C1:fy (fy Z4)) (C0:fy Z4) (r0 r1 r2 r3:Z4) (ws:fy Z6)(_:vs=[.ref p,.ref c])(_:gf C H p C1 C0 [r0,r1,r2,r3])(_:Fit C1 C0 r0 r1 r2 r3)(_:SqB K tu H c (ws.map V.str))(_:VW ws)(_:ws.length≤C1.length)(_:∀H',aj H H'->Q (.int (sumTo (bA C1 C0 r0 r1 r2 r3 ws) ws.length)) H')
def Fit.GP{C1:fy (fy Z4)}{C0:fy Z4}{r0 r1 r2 r3:Z4}(F:Fit C1 C0 r0 r1 r2 r3){d:Z5}(c:d<C1.length):∃row,C1[d]?=some row/\row≠[]/\C1.getD d []=row/\row.length≤7/\0≤gc row/\gc row≤1000000000000:=by
 let e:C1[d]?=some C1[d]:=aiG c;let b:=F.row d _ e;let a:C1[d]≠[]:=λz=>by rw[z] at b;simp at b
 let f:=F.n7;exists C1[d],e,a,by rw[ai2,e];rfl,o6;exact F.b1 _ (ajF c) _ (lq a).1
def Fit.sz0{C1:fy (fy Z4)}{C0:fy Z4}{r0 r1 r2 r3:Z4}(F:Fit C1 C0 r0 r1 r2 r3)(ws:fy Z6)(d:Z5):0≤szD C1 ws d:=by
 by_cases a:d<C1.length
 .let⟨_,_,_,h,_⟩:=F.sz ws a;exact h
 .unfold szD;rw[show C1.getD d []=[] by rw[ai2,ajx o6];rfl];simp
def Fit.Iz{C1:fy (fy Z4)}{C0:fy Z4}{r0 r1 r2 r3:Z4}(F:Fit C1 C0 r0 r1 r2 r3)(ws:fy Z6)(i:Z4):0≤gm C1 r2 r3 ws i:=by
 let b2:=F.b3 r2 o8;let b3:=F.b3 r3 o8;unfold gm wyI;split
 .exact ajM _
 .refine vv (λd=>?_) _ _;let:=ajJ b3.1<|F.sz0 ws d;unfold xD;omega
def Fit.wt0{C1:fy (fy Z4)}{C0:fy Z4}{r0 r1 r2 r3:Z4}(F:Fit C1 C0 r0 r1 r2 r3)(d:Z5):0≤C0.getD d 0:=by
 rw[ai2];cases e:C0[d]? with
 |none=>exact ajM _
 |some w=>exact(F.b2 w<|aiQ e).1
def Fit.JQ{C1:fy (fy Z4)}{C0:fy Z4}{r0 r1 r2 r3:Z4}(F:Fit C1 C0 r0 r1 r2 r3)(ws:fy Z6){d:Z5}(a:d<C1.length):0≤bA C1 C0 r0 r1 r2 r3 ws d:=by
 let b0:=F.b3 r0 o8;let b1:=F.b3 r1 o8;unfold bA;split
 .exact ajM _
 .let h1:=ajJ b1.1 (show↥0≤↥C1.length -↥d by omega);let h2:=ajJ (show 0≤r0+r1*(↥C1.length -↥d) by omega)<|F.sz0 ws d;let h3:=ajJ (F.wt0 d) (show 0≤cI C1 r2 r3 ws d by rw[←m7];exact F.Iz ws d);omega
def Fit.low{C1:fy (fy Z4)}{C0:fy Z4}{r0 r1 r2 r3:Z4}(F:Fit C1 C0 r0 r1 r2 r3){ws:fy Z6}(hn:VN C0 ws){d:Z5}(f:d<C1.length)(j:d<ws.length):uG C1 C0 r0 r1 r2 r3 d≤bA C1 C0 r0 r1 r2 r3 ws d:=by
 unfold uG;split
 .rename_i h;let b0:=F.b3 r0 o8;let b1:=F.b3 r1 o8;let b3:=F.b3 r3 o8;let e:ws[d]?≠some wN:=λz=>by let:=hn d z;omega
  unfold bA;rw[aiJ e];let⟨row,b,a,g,l⟩:=F.sz ws f;let c:gc (C1.getD d [])≤szD C1 ws d:=by rw[ai2,b];exact(lq<|anv<|aiQ a).2 _ (aiQ a)
  let i:=ajJ b1.1 (show↥0≤↥C1.length -↥d by omega);let h1:=akO c (show 0≤r0+r1*(↥C1.length -↥d) by omega);let h2:=akO c b3.1;let h3:r2+r3*gc (C1.getD d [])≤cI C1 r2 r3 ws d:=by rw[ym];let:=F.Iz ws<|bB ws d;omega
  let h4:=akO h3<|F.wt0 d;omega
 .exact F.JQ ws f
def Fit.mono{C1:fy (fy Z4)}{C0:fy Z4}{r0 r1 r2 r3:Z4}(F:Fit C1 C0 r0 r1 r2 r3){ws:fy Z6}(hn:VN C0 ws)(k:Z5):sumTo (bdD C1 C0 r0 r1 r2 r3 (ws.take k)) C1.length≤sumTo (bdD C1 C0 r0 r1 r2 r3 ws) C1.length:=by
 refine wg λd a=>?_
 unfold bdD;by_cases h1:d <(ws.take k).length
 .let h2:d<k/\d<ws.length:=by rw[aiV] at h1;omega
  rw[aiN h1,aiN h2.2,DW h2.1];exact ajM _
 .rw[aiJ h1];by_cases h2:d<ws.length
  .rw[aiN h2];exact F.low hn a h2
  .rw[aiJ h2];exact ajM _
def Cf{C1:fy (fy Z4)}{C0:fy Z4}{r0 r1 r2 r3:Z4}{ws:fy Z6}(h:ws.length=C1.length):sumTo (bdD C1 C0 r0 r1 r2 r3 ws) C1.length=sumTo (bA C1 C0 r0 r1 r2 r3 ws) ws.length:=by rw[h];exact nI λd a=>aiN o6
def Ga{C1:fy (fy Z4)}{C0:fy Z4}{r0 r1 r2 r3:Z4}(F:Fit C1 C0 r0 r1 r2 r3){ws:fy Z6}:0≤sumTo (bdD C1 C0 r0 r1 r2 r3 ws) C1.length:=by
 refine sf λd a=>?_
 unfold bdD;split
 .exact F.JQ ws a
 .unfold uG;split
  .let⟨row,_,_,e,_,b,_⟩:=F.GP a;rw[e];let b0:=F.b3 r0 o8;let b1:=F.b3 r1 o8;let b2:=F.b3 r2 o8;let b3:=F.b3 r3 o8;let c:=ajJ b1.1 (show↥0≤↥C1.length -↥d by omega);let h1:=ajJ (show 0≤r0+r1*(↥C1.length -↥d) by omega) b;let h2:=ajJ b3.1 b;let h3:=ajJ (F.wt0 d) (show 0≤r2+r3*gc row by omega);omega
  .exact ajM _
inductive ue(K:Frag)(C:jl)(vs:fy V)(H:Hp)(Q:VK)(E:XK):Z3
 |m (p c:jl) (tu:Bool) (C1:fy (fy Z4)) (C0:fy Z4) (r0 r1 r2 r3:Z4) (ws:fy Z6)(_:vs=[.ref p,.ref c])(_:gf C H p C1 C0 [r0,r1,r2,r3])(_:Fit C1 C0 r0 r1 r2 r3)(_:SqB K tu H c (ws.map V.str))(_:VW ws)(_:ws.length≤C1.length)(_:∀H',aj H H'->Q (.int (sumTo (bdD C1 C0 r0 r1 r2 r3 ws) C1.length)) H')
abbrev bdF(C1:fy (fy Z4))(C0:fy Z4)(r0 r1 r2 r3:Z4)(ws:fy Z6):Z4:=sumTo (bdD C1 C0 r0 r1 r2 r3 ws) C1.length
abbrev uu(C1:fy (fy Z4))(C0:fy Z4)(r0 r1 r2 r3:Z4):=visit (bP C0)<|bdF C1 C0 r0 r1 r2 r3
inductive uW(C:jl)(vs:fy V)(H:Hp)(Q:VK)(E:XK):Z3
 |m (p:jl) (C1:fy (fy Z4)) (C0:fy Z4) (r0 r1 r2 r3:Z4)(_:vs=[.ref p])(_:gf C H p C1 C0 [r0,r1,r2,r3])(_:Fit C1 C0 r0 r1 r2 r3)(_:∀(t bt ll:jl)(LL:fy jl)(lv:fy Lf)(x:Lf)H',H' t=some (.tup [.ref bt,.int x.2,.ref ll])->H' bt=some (.tup (x.1.map V.str))->H' ll=some (.lst (LL.map V.ref))->H ll=Z0->iI H' LL lv->uu C1 C0 r0 r1 r2 r3 (C1.length+1) [] Z0 =(lv,some x)->lv.length≤390625->aj H H'->Q (.ref t) H')
def zS:∀{C4:fy (Key×V)}{k:Key}{v:V},bD C4 k=some v->(k,v)∈C4
 |[],k,v,h=>by rw[Ih] at h;cases h
 |kv::r,k,v,h=>by
  by_cases e:kv.1=k
  .rw[dY e] at h;cases h;subst e;simp
  .rw[dX e] at h;exact aiZ _<|zS h
def cz.has{C4:fy (Key×V)}{S:Z4->Z3}(h:cz C4 S)(i:Z4):(∃v,((Sum.inl i:Key),v)∈C4)↔S i:=by
 rw[←h.val i];constructor
 .rintro⟨v,a⟩;rw[De h.nd a];rfl
 .intro hs;let⟨v,a⟩:=akB.mp hs;exact{v,zS a}
def cz.ns{C4:fy (Key×V)}{S:Z4->Z3}(h:cz C4 S):∃ns:fy Z4,C4.map (·.1)=ns.map Sum.inl/\ns.Nodup/\∀i,i∈ns↔S i:=by
 let⟨ns,e⟩:=xH h.ur;let hn:=h.nd;rw[e] at hn;refine{ns,e,(alw.mp hn).imp λa b=>a<|congrArg Sum.inl b,λi=>?_};rw[←cz.has h i];constructor
 .intro hi;let:(Sum.inl i:Key)∈C4.map (·.1):=by grind
  let⟨⟨k,v⟩,f,c⟩:=aje.mp this;let c:k=Sum.inl i:=c;subst c;exact⟨v,f⟩
 .rintro⟨v,l⟩;let:(Sum.inl i:Key)∈ns.map Sum.inl:=by grind
  let⟨j,g,c⟩:=aje.mp this;rwa[←akY c]
def cz.iff{C4:fy (Key×V)}{S T:Z4->Z3}(h:cz C4 S)(e:∀i,S i↔T i):cz C4 T:={h.nd,h.ur,λi=>(h.val i).trans<|e i}
def QF{C4:fy (Key×V)}{S:Z4->Z3}{wd:Z5}(h:cz C4 S)(c:∀i,S i->0≤i/\i <↥wd):C4.length≤wd:=by
 let⟨ns,e,hn,b⟩:=cz.ns h;let:=kC wd ns hn λx a=>c x<|(b x).mp a
 let:=congrArg List.length e;simp at this;omega
def IG{C3:fy (fy Z4)}{b i:Z5}{xs:fy Z4}(h:C3[b+1+i]?=some xs)(k:Z4):iF C3 ↥b ((b +(i+1):Z5):Z4) k↔iF C3 ↥b ((b+i:Z5):Z4) k∨k∈xs:=by
 constructor
 .rintro⟨d,ys,h1,h2,h3,h4⟩;by_cases e:d=b+1+i
  .subst e;rw[h] at h3;cases h3;exact .inr h4
  .exact .inl ⟨d,ys,h1,o6,h3,h4⟩
 .rintro(⟨d,ys,h1,h2,h3,h4⟩|h4)
  .exact⟨d,ys,h1,o6,h3,h4⟩
  .exact{b+1+i,xs,o6,o6,h,h4}
def WrN(C3:fy (fy Z4))(lo hi:Z4)(n:Z5):Z3:=∃ns:fy Z4,ns.Pairwise (· < ·)/\(∀k,k∈ns↔iF C3 lo hi k)/\ns.length=n
def WrN.one{C3:fy (fy Z4)}{lo hi:Z4}{n m:Z5}(h:WrN C3 lo hi n)(h':WrN C3 lo hi m):n=m:=by
 let⟨a,f,c,e⟩:=h;let⟨b,b1,b2,b3⟩:=h';let:a=b:=zC f b1 λk=>by rw[c,b2]
 rw[←e,←b3,this]
def Fo{l:fy Z4}(h:l.Nodup):∃e:fy Z4,e.Perm l/\e.Pairwise (· < ·):=by exists l.mergeSort λa b=>decide (a≤b),anj _ _;let hs:=List.pairwise_mergeSort (le:=λa b:Int=>decide (a≤b)) (λa b c h1 h2=>by simp at *;omega) (λa b=>by simp;omega) l;let hn:(l.mergeSort (λa b=>decide (a≤b))).Nodup:=(anj _ _).nodup_iff.mpr h;exact(hs.and hn).imp λ⟨a,b⟩=>by simp at a;omega
def cz.wr{C4:fy (Key×V)}{C3:fy (fy Z4)}{lo hi:Z4}(h:cz C4 (λk=>iF C3 lo hi k)):WrN C3 lo hi C4.length:=by let⟨ns,h1,h2,h3⟩:=cz.ns h;let⟨a,b,c⟩:=Fo h2;let:=congrArg List.length h1;rw[aiE,aiE] at this;exact{a,c,λk=>by rw[b.mem_iff,h3 k],by rw[b.length_eq];omega}
def Ow(wd:Z5)(C3:fy (fy Z4))(C6:Z4)(d:Z5)(row:fy Z4):Z3:=row.length=d+1/\row[0]?=some ↥wd/\∀b:Z5,b<d->∃n:Z5,row[b+1]?=some ↥n/\WrN C3 (C6+b) (C6+d) n
def i7(wd:Z5)(C3:fy (fy Z4))(C6:Z4)(C1:fy (fy Z4)):Z3:=∀(d:Z5)row,C1[d]?=some row->Ow wd C3 C6 d row
def WC(wd:Z5)(C3:fy (fy Z4))(C6 b:Z4)(d n:Z5):Z3:=(b = -1->n=wd)/\(b≠-1->WrN C3 (C6+b) (C6+d) n)
def K1{wd:Z5}{C3:fy (fy Z4)}{C6:Z4}{C1:fy (fy Z4)}(h:i7 wd C3 C6 C1){ws:fy Z6}{d n:Z5}(c:d<C1.length)(hs:WC wd C3 C6 (bB ws d) d n):szD C1 ws d =↥n:=by
 let e:C1[d]?=some C1[d]:=aiG c;let⟨h1,h2,h3⟩:=h d _ e;unfold szD;rw[ai2,ai2,e,akD];rcases iG ws d with a|⟨i,a,hi,_⟩
 .rw[a,show((-1:Z4)+1).toNat=0 from J,h2,hs.1 a];rfl
 .let⟨m,b,f⟩:=h3 i hi;let:=hs.2 o6;rw[a] at this;rw[a,show(↥i+1).toNat=i+1 by omega,b,WrN.one this f];rfl
def HH{α:Type}{l:fy α}{x y:α}{i:Z5}(e:(l++[x])[i]?=some y):(i<l.length/\l[i]?=some y)∨(i=l.length/\y=x):=by grind
inductive qu(CD:jl)(vs:fy V)(H:Hp)(Q:VK)(E:XK):Z3
 |m (q:jl) (wd:Z5) (C2 C3:fy (fy Z4)) (C6:Z4) (d:Z5)(_:vs=[.ref q,.int C6,.int (d:Z4)])(_:uo CD H q wd C2 C3)(_:d≤20)(_:0≤C6)(_:C6+d<C2.length)(_:∀(l:jl)(row:fy Z4)H',H' l=some (.lst (row.map Z8))->H l=Z0->Ow wd C3 C6 d row->aj H H'->Q (.ref l) H')
def rkW(w:Z6):Z4:=if w=wN then 0 else if w=wW then 1 else if w=wS then 2 else 3
def vp{α S L:Type}{g:α->S->fy L×S}{I:S->Z3}:∀{as:fy α}{s:S},(∀ a∈as,∀s,I s->I (g a s).2)->I s->I (vL g as s).2
 |[],_,_,hs=>hs
 |a::as,s,h,hs=>vp (as:=as) (λb c=>h b<|aiZ _ c)<|h a ajN s hs
def AA{a b:fy Z4}(h:Le a b):∀p:fy Z4,Le (p++a) (p++b)
 |[]=>h
 |x::p=>by show HT.lexLt (x ::(p++b)) (x ::(p++a))=Z2;rw[HT.gr,aiN rfl];exact AA h p
def Rv{x y:Z4}(h:x<y)(a b:fy Z4):Le (x::a) (y::b):=by show HT.lexLt (y::b) (x::a)=Z2;rw[HT.gr,aiJ o6];exact aiX o6
section
variable{nx:fy Z6->fy Z6}{bd:fy Z6->Z4}
def yJ:∀(f:Z5)(p:fy Z6)(b:nt Lf),(visit nx bd f p b).2=b∨∃r c,(visit nx bd f p b).2=some (p++r,c)
 |0,p,b=>.inl J
 |f+1,p,b=>by
  unfold visit;split
  .exact .inl J
  .split
   .exact .inr {[],_,by rw[akr]}
   .refine vp (I:=λs:nt Lf=>s=b∨∃r c,s=some (p++r,c)) (λa _ s hs=>?_) (.inl J);rcases yJ f (p++[a]) s with e|⟨r,c,e⟩
    .rw[e];exact hs
    .exact .inr {a::r,c,by rw[e,aky];rfl}
def yo{ws:fy Z6}(n:∀k w,ws[k]?=some w->w∈nx (ws.take k))(l:nx ws=[])(O:∀k,bd (ws.take k)≤bd ws)(hs:∀p,(nx p).Pairwise λa b=>rkW a<rkW b):∀(f k:Z5)(b:nt Lf),k≤ws.length->ws.length<f+k->∃x,(visit nx bd f (ws.take k) b).2=some x/\x.2≤bd ws/\(x.2=bd ws->b=some x∨Le (x.1.map rkW) (ws.map rkW))
 |0,k,b,h1,h2=>by omega
 |f+1,k,b,h1,h2=>by
  unfold visit;split
  .rename_i H;cases b with
   |none=>cases H
   |some y=>exact{y,J,amt (ajn H)<|O k,λ_=>.inl J}
  .split
   .rename_i S;let C:k=ws.length:=by
     rcases amu k ws.length with z|z
     .let:=n k _<|aiG z;rw[S] at this;cases this
     .omega
    let tl:ws.take k=ws:=ajB o6;rw[tl];exact{1,ajM _,λ_=>.inr<|Le.refl _}
   .rename_i B;by_cases C:k<ws.length
    .let e:ws[k]?=some ws[k]:=aiG C;let⟨i,h,F⟩:=List.append_of_mem<|n k _ e;let tk:ws.take k++[ws[k]]=ws.take (k+1):=by rw[ai1,e];rfl
     let u:ws=ws.take k++ws[k]::ws.drop (k+1):=by rw[←akz C,alH]
     let m:=hs<|ws.take k;rw[F] at m ⊢;let A:=(List.pairwise_append.mp m).2.2;let h0:∀s,s =(vL (λw=>visit nx bd f (ws.take k++[w])) i b).2->s=b∨∃ w∈i,∃r c,s=some (ws.take k++w::r,c):=λs es=>by
      rw[es];refine vp (I:=λs:nt Lf=>s=b∨∃ w∈i,∃r c,s=some (ws.take k++w::r,c)) (λa ha s hs=>?_)<|.inl J;rcases yJ (nx:=nx) (bd:=bd) f (ws.take k++[a]) s with e|⟨r,c,e⟩
      .rw[e];exact hs
      .exact .inr {a,ha,r,c,by rw[e,aky];rfl}
     rw[sr];generalize hb1:(vL (λw=>visit nx bd f (ws.take k++[w])) i b).2=b1;let t:=h0 b1 hb1.symm;let⟨x,Y,v,q⟩:=yo n l O hs f (k+1) b1 o6 o6;let hg:=fL.list (g:=λw=>visit nx bd f<|ws.take k++[w]) (λw s=>pS f _ s) h<|some x;let U:(vL (λw=>visit nx bd f (ws.take k++[w])) (ws[k]::h) b1).2 =(vL (λw=>visit nx bd f (ws.take k++[w])) h (some x)).2:=by show(vL _ h (visit nx bd f (ws.take k++[ws[k]]) b1).2).2=_;rw[tk,Y]
     show ∃y,(vL (λw=>visit nx bd f<|ws.take k++[w]) (ws[k]::h) b1).2=some y/\_;rw[U];let fin:x.2=bd ws->b=some x∨Le (x.1.map rkW) (ws.map rkW):=λex=>by
      rcases q ex with z|z
      .rcases t with o|⟨w,hw,r,c,o⟩
       .exact .inl (by rwa[←o])
       .rw[z] at o;cases o;refine .inr ?_;let L:=congrArg (List.map rkW) u;rw[ajb,ajh] at L;rw[L,ajb,ajh];exact AA (Rv (A w hw _ ajN) _ _) _
      .exact .inr z
     rcases hg.pos with z|⟨y,j,z,_,_,z2⟩
     .exact⟨x,z,v,fin⟩
     .let:=z2 x rfl;exact{y,z,o6,λe=>by omega}
    .let tl:ws.take k=ws:=ajB o6;exact absurd (by rwa[tl]) B
end
def vV{nx:fy Z6->fy Z6}{bd:fy Z6->Z4}{G:Lf->Z3}{W:fy Z6->Z3}(e:∀ws w,W ws->w∈nx ws->W (ws++[w]))(c:∀ws,W ws->nx ws=[]->G (ws,bd ws)):∀(f:Z5)(ws:fy Z6)(b:nt Lf),W ws->(∀y,b=some y->G y)->∀y,(visit nx bd f ws b).2=some y->G y
 |0,ws,b,_,h=>h
 |f+1,ws,b,hw,h=>by
  unfold visit;split
  .exact h
  .split
   .rename_i hn;intro y g;let:(ws,bd ws)=y:=aiY g;rw[←this];exact c ws hw hn
   .exact vp (I:=λb:nt Lf=>∀y,b=some y->G y) (λw a s hs=>vV e c f (ws++[w]) s (e ws w hw a) hs) h
def Wd4(w:Z6):Z3:=w=wN∨w=wW∨w=wS∨w=wL
def gH(C0:fy Z4)(ws:fy Z6):Z3:=∀k w,ws[k]?=some w->w∈bP C0 (ws.take k)
def gH.snoc{C0:fy Z4}{ws:fy Z6}{w:Z6}(h:gH C0 ws)(a:w∈bP C0 ws):gH C0 (ws++[w]):=λk x e=>by
 rcases amc k ws.length with c|c|c
 .rw[aiM c] at e;rw[ajX o6];exact h k x e
 .subst c;rw[aiO<|aiL _] at e;simp at e;subst e;rwa[ajX<|aiL _,ai8]
 .rw[ajx (by simp;omega)] at e;cases e
def gH.ok{C0:fy Z4}{ws:fy Z6}(h:gH C0 ws):∀k,VW (ws.take k)/\VN C0 (ws.take k)
 |0=>⟨VW.nil,VN.nil⟩
 |k+1=>by
  let⟨h1,h2⟩:=h.ok k;cases e:ws[k]? with
  |none=>have f:=ami.mp e;rw[ajB o6] at h1 h2 ⊢;exact⟨h1,h2⟩
  |some w=>let⟨c,b,a⟩:=jr<|h k w e;rw[ai1,e];exact{h1.snoc a,h2.snoc b a}
def gH.vw{C0:fy Z4}{ws:fy Z6}(h:gH C0 ws):VW ws:=by let:=(h.ok ws.length).1;rwa[ai8] at this
def gH.vn{C0:fy Z4}{ws:fy Z6}(h:gH C0 ws):VN C0 ws:=by let:=(h.ok ws.length).2;rwa[ai8] at this
def Qc{a:Z4}{ws:fy Z6}{w:Z6}(h:w∈cE a ws):Wd4 w:=by unfold cE at h;unfold Wd4;grind
def gH.wd{C0:fy Z4}{ws:fy Z6}(h:gH C0 ws):∀ w∈ws,Wd4 w:=λw b=>by let⟨k,a,rfl⟩:=akG b;let⟨c,_,e⟩:=jr<|h k _<|aiG a;exact Qc e
def Du:rkW wN=0/\rkW wW=1/\rkW wS=2/\rkW wL=3:=by decide +kernel
def GR(C0:fy Z4)(p:fy Z6):(bP C0 p).Pairwise λa b=>rkW a<rkW b:=by
 let⟨a,b,c,d⟩:=Du;unfold bP;split
 .exact .nil
 .unfold cE;split <;> split <;> split <;> simp[a,b,c,d]
def Xe{wd:Z5}{C3 C1:fy (fy Z4)}{b:Z4}{C0:fy Z4}{r0 r1 r2 r3:Z4}(g:mz wd C3)(hn:C1.length=C0.length)(r:C0.length≤7)(h:i7 wd C3 b C1)(l:∀ x∈r0::r1::r2::r3::C0,0≤x/\x≤1000000000000):Fit C1 C0 r0 r1 r2 r3:=by
 let s:=g.most;refine{o6,hn.symm,λi xs e=>(h i xs e).1,λxs a x c=>?_,λx a=>l x (by simp[a]),λx a=>l x (by simp only[List.mem_cons] at a ⊢;grind)};let⟨d,p,rfl⟩:=akG a;let⟨h1,h2,h3⟩:=h d _<|aiG p;let⟨j,f,rfl⟩:=akG c;cases j with
 |zero=>rw[aiG f] at h2;let:=aiY h2;rw[this];omega
 |succ j=>
  let⟨n,e,ns,o,m,q⟩:=h3 j o6;rw[aiG f] at e;let:=aiY e;let:=Ip o λx a=>CJ g<|(m x).mp a
  omega
section
variable{C1:fy (fy Z4)}{C0:fy Z4}{r0 r1 r2 r3:Z4}
def Fit.sz1(F:Fit C1 C0 r0 r1 r2 r3)(ws:fy Z6)(d:Z5):szD C1 ws d≤1000000000000:=by
 by_cases a:d<C1.length
 .let⟨_,_,_,_,h⟩:=F.sz ws a;exact h
 .unfold szD;rw[show C1.getD d []=[] by rw[ai2,ajx o6];rfl];simp
def vD{a b A B:Z4}(h0:0≤a)(h1:a≤A)(h2:0≤b)(h3:b≤B):a*b≤A*B:=Int.mul_le_mul h1 h3 h2 o6
def vt{f b:Z5->Z4}{L:Z4}(c:∀d,f d≤L)(a:0≤L):∀k d:Z5,wyF f b k d≤↥k*L
 |0,d=>by simp[wyF]
 |k+1,d=>by
  let h:=c d;let g:=vt (b:=b) c a k (b d).toNat;let z:0≤↥k*L:=ajJ o6 a;let e:((k+1:Z5):Z4)*L =↥k*L+L:=by rw[akM,amN];simp
  show f d +(if b d<0 then 0 else wyF f b k (b d).toNat)≤_;rw[e];split <;> omega
def pF{c:Z5->Z4}{B:Z4}:∀{k:Z5},(∀d,d<k->c d≤B)->sumTo c k≤↥k*B
 |0,_=>by show↥0≤_;simp
 |k+1,h=>by
  let:=pF (k:=k) λd a=>h d o6
  let h2:=h k o6;let e:((k+1:Z5):Z4)*B =↥k*B+B:=by rw[akM,amN];simp
  show sumTo c k+c k≤_;omega
def Fit.agq(F:Fit C1 C0 r0 r1 r2 r3)(ws:fy Z6){d:Z5}(p:d<C1.length):bA C1 C0 r0 r1 r2 r3 ws d≤10 ^ 50:=by
 let r:=F.b3 r0 o8;let i:=F.b3 r1 o8;let q:=F.b3 r2 o8;let l:=F.b3 r3 o8;let t:=F.n7;let j:=F.sz0 ws;let s1:=F.sz1 ws;let o:=F.wt0 d;let n:C0.getD d 0≤1000000000000:=(F.b2 _ (by rw[ai2,aiG (by rwa[F.nw])];exact ajF _)).2;let g:∀e,xD C1 r2 r3 ws e≤10 ^ 25:=λe=>by let:=vD l.1 l.2 (j e)<|s1 e;show r2+r3*szD C1 ws e≤_;omega
 let c:cI C1 r2 r3 ws d≤10 ^ 26:=by let h:=vt (f:=xD C1 r2 r3 ws) (b:=bB ws) g o7 (d+1) d;let h2:((d+1:Z5):Z4)*10 ^ 25≤10*10 ^ 25:=alR o6 o7;show wyF _ _ _ _≤_;exact amt h<|amt h2 o7
 let a:0≤cI C1 r2 r3 ws d:=by rw[←m7];exact F.Iz ws _
 unfold bA;split
 .decide
 .let s:=vD i.1 i.2 (show 0≤↥C1.length -↥d by omega) (show↥C1.length -↥d≤10 by omega);let m:0≤r1*(↥C1.length -↥d):=ajJ i.1 o6;let p2:=vD (show 0≤r0+r1*(↥C1.length -↥d) by omega) (show r0+r1*(↥C1.length -↥d)≤10 ^ 14 by omega) (j d)<|s1 d;let u:=vD o n a c;omega
def Fit.ah3(F:Fit C1 C0 r0 r1 r2 r3)(ws:fy Z6):sumTo (bA C1 C0 r0 r1 r2 r3 ws) C1.length<10 ^ 60:=by
 let h:=pF (c:=bA C1 C0 r0 r1 r2 r3 ws) (B:=10 ^ 50) (k:=C1.length) λd a=>F.agq ws a
 let b:=F.n7;let h2:((C1.length:Z5):Z4)*10 ^ 50≤10*10 ^ 50:=alR o6 o7;exact Int.lt_of_le_of_lt (amt h h2) o7
structure afU(C1:fy (fy Z4))(C0:fy Z4)(r0 r1 r2 r3:Z4)(x:Lf):Z3 where
 nx:gH C0 x.1
 len:x.1.length=C0.length
 val:x.2=sumTo (bA C1 C0 r0 r1 r2 r3 x.1) x.1.length
 n0:0≤x.2
 n60:x.2<10 ^ 60
 opt:∀ws,gH C0 ws->ws.length=C0.length->x.2≤sumTo (bA C1 C0 r0 r1 r2 r3 ws) ws.length/\(x.2=sumTo (bA C1 C0 r0 r1 r2 r3 ws) ws.length->Le (x.1.map rkW) (ws.map rkW))
def Ds(F:Fit C1 C0 r0 r1 r2 r3){i:fy Lf}{x:Lf}(m:uu C1 C0 r0 r1 r2 r3 (C1.length+1) [] Z0 =(i,some x)):afU C1 C0 r0 r1 r2 r3 x:=by
 let j:=F.nw;let c:(uu C1 C0 r0 r1 r2 r3 (C1.length+1) [] Z0).2=some x:=by rw[m]
 let⟨h1,h2,h3⟩:=vV (nx:=bP C0) (bd:=bdF C1 C0 r0 r1 r2 r3) (G:=λy:Lf=>gH C0 y.1/\y.1.length=C0.length/\y.2=bdF C1 C0 r0 r1 r2 r3 y.1) (W:=λws=>gH C0 ws/\ws.length≤C0.length)
  (λws w h b=>by let⟨n,e,_⟩:=jr b;let:=(aiH.mp e).1;exact{h.1.snoc b,by simp;omega})
  (λws h hn=>{h.1,Nat.le_antisymm h.2<|(qi C0 ws).mp hn,J}) _ _ _ {λk w e=>(by simp at e),o8} (λy e=>by cases e) x c
 let a:x.2=sumTo (bA C1 C0 r0 r1 r2 r3 x.1) x.1.length:=by rw[h3];exact Cf o6
 refine{h1,h2,a,by rw[h3];exact Ga F,by rw[a,show x.1.length=C1.length by omega];exact F.ah3 _,λws b o=>?_};let⟨y,e,g,f⟩:=yo (nx:=bP C0) (bd:=bdF C1 C0 r0 r1 r2 r3) (ws:=ws) b ((qi C0 ws).mpr o6) (λk=>F.mono b.vn k) (GR C0) (C1.length+1) 0 Z0 o6 o6;rw[List.take_zero] at e;let:y=x:=aiY<|e.symm.trans c;subst this;let l:bdF C1 C0 r0 r1 r2 r3 ws=sumTo (bA C1 C0 r0 r1 r2 r3 ws) ws.length:=Cf o6;rw[l] at g f;exact{g,λz=>(f z).resolve_left λw=>by cases w}
end
def gp(ns:fy Z4)(k:Z4):Z4:=if k <↥ns.length then ns.getD k.toNat 0 else 37*k+11
def fG(c k:Z4):Z4:=(c+7919*k)*48271 % 2147483647*((c+7919*k)*48271 % 2147483647) % 2147483629
def Ce(c k:Z4):0≤fG c k/\fG c k<2147483629:=by unfold fG;exact{aj3 _ o5,ajP _ o5}
def fK(c k:Z4):Z4:=if (c+k) % 4=0 then(c / 4+k) % 3 else if (c+k) % 4=1 then 18446744073709551616-1 -(c / 4+k) % 3 else if (c+k) % 4=2 then c % 18446744073709551616 else
 (fG c k*8589934592+fG c (k+50)) % 18446744073709551616
def HF(c k:Z4):0≤fK c k/\fK c k<2 ^ 64:=by
 unfold fK;split
 .omega
 .split
  .omega
  .split
   .omega
   .exact{aj3 _ o5,ajP _ o5}
inductive x8(K:Frag)(vs:fy V)(H:Hp)(Q:VK)(E:XK):Z3
 |m (a:jl) (ns:fy Z4) (k:Z5)(_:vs=[.ref a,.int (k:Z4)])(_:X0 K H a (ns.map Z8))(_:Q (.int (gp ns k)) H)
inductive xX(vs:fy V)(H:Hp)(Q:VK)(E:XK):Z3
 |m (c k:Z4)(_:vs=[.int c,.int k])(_:Q (.int (fG c k)) H)
inductive ug(vs:fy V)(H:Hp)(Q:VK)(E:XK):Z3
 |m (c k:Z4)(_:vs=[.int c,.int k])(_:Q (.int (fK c k)) H)
def stF(q b g dl e:jl)(f c a:V):fy (Z6×V):=[("days",.ref q),("rule",f),("seek",c),("each",a),("shelves",.ref b),("noted",.ref g),("done",.ref dl),("seals",.ref e)]
structure StA(CS:jl)(H:Hp)(p q sl nl dl se:jl)(rl sk ea:V):Z3 where
 ex:∃dx,H p=some (.ins CS dx (stF q sl nl dl se rl sk ea))
def sL{q b g dl e:jl}{f c a:V}:(stF q b g dl e f c a).lookup (Str.ofString "days")=some (V.ref q):=rfl
def pO{q a g dl e:jl}{f c b:V}:(stF q a g dl e f c b).lookup (Str.ofString "shelves")=some (V.ref a):=rfl
def zI{q c a dl f:jl}{g e b:V}:(stF q c a dl f g e b).lookup (Str.ofString "noted")=some (V.ref a):=rfl
def wY{q b g dl e:jl}{f c a:V}:(stF q b g dl e f c a).lookup (Str.ofString "done")=some (V.ref dl):=rfl
def i8{q b g dl e:jl}{f c a:V}{m:Z6}(h:((["days","rule","seek","each","shelves","noted","done","seals"]:fy Z6).all (λk=>!(m==k)))=Z1):List.lookup m (stF q b g dl e f c a)=Z0:=by simp only[List.all_cons,List.all_nil,Bool.and_true,Bool.and_eq_true,Bool.not_eq_true'] at h;let⟨h1,h2,h3,h4,h5,h6,h7,h8⟩:=h;unfold stF;simp only[List.lookup,h1,h2,h3,h4,h5,h6,h7,h8]
def GO{xs:fy V}{i:Z5}{v:V}(h:xs[i]?=some v):atI xs ↥i=some v:=bx h
inductive ux(CS:jl)(vs:fy V)(H:Hp)(Q:VK)(E:XK):Z3
 |m (p q sl nl dl se:jl) (rl sk ea:V) (DL:fy V)(_:vs=[.ref p])(_:StA CS H p q sl nl dl se rl sk ea)(_:H dl=some (.lst DL))(_:DL.length≤1000)(_:∀t,H t=Z0->Q (.ref t) (Z9 H t (.tup DL)))
def fset{α:Type}(f:Z5->α)(i:Z5)(x:α):Z5->α:=λj=>if j=i then x else f j
def eN{α:Type}{f:Z5->α}{i:Z5}{x:α}:fset f i x i=x:=aiN J
def dB{α:Type}{f:Z5->α}{i j:Z5}{x:α}(h:j≠i):fset f i x j=f j:=aiJ h
def xm{α:Type}{f:Z5->α}{i:Z5}:fset f i (f i)=f:=funext λj=>by unfold fset;split <;> simp_all
def l3{α:Type}(f:Z5->α):fy α:=[f 0,f 1,f 2]
def Nu{α:Type}{f:Z5->α}{i:Z5}(h:i<3):(l3 f)[i]?=some (f i):=by
 match i,h with
 |0,_=>rfl
 |1,_=>rfl
 |2,_=>rfl
def YN{α:Type}{f:Z5->α}{i:Z5}{x:α}(h:i<3):(l3 f).set i x=l3 (fset f i x):=by
 match i,h with
 |0,_=>rfl
 |1,_=>rfl
 |2,_=>rfl
def Vx{α a:Type}{f:Z5->α}{g:α->a}{i:Z5}{x:α}:l3 (fset (λj=>g (f j)) i (g x))=l3 (λj=>g (fset f i x j)):=by unfold l3 fset;simp only[apply_ite g]
def agS{α:Type}{f:Z5->α}{i:Z5}(h:i<3):ixN (l3 f).length ↥i=some i:=by
 match i,h with
 |0,_=>rfl
 |1,_=>rfl
 |2,_=>rfl
def Az{P:Z5->Z3}(h0:P 0)(h1:P 1)(h2:P 2){i:Z5}(h:i<3):P i:=by
 match i,h with
 |0,_=>exact h0
 |1,_=>exact h1
 |2,_=>exact h2
inductive uw(CS CD:jl)(vs:fy V)(H:Hp)(Q:VK)(E:XK):Z3
 |m (p q sl nl dl se ta sa:jl) (TL SL:fy jl) (wd:Z5) (C2 C3:fy (fy Z4)) (rl sk ea:V)(_:vs=[.ref p])(_:StA CS H p q sl nl dl se rl sk ea)(_:bJ CD H q ta sa TL SL wd C2 C3)(_:Q (.int ((C2.length:Z4)-1)) H)
inductive qL(C:jl)(vs:fy V)(H:Hp)(Q:VK)(E:XK):Z3
 |m (x d t a:jl) (fl:Z4) (C4:fy (Key×V))(_:vs=[.ref x,.ref t])(_:H t=some (.tup [.str "put",.ref a]))(_:iS C H x d fl C4)(_:C4.length<1000)(_:∀H',iS C H' x d (fl+1) (putK C4 (.inl fl) (.ref a))->aV [x,d] H H'->Q .non H')
def cM(H:Hp)(F:fy jl):Z3:=∀ x∈F,(∃a,H x=some (.dK a))∨(∃xs,H x=some (.lst xs))∨∃C dx fs,H x=some (.ins C dx fs)/\List.lookup ("day":Str) fs=Z0
section
variable{H H':Hp}{F G:fy jl}{CW CG:jl}
def cM.tup(h:cM H F){t:jl}{xs:fy V}(e:H t=some (.tup xs)):t∉F:=λa=>by rcases h t a with⟨_,z⟩|⟨_,z⟩|⟨_,_,_,z,_⟩ <;>(rw[e] at z;cases z)
def PAt.dQ{a:jl}{f:Bool}{b d:Z5}{rows:fy (Z5×Z5)}{c:Z4}(h:PAt CW CG H a f b d rows c)(k:aV F H H')(g:cM H F):PAt CW CG H' a f b d rows c:=by
 let⟨dx,r,R,h1,h2,h3⟩:=h;refine{dx,r,R,k _ _ h1 λi=>?_,k _ _ h2<|g.tup h2,h3.mono λt xs e=>k _ _ e<|g.tup e};rcases g _ i with⟨_,z⟩|⟨_,z⟩|⟨_,_,_,z,hn⟩
 .rw[h1] at z;cases z
 .rw[h1] at z;cases z
 .rw[h1] at z;rw[←(HO.ins.inj<|aiY z).2.2,show List.lookup ("day":Str) (pfs f b d r c _)=some (V.int ↥d) by cases f <;> exact aa4] at hn;cases hn
def cN.dQ{v:V}{u:PcU}(h:cN CW CG H v u)(k:aV F H H')(b:cM H F):cN CW CG H' v u:=let ⟨a,h1,h2,h3⟩:=h;{a,h1,PAt.dQ h2 k b,h3}
def cM.ls{a:jl}{xs:fy V}(h:H a=some (.lst xs))(r:cM H F):cM H (a::F):=λx b=>(aiU.mp b).elim (λz=>by rw[z];exact .inr<|.inl {_,h})<|r x
def cM.nil:cM H []:=λ_ h=>by cases h
def cM.sh{C p d:jl}{fl:Z4}{C4:fy (Key×V)}(h:iS C H p d fl C4):cM H [p,d]:=λx a=>by
 let⟨dx,h1,h2⟩:=h;simp only[List.mem_cons,List.not_mem_nil,or_false] at a;rcases a with rfl|rfl
 .exact .inr (.inr {_,_,_,h1,vJ o4 o4})
 .exact .inl {_,h2}
def cM.days{C p ta sa:jl}{TL SL:fy jl}{wd:Z5}{C2 C3:fy (fy Z4)}(D:bJ C H p ta sa TL SL wd C2 C3):cM H (foot p ta sa TL SL):=λx b=>by
 rcases D.lists b with⟨dx,fs,e⟩|⟨xs,e⟩
 .let⟨g,f⟩:=D.ob;by_cases c:x=p
  .subst c;exact .inr<|.inr {_,_,_,f,ly o4 o4 o4 o4}
  .simp only[foot,List.mem_cons,List.mem_append] at b;rcases b with z|z|z|z|z
   .exact absurd z c
   .rw[z,D.tl] at e;cases e
   .rw[z,D.sl] at e;cases e
   .let⟨i,hi⟩:=aju.mp z;let a:=(aiH.mp hi).1;rw[D.tls.len] at a;rw[D.tls.get i x _ hi<|aiG a] at e;cases e
   .let⟨i,hi⟩:=aju.mp z;let a:=(aiH.mp hi).1;rw[D.sls.len] at a;rw[D.sls.get i x _ hi<|aiG a] at e;cases e
 .exact .inr (.inl ⟨xs,e⟩)
end
abbrev c5:=Z4->nt PcU
structure ShC(C CW CG:jl)(H:Hp)(p d:jl)(fl:Z4)(M:c5)(n:Z5):Z3 where
 ex:∃C4,iS C H p d fl C4/\j4 (cN CW CG H) C4 M/\C4.length≤n
 fol:∀j u,M j=some u->j<fl
def ShC.dQ{C CW CG:jl}{H H':Hp}{F:fy jl}{p d:jl}{fl:Z4}{M:c5}{n:Z5}(h:ShC C CW CG H p d fl M n)(k:aV F H H')(b:cM H F)(a:p∉F)(c:d∉F):ShC C CW CG H' p d fl M n:=by let⟨C4,h1,h2,h3⟩:=h.ex;exact{{C4,h1.adM k a c,h2.mono λv u z=>cN.dQ z k b,h3},h.fol}
def ShC.at_{C CW CG:jl}{H:Hp}{p d:jl}{fl:Z4}{M:c5}{n:Z5}(h:ShC C CW CG H p d fl M n):∃dx C4,H p=some (.ins C dx (sfs d fl))/\H d=some (.dK C4):=by let⟨C4,⟨dx,h1,h2⟩,_⟩:=h.ex;exact⟨dx,C4,h1,h2⟩
structure SAd where
 p:jl
 q:jl
 sl:jl
 nl:jl
 dl:jl
 se:jl
 x:Z5->jl
 d:Z5->jl
 ta:jl
 sa:jl
 TL:fy jl
 SL:fy jl
 rl:V
 sk:V
 ea:V
 NL:fy V
 n:Z5->Z5
def SAd.ft(A:SAd):fy jl:=foot A.q A.ta A.sa A.TL A.SL
def SAd.sm(A:SAd):fy jl:=[A.p,A.sl,A.nl,A.dl,A.x 0,A.x 1,A.x 2,A.d 0,A.d 1,A.d 2]
def SAd.mx(A:SAd){i:Z5}(h:i<3):A.x i∈A.sm:=Az (P:=λi=>A.x i∈A.sm) (by simp[SAd.sm]) (by simp[SAd.sm]) (by simp[SAd.sm]) h
def SAd.md(A:SAd){i:Z5}(h:i<3):A.d i∈A.sm:=Az (P:=λi=>A.d i∈A.sm) (by simp[SAd.sm]) (by simp[SAd.sm]) (by simp[SAd.sm]) h
def SAd.Pn{A:SAd}{b:jl}(h:b∈A.sm):b∈[A.p,A.sl,A.nl,A.dl]∨∃i,i<3/\(b=A.x i∨b=A.d i):=by
 simp only[SAd.sm,List.mem_cons,List.not_mem_nil,or_false] at h ⊢;rcases h with h|h|h|h|h|h|h|h|h|h
 .exact .inl (.inl h)
 .exact .inl (.inr<|.inl h)
 .exact .inl (.inr<|.inr<|.inl h)
 .exact .inl (.inr<|.inr<|.inr h)
 .exact .inr {(0),o7,.inl h}
 .exact .inr {(1),o7,.inl h}
 .exact .inr {(2),o7,.inl h}
 .exact .inr {(0),o7,.inr h}
 .exact .inr {(1),o7,.inr h}
 .exact .inr {(2),o7,.inr h}
structure StC(CS CD C CW CG:jl)(H:Hp)(A:SAd)(wd:Z5)(C2 C3:fy (fy Z4))(us:fy PcU)(M:Z5->c5):Z3 where
 st:StA CS H A.p A.q A.sl A.nl A.dl A.se A.rl A.sk A.ea
 sl:H A.sl=some (.lst (l3 λi=>.ref (A.x i)))
 D:bJ CD H A.q A.ta A.sa A.TL A.SL wd C2 C3
 nl:H A.nl=some (.lst A.NL)
 nn:A.NL.length=us.length
 no:∀(k:Z5)u,us[k]?=some u->∃t a,A.NL[k]?=some (.ref t)/\H t=some (.tup [.str "put",.ref a])/\cN CW CG H (.ref a) u
 dl:H A.dl=some (.lst (l3 λi=>.int (A.n i:Z4)))
 sh:∀i,i<3->ShC C CW CG H (A.x i) (A.d i) (A.n i:Z4) (M i) 61
 dom:∀i,i<3->∀m,(M i m).isSome=Z1↔0≤m/\m <(A.n i:Z4)
 nle:∀i,i<3->A.n i≤us.length
 n61:us.length≤61
 tn:C2.length≤100
 S:mz wd C3
 T:∀ t∈C2,TabOk wd t
 nd:A.sl≠A.nl/\A.sl≠A.dl/\A.nl≠A.dl
 nx:∀i j,i<3->j<3->i≠j->A.x i≠A.x j/\A.d i≠A.d j
 ap:∀ b∈A.sm,b∉A.ft
section
variable{CS CD C CW CG:jl}{H H':Hp}{A:SAd}{wd:Z5}{C2 C3:fy (fy Z4)}{us:fy PcU}{M:Z5->c5}{F:fy jl}
def StC.here(h:StC CS CD C CW CG H A wd C2 C3 us M):∀ b∈A.sm++A.ft,∃o,H b=some o:=λb a=>by
 rcases ai0.mp a with a|a
 .rcases SAd.Pn a with a|⟨i,hi,a⟩
  .let⟨_,h1⟩:=h.st;let h8:=h.sl;let h9:=h.nl;let h10:=h.dl;simp only[List.mem_cons,List.not_mem_nil,or_false] at a;rcases a with rfl|rfl|rfl|rfl <;> exact{_,by assumption}
  .let⟨dx,C4,h1,h2⟩:=(h.sh i hi).at_;rcases a with rfl|rfl
   .exact{_,h1}
   .exact{_,h2}
 .exact h.D.here b a
def StC.dQ(h:StC CS CD C CW CG H A wd C2 C3 us M)(k:aV F H H')(f:cM H F)(l:∀ b∈A.sm++A.ft,b∉F):StC CS CD C CW CG H' A wd C2 C3 us M:=by
 let c:∀ b∈A.sm,b∉F:=λb g=>l b<|ajZ _ g
 let⟨dx,h1⟩:=h.st;refine{{dx,k _ _ h1<|c _ (by simp[SAd.sm])},k _ _ h.sl<|c _ (by simp[SAd.sm]),h.D.apart k λb g=>l b<|ajk _ g,k _ _ h.nl<|c _ (by simp[SAd.sm]),h.nn,λn u e=>?_,k _ _ h.dl<|c _ (by simp[SAd.sm]),λi hi=>(h.sh i hi).dQ k f (c _<|A.mx hi)<|c _<|A.md hi,h.dom,h.nle,h.n61,h.tn,h.S,h.T,h.nd,h.nx,h.ap};let⟨t,a,o,j,m⟩:=h.no n u e;exact{t,a,o,k _ _ j<|f.tup j,cN.dQ m k f}
def StC.same(h:StC CS CD C CW CG H A wd C2 C3 us M)(s:aj H H'):StC CS CD C CW CG H' A wd C2 C3 us M:=h.dQ (F:=[]) (aV.of_same s) cM.nil λ_ _ h=>by cases h
def StC.ace(h:StC CS CD C CW CG H A wd C2 C3 us M):uo CD H A.q wd C2 C3:={{_,_,_,_,h.D},h.S,h.T,by let:=h.tn;omega}
def StC.pP(h:StC CS CD C CW CG H A wd C2 C3 us M){a:jl}{xs:fy V}(b:H a=some (.lst xs)){i:Z5}(hi:i<3):a≠A.x i/\a≠A.d i/\a≠A.p:=by let⟨dx,C4,h1,h2⟩:=(h.sh i hi).at_;let⟨_,h3⟩:=h.st;exact{bU b h1 nofun,bU b h2 nofun,bU b h3 nofun}
def StC.Tw(h:StC CS CD C CW CG H A wd C2 C3 us M){i:Z5}(hi:i<3):A.p≠A.x i/\A.p≠A.d i:=by let⟨dx,C4,h1,h2⟩:=(h.sh i hi).at_;let⟨_,h3⟩:=h.st;exact{bU h3 h1 (by intro z;injection z with _ _ z3;cases z3),bU h3 h2 nofun}
def StC.Ot(h:StC CS CD C CW CG H A wd C2 C3 us M){i j:Z5}(hi:i<3)(c:j<3):A.x i≠A.d j:=by let⟨dx,C4,h1,h2⟩:=(h.sh i hi).at_;let⟨e,b,f,a⟩:=(h.sh j c).at_;exact bU h1 a nofun
def StC.app(h:StC CS CD C CW CG H A wd C2 C3 us M)(p:us.length≤60){t a:jl}{u:PcU}(r:cN CW CG H (.ref a) u)(o:H t=some (.tup [.str "put",.ref a]))(hn:H' A.nl=some (.lst (A.NL++[.ref t])))(k:aV [A.nl] H H'):StC CS CD C CW CG H' {A with NL:=A.NL++[.ref t]} wd C2 C3 (us++[u]) M:=by
 let c:cM H [A.nl]:=cM.ls h.nl cM.nil;let⟨dx,h1⟩:=h.st;let j:∀i,i<3->A.x i∉[A.nl]/\A.d i∉[A.nl]:=λi hi=>by let:=h.pP h.nl hi;simp only[List.mem_singleton];exact⟨this.1.symm,this.2.1.symm⟩
 let f:=h.nd;refine{{dx,k _ _ h1<|⇑((h.pP h.nl (i:=0) o7).2.2.symm)},k _ _ h.sl (⇑f.1),h.D.apart k λb B q=>h.ap b (by rw[ai7.mp q];simp[SAd.sm]) B,hn,by simp[h.nn],λn v e=>?_,k _ _ h.dl (⇑f.2.2.symm),λi hi=>(h.sh i hi).dQ k c (j i hi).1 (j i hi).2,h.dom,λi hi=>by let:=h.nle i hi;simp;omega,by simp;omega,h.tn,h.S,h.T,h.nd,h.nx,h.ap};by_cases m:n<us.length
 .rw[aiM m] at e;let⟨t',y,z,l,s⟩:=h.no n v e;exact{t',y,by show(A.NL++[V.ref t])[n]? = _;rw[aiM (by rwa[h.nn])];exact z,k _ _ l<|c.tup l,cN.dQ s k c}
 .let g:n=us.length:=by let:=(aiH.mp e).1;simp at this;omega
  subst g;rw[aiO<|aiL _,anA] at e;cases e;exact{t,a,by show(A.NL++[V.ref t])[us.length]? = _;rw[←h.nn,aiO<|aiL _,anA];rfl,k _ _ o<|c.tup o,cN.dQ r k c}
def SAd.re(A:SAd)(i:Z5)(b d':jl)(a:Z5):SAd:={A with x:=fset A.x i b,d:=fset A.d i d',n:=fset A.n i a}
def StC.re(h:StC CS CD C CW CG H A wd C2 C3 us M){i:Z5}(hi:i<3){g d':jl}{r:Z5}{O:c5}(k:aV F H H')(hF:cM H F)(U:∀ b∈F,b=A.sl∨b=A.dl∨b=A.x i∨b=A.d i)(a1:H' A.sl=some (.lst (l3 λj=>.ref (fset A.x i g j))))(a5:H' A.dl=some (.lst (l3 λj=>.int ((fset A.n i r j:Z5):Z4))))(hs:ShC C CW CG H' g d' ↥r O 61)(a0:∀m,(O m).isSome=Z1↔0≤m/\m <↥r)(hn:r≤us.length)(hx:(g=A.x i/\d'=A.d i)∨(H g=Z0/\H d'=Z0)):StC CS CD C CW CG H' (A.re i g d' r) wd C2 C3 us (fset M i O):=by
 let nF:∀b,b≠A.sl->b≠A.dl->b≠A.x i->b≠A.d i->b∉F:=λb h1 h2 h3 h4 f=>by rcases U b f with z|z|z|z <;> contradiction
 let⟨dx,h1⟩:=h.st;let Y:=h.nd;let a3:=h.pP h.sl hi;let a2:=h.pP h.dl hi;let L:=h.pP h.nl hi;let a4:∀ b∈F,b∈A.sm:=λb f=>by
  rcases U b f with z|z|z|z <;> rw[z]
  .simp[SAd.sm]
  .simp[SAd.sm]
  .exact A.mx hi
  .exact A.md hi
 let hp:=h.Tw hi;let fr:∀j,j<3->∀b o,H b=some o->b≠g∨g=A.x i:=λj c b o e=>by
  rcases hx with⟨z,_⟩|⟨z,_⟩
  .exact .inr z
  .exact .inl (ao e z)
 refine{{dx,k _ _ h1<|nF _ a3.2.2.symm a2.2.2.symm hp.1 hp.2},a1,h.D.apart k λb f v=>h.ap b (a4 b v) f,k _ _ h.nl<|nF _ Y.1.symm Y.2.2 L.1 L.2.1,h.nn,λn u e=>?_,a5,λj c=>?_,λj c m=>?_,λj c=>?_,h.n61,h.tn,h.S,h.T,h.nd,λj l c hl p=>?_,λb f=>?_}
 .let⟨t,a,e1,q,e3⟩:=h.no n u e;exact{t,a,e1,k _ _ q<|hF.tup q,cN.dQ e3 k hF}
 .show ShC C CW CG H' (fset A.x i g j) (fset A.d i d' j) ((fset A.n i r j:Z5):Z4) (fset M i O j) 61;by_cases e:j=i
  .subst e;rwa[eN,eN,eN,eN]
  .rw[dB e,dB e,dB e,dB e];let l1:=h.pP h.sl c;let l2:=h.pP h.dl c;let l3:=h.nx j i c hi e;exact(h.sh j c).dQ k hF (nF _ l1.1.symm l2.1.symm l3.1<|h.Ot c hi) (nF _ l1.2.1.symm l2.2.1.symm (h.Ot hi c).symm l3.2)
 .show(fset M i O j m).isSome=Z1↔0≤m/\m <((fset A.n i r j:Z5):Z4);by_cases e:j=i
  .subst e;rw[eN,eN];exact a0 m
  .rw[dB e,dB e];exact h.dom j c m
 .show fset A.n i r j≤_;by_cases e:j=i
  .subst e;rwa[eN]
  .rw[dB e];exact h.nle j c
 .show fset A.x i g j≠fset A.x i g l/\fset A.d i d' j≠fset A.d i d' l;let s:∀j,j<3->j≠i->A.x j≠g/\A.d j≠d':=λj c e=>by
   rcases hx with⟨y,B⟩|⟨y,B⟩
   .rw[y,B];exact h.nx j i c hi e
   .let⟨dx,C4,g1,g2⟩:=(h.sh j c).at_;exact{ao g1 y,ao g2 B}
  by_cases e:j=i
  .subst e;rw[eN,eN,dB p.symm,dB p.symm];exact{(s l hl p.symm).1.symm,(s l hl p.symm).2.symm}
  .rw[dB e,dB e];by_cases q:l=i
   .subst q;rw[eN,eN];exact s j c e
   .rw[dB q,dB q];exact h.nx j l c hl p
 .let a6:∀b,b=g∨b=d'->b∉A.ft:=λb f v=>by
   rcases hx with⟨y,B⟩|⟨y,B⟩
   .rcases f with e|e
    .rw[e,y] at v;exact h.ap _ (A.mx hi) v
    .rw[e,B] at v;exact h.ap _ (A.md hi) v
   .let⟨o,q⟩:=h.D.here b v;rcases f with e|e
    .rw[e,y] at q;cases q
    .rw[e,B] at q;cases q
  rcases SAd.Pn f with f|⟨j,c,f⟩
  .exact h.ap b (by simp only[SAd.sm,SAd.re,List.mem_cons,List.not_mem_nil,or_false] at f ⊢;rcases f with z|z|z|z <;> simp[z])
  .let f:b=fset A.x i g j∨b=fset A.d i d' j:=f;by_cases e:j=i
   .subst e;rw[eN,eN] at f;exact a6 b f
   .rw[dB e,dB e] at f;rcases f with z|z <;> rw[z]
    .exact h.ap _ (A.mx c)
    .exact h.ap _ (A.md c)
end
def VF{l:fy jl}(h:l.Nodup)(k:Z5){b:jl}(c:b∈l.take k):b∉l.drop k:=λa=>by rw[←alH k l,ame] at h;exact h.2.2 b c b a J
def Alv(L:fy jl)(H:Hp):Z3:=∀ a∈L,H a≠Z0
def Alv.new{L:fy jl}{H:Hp}(h:Alv L H){b:jl}(e:H b=Z0):b∉L:=λz=>h b z e
def Alv.cons{L:fy jl}{H:Hp}(h:Alv L H){b:jl}{o:HO}(e:H b=some o):Alv (b::L) H:=λa c=>(aiU.mp c).elim (λz=>by rw[z,e];simp)<|h a
def Alv.mv{L:fy jl}{H H':Hp}(h:Alv L H)(k:∀b,H b≠Z0->H' b≠Z0):Alv L H':=λa c=>k a<|h a c
def mw{H H':Hp}(s:aj H H')(b:jl)(h:H b≠Z0):H' b≠Z0:=by
 cases e:H b with
 |none=>exact absurd e h
 |some o=>rw[s b o e];simp
def xT{H:Hp}{p:jl}{o:HO}(b:jl)(h:H b≠Z0):Z9 H p o b≠Z0:=by
 by_cases e:b=p
 .subst e;rw[af];simp
 .rw[ak e];exact h
def jm(us:fy PcU)(n k:Z5)(M:c5):c5:=λm=>if ↥n≤m/\m <(n+k:Z5) then us[m.toNat]? else M m
def SAd.add(A:SAd)(t:jl):SAd:={A.re 0 (A.x 0) (A.d 0) (A.n 0+1) with NL:=A.NL++[.ref t]}
inductive xg(CS CD C CW CG:jl)(vs:fy V)(H:Hp)(Q:VK)(E:XK):Z3
 |m (A:SAd) (wd:Z5) (C2 C3:fy (fy Z4)) (us:fy PcU) (M:Z5->c5) (t a:jl) (u:PcU)(_:vs=[.ref A.p,.ref t])(_:StC CS CD C CW CG H A wd C2 C3 us M)(_:A.n 0=us.length)(_:us.length≤60)(_:H t=some (.tup [.str "put",.ref a]))(_:cN CW CG H (.ref a) u)(_:∀H',StC CS CD C CW CG H' (A.add t) wd C2 C3 (us++[u]) (fset M 0 (uK (M 0) (us.length:Z4) (some u)))->aV [A.nl,A.dl,A.x 0,A.d 0] H H'->Q .non H')
inductive uJ(C:jl)(vs:fy V)(H:Hp)(Q:VK)(E:XK):Z3
 |m (p dx l:jl) (xs:fy V)(_:vs=[.ref p,.ref l])(_:H p=some (.ins C dx []))(_:H l=some (.lst xs))(_:xs.length≤100)(_:∀t H',H' p=some (.ins C dx [("rules",.ref t)])->aV [p] H H'->Q .non H')
def rng(n:Z5):fy Z4:=(List.range n).map λk:Nat=>↥k
section
variable{us:fy PcU}{n k:Z5}{M:c5}{m:Z4}{u:PcU}
def FG:jm us n 0 M=M:=funext λm=>aiJ o6
def F9(h:us[n+k]?=some u):jm us n (k+1) M=uK (jm us n k M) ((n+k:Z5):Z4) (some u):=funext λm=>by
 by_cases e:m =((n+k:Z5):Z4)
 .subst e;rw[Ca];unfold jm;rw[aiN o6,show(((n+k:Z5)):Z4).toNat=n+k by omega,h]
 .rw[xo e];unfold jm;by_cases c:↥n≤m/\m <(n+k:Z5)
  .rw[aiN c,aiN o6]
  .rw[aiJ c,aiJ o6]
variable{f:Z5}
def Cc(a:∀m,(M m).isSome=Z1↔0≤m/\m <↥f)(b:f=n)(e:jm us n k M m=some u):0≤m/\m <((n+k:Z5):Z4):=by
 unfold jm at e;split at e
 .omega
 .let:=(a m).mp (by rw[e];rfl);omega
def G4(a:∀m,(M m).isSome=Z1↔0≤m/\m <↥f)(e:f=n)(b:n+k≤us.length)(m:Z4):(jm us n k M m).isSome=Z1↔0≤m/\m <((n+k:Z5):Z4):=by
 unfold jm;split
 .rename_i c;rw[aiG o6];simp;omega
 .rw[a m];omega
end
def Gk(C4:fy (Key×V))(k:Key)(v:V):(putK C4 k v).length≤C4.length+1:=by rw[QM];split <;> omega
def QL{α:Type}{Pr:V->α->Z3}{C4:fy (Key×V)}{M:Z4->nt α}(h:j4 Pr C4 M){N:Z5}(i:∀m u,M m=some u->0≤m/\m <↥N):C4.length≤N:=by
 let⟨ns,c⟩:=xH h.ur;let g:C4.length=ns.length:=by let:=congrArg List.length c;simpa using this
 let hn:ns.Nodup:=by let:=h.nd;rw[c] at this;exact(alw.mp this).imp λa b=>a<|congrArg Sum.inl b
 rw[g];refine kC N ns hn λx f=>?_
 let⟨u,e⟩:=akB.mp<|(h.keys c x).mp f;exact i x u e
section
variable{CS CD C CW CG:jl}{H H':Hp}{A:SAd}{wd:Z5}{C2 C3:fy (fy Z4)}{us:fy PcU}{M:Z5->c5}{m d:jl}{tb xs:fy Z4}
def StC.day(h:StC CS CD C CW CG H A wd C2 C3 us M)(s:bJ CD H' A.q A.ta A.sa (A.TL++[m]) (A.SL++[d]) wd (C2++[tb]) (C3++[xs]))(k:aV A.ft H H')(F:H m=Z0)(v:H d=Z0)(j:C2.length≤99)(x:mz wd (C3++[xs]))(r:∀ t∈C2++[tb],TabOk wd t):StC CS CD C CW CG H' {A with TL:=A.TL++[m],SL:=A.SL++[d]} wd (C2++[tb]) (C3++[xs]) us M:=by
 let c:cM H A.ft:=cM.days h.D;let⟨dx,h1⟩:=h.st;refine{{dx,k _ _ h1<|h.ap A.p (by simp[SAd.sm])},k _ _ h.sl<|h.ap A.sl (by simp[SAd.sm]),s,k _ _ h.nl<|h.ap A.nl (by simp[SAd.sm]),h.nn,λn u e=>?_,k _ _ h.dl<|h.ap A.dl (by simp[SAd.sm]),λi hi=>(h.sh i hi).dQ k c (h.ap _<|A.mx hi)<|h.ap _<|A.md hi,h.dom,h.nle,h.n61,by simp;omega,x,r,h.nd,h.nx,λb g l=>?_}
 .let⟨t,a,B,f,y⟩:=h.no n u e;exact{t,a,B,k _ _ f<|c.tup f,cN.dQ y k c}
 let⟨o,e⟩:=h.here b<|ajZ _ g;let z:b∈A.ft∨b=m∨b=d:=by simp only[SAd.ft,foot,List.mem_append,List.mem_singleton,List.mem_cons] at l ⊢;grind
 rcases z with z|z|z
 .exact h.ap b g z
 .rw[z,F] at e;cases e
 .rw[z,v] at e;cases e
end
inductive rK(vs:fy V)(H:Hp)(Q:VK)(E:XK):Z3
 |m (z:Z6)(_:vs=[.str z])(_:z.length≤4900)(_:∀H',aj H H'->Q (.bl (okW z)) H')
inductive qQ(vs:fy V)(H:Hp)(Q:VK)(E:XK):Z3
 |m (z:Z6)(_:vs=[.str z])(_:okW z=Z1)(_:∀H',aj H H'->Q (.int (intOf z)) H')
inductive qM(vs:fy V)(H:Hp)(Q:VK)(E:XK):Z3
 |m (z:Z6) (c:Z4×Z4)(_:vs=[.str z])(_:z.length≤4900)(_:chg z=some c)(_:∀t H',H' t=some (.tup [.int c.1,.int c.2])->aj H H'->Q (.ref t) H')
inductive pH(vs:fy V)(H:Hp)(Q:VK)(E:XK):Z3
 |m (z:Z6)(_:vs=[.str z,.bl Z1])(_:Q .non H)
def hiV:nt Z5->V
 |none=>.non
 |some m=>.int ↥m
inductive ya(K:Frag)(vs:fy V)(H:Hp)(Q:VK)(E:XK):Z3
 |m (n lo:Z5) (hi:nt Z5) (a:jl)(_:vs=[.int (n:Z4),.ref a])(_:X3 K H a [.int (lo:Z4),hiV hi])(_:Q (.bl (gR n (lo,hi))) H)
inductive qZ(vs:fy V)(H:Hp)(Q:VK)(E:XK):Z3
 |m (z:Z6) (a:jl) (ns:fy Z4)(_:vs=[.str z,.ref a])(_:H a=some (.lst (ns.map Z8)))(_:within z ns)(_:z = "harm"->4≤ns.length)(_:z = "plan"->2≤ns.length)(_:ns.length≤500)(_:∀H',aj H H'->Q (.bl Z1) H')
def jy(H:Hp)(l:jl):Told->Z3
 |.chs a=>∃L,H l=some (.lst L)/\fZ H L a
 |.wrd w=>H l=some (.lst [.str w])
 |.nums ns=>H l=some (.lst<|ns.map Z8)
def jy.same{H H':Hp}{l:jl}{td:Told}(h:jy H l td)(s:aj H H'):jy H' l td:=by
 cases td with
 |chs a=>let⟨L,h1,h2⟩:=h;exact{L,s _ _ h1,h2.mono λb xs e=>s _ _ e}
 |wrd w=>exact s _ _ h
 |nums ns=>exact s _ _ h
inductive uh(vs:fy V)(H:Hp)(Q:VK)(E:XK):Z3
 |m (hd:Z6) (r:jl) (ws:fy Z6) (td:Told)(_:vs=[.str hd,.ref r])(_:H r=some (.lst (ws.map V.str)))(_:∀ w∈ws,w.length≤4900)(_:ws.length≤500)(_:RowW hd ws td)(_:∀l H',jy H' l td->(l=r∨H l=Z0)->aj H H'->Q (.ref l) H')
inductive xP(vs:fy V)(H:Hp)(Q:VK)(E:XK):Z3
 |m (z hd:Z6) (td:Told)(_:vs=[.str z])(_:z.length≤400)(_:wO z hd td)(_:∀t l H',H' t=some (.tup [.str hd,.ref l])->jy H' l td->H l=Z0->aj H H'->Q (.ref t) H')
inductive uf(C:jl)(vs:fy V)(H:Hp)(Q:VK)(E:XK):Z3
 |m (p dx:jl) (s:Z4)(_:vs=[.ref p,.int s])(_:H p=some (.ins C dx []))(_:0≤s)(_:∀H',aV [p] H H'->(∃fs,H' p=some (.ins C dx fs))->Q .non H')
def gj:fy (Z6×Z6):=[("day","on_day"),("keep","on_keep"),("seal","on_seal"),("tidy","on_tidy"),("carry","on_carry"),("harm","on_harm"),("heal","on_heal"),("marks","on_marks"),("lies","on_lies"),("line","on_line"),("reach","on_reach"),("fetch","on_fetch"),("price","on_price"),("way","on_way"),("plan","on_plan")]
def vz:fy (Z6×fy V):=[("seal",[.int 1,.int 1]),("tidy",[.int 0,.int 0]),("carry",[.int 2,.int 2]),("harm",[.int 4,.int 4]),("heal",[.int 2,.int 2]),("marks",[.int 0,.int 0]),("lies",[.int 1,.int 1]),("line",[.int 2,.int 2]),("reach",[.int 1,.int 1]),("fetch",[.int 1,.non]),("price",[.int 1,.non]),("way",[.int 1,.non]),("plan",[.int 6,.non])]
def Gr{a:Z6}{f:Z5×nt Z5}(h:(a,f)∈iC):(a,[V.int ↥f.1,hiV f.2])∈vz:=by
 let e:vz=iC.map λp=>(p.1,[V.int ↥p.2.1,hiV p.2.2]):=rfl
 rw[e];exact ake (f:=λp:Z6×Z5×nt Nat=>(p.1,[V.int ↥p.2.1,hiV p.2.2])) h
def DU{a:Z6}{f g:Z5×nt Z5}(h:(a,f)∈iC)(e:iC.lookup a=some g):f=g:=by
 let hn:iC.all (λp=>decide (iC.lookup p.1=some p.2))=Z1:=by decide +kernel
 let:=ajn<|akh.mp hn _ h;rw[e] at this;exact(aiY this).symm
inductive lU(CS:jl)(vs:fy V)(H:Hp)(Q:VK)(E:XK):Z3
 |m (p q sl nl dl se:jl) (rl sk ea:V) (SL:fy V) (i:Z4)(_:vs=[.ref p,.int i])(_:StA CS H p q sl nl dl se rl sk ea)(_:H sl=some (.lst SL))(_:SL.length=3)(_:0≤i/\i<3)(_:Q .non H)
inductive ou(CS CD:jl)(vs:fy V)(H:Hp)(Q:VK)(E:XK):Z3
 |m (p q sl nl dl se ta sa a:jl) (TL SL:fy jl) (wd:Z5) (C2 C3:fy (fy Z4)) (rl sk ea:V) (L:fy V) (chs:fy (Z4×Z4))(_:vs=[.ref p,.ref a])(_:StA CS H p q sl nl dl se rl sk ea)(_:bJ CD H q ta sa TL SL wd C2 C3)(_:H a=some (.lst L))(_:fZ H L chs)(_:chs.length≤300)(_:C2.length≤500)(_:a∉foot q ta sa TL SL)(_:dG wd chs=Z0)(_:∀(m d:jl)(H':Hp)(tab:fy Z4),C2[C2.length-1]?=some tab->bJ CD H' q ta sa (TL++[m]) (SL++[d]) wd (C2++[nextT tab chs]) (C3++[chs.map Prod.fst])->H m=Z0->H d=Z0->aV (foot q ta sa TL SL) H H'->Q (.int (C2.length:Z4)) H')
inductive mH(CS CD C CW:jl)(vs:fy V)(H:Hp)(Q:VK)(E:XK):Z3
 |m (A:SAd) (wd:Z5) (C2 C3:fy (fy Z4)) (us:fy PcU) (M:Z5->c5)(_:vs=[.ref A.p,.str "whole"])(_:StC CS CD C CW CW H A wd C2 C3 us M)(_:∀a u H',cN CW CW H' (.ref a) u->aj H H'->Q (.ref a) H')
inductive qK(CS CD C CW:jl)(vs:fy V)(H:Hp)(Q:VK)(E:XK):Z3
 |m (A:SAd) (wd:Z5) (C2 C3:fy (fy Z4)) (us:fy PcU) (M:Z5->c5) (i many:Z5)(_:vs=[.ref A.p,.int (i:Z4),.int (many:Z4)])(_:i<3)(_:StC CS CD C CW CW H A wd C2 C3 us M)(_:∀(k:Z5)H',k=min many (us.length-A.n i)->StC CS CD C CW CW H' (A.re i (A.x i) (A.d i) (A.n i+k)) wd C2 C3 us (fset M i (jm us (A.n i) k (M i)))->aV [A.dl,A.x i,A.d i] H H'->Q (.int (k:Z4)) H')
inductive uH(CS CD C CW:jl)(vs:fy V)(H:Hp)(Q:VK)(E:XK):Z3
 |m (A:SAd) (wd:Z5) (C2 C3:fy (fy Z4)) (us:fy PcU) (M:Z5->c5)(_:vs=[.ref A.p,.str "whole"])(_:StC CS CD C CW CW H A wd C2 C3 us M)(_:A.n 0=us.length)(_:us.length≤60)(_:∀t u M' H',StC CS CD C CW CW H' (A.add t) wd C2 C3 (us++[u]) M'->aV [A.nl,A.dl,A.x 0,A.d 0] H H'->Q (.int (us.length:Z4)) H')
inductive qm(CS CD C:jl)(vs:fy V)(H:Hp)(Q:VK)(E:XK):Z3
 |m (p dx:jl) (wd:Z4) (rl sk ea:V)(_:vs=[.ref p,.int wd,rl,sk,ea])(_:H p=some (.ins CS dx []))(_:1≤wd/\wd≤40)(_:∀(A:SAd)(H':Hp),A.p=p->(∀i,A.n i=0)->(∀CW CG,StC CS CD C CW CG H' A wd.toNat [List.replicate wd.toNat 0] [[]] [] (λ_ _=>Z0))->H' A.se=some (.dK [])->A.se∉A.sm++A.ft->(∀ b∈A.se ::(A.sm++A.ft),b=p∨H b=Z0)->aV [p] H H'->Q .non H')
inductive lR(vs:fy V)(H:Hp)(Q:VK)(E:XK):Z3
 |m (z:Z6)(_:vs=[.str z])(_:z = "last 1")(_:∀a H',aj H H'->Q (.ref a) H')
def shT:V->Z6
 |.str z=>z
 |.int n=>bG n
 |_=>""
def AQ(x:V):Z3:=(∃z,x=.str z/\z.length≤60)∨∃n:Z4,x=.int n/\0≤n/\n<10 ^ 60
def LZ{n:Z4}(h0:0≤n)(h:n<10 ^ 60):n.natAbs.log2<1920:=by
 by_cases a:n.natAbs=0
 .rw[a];decide
 .exact(Nat.log2_lt a).mpr (ajl (show n.natAbs<10 ^ 60 by omega) o4)
def Qd{x:V}(h:AQ x):(shT x).length≤60:=by
 rcases h with⟨z,rfl,h⟩|⟨n,rfl,h0,h1⟩
 .exact h
 .exact aj6 h0 o7 h1
inductive qf(vs:fy V)(H:Hp)(Q:VK)(E:XK):Z3
 |m (t:jl) (xs:fy V)(_:vs=[.ref t])(_:H t=some (.tup xs))(_:xs≠[])(_:xs.length≤10)(_:∀ x∈xs,AQ x)(_:∀H',aj H H'->Q (.str (Str.join (Str.ofString " ") (xs.map shT))) H')
inductive rz (C:jl) (vs:fy V) (H:Hp) (Q:VK) (E:XK):Z3
 |mk (p dx sa wa ra:jl) (SL:fy jl) (C1:fy (fy Z4)) (C0 C7:fy Z4):vs=[.ref p,.ref sa,.ref wa,.ref ra]->H p=some (.ins C dx [])->1≤C1.length->C1.length≤7->C0.length≤7->C7.length≤7->H sa=some (.lst (SL.map V.ref))->Rows H SL C1->H wa=some (.lst (C0.map Z8))->H ra=some (.lst (C7.map Z8))->(∀H',gf C H' p C1 C0 C7->aV [p] H H'->Q .non H')->rz C vs H Q E
inductive pK(CD CT:jl)(vs:fy V)(H:Hp)(Q:VK)(E:XK):Z3
 |m (q wa ra:jl) (wd:Z5) (C2 C3:fy (fy Z4)) (C6:Z4) (C0 C7:fy Z4)(_:vs=[.ref q,.int C6,.ref wa,.ref ra])(_:uo CD H q wd C2 C3)(_:H wa=some (.lst (C0.map Z8)))(_:H ra=some (.lst (C7.map Z8)))(_:1≤C0.length)(_:C0.length≤7)(_:C7.length≤7)(_:0≤C6)(_:C6+C0.length≤C2.length)(_:∀(p:jl)(C1:fy (fy Z4))H',gf CT H' p C1 C0 C7->C1.length=C0.length->i7 wd C3 C6 C1->aj H H'->Q (.ref p) H')
def dI(x:Lf):Z6:=Str.join (Str.ofString " ")<|x.1++[bG x.2]
def vX(wd:Z5)(C3:fy (fy Z4))(b:Z4)(C0:fy Z4)(r0 r1 r2 r3:Z4)(x:Lf):Z3:=∃(C1:fy (fy Z4))(a:fy Lf),Fit C1 C0 r0 r1 r2 r3/\C1.length=C0.length/\i7 wd C3 b C1/\uu C1 C0 r0 r1 r2 r3 (C1.length+1) [] Z0 =(a,some x)
inductive kI(CS CD C CW:jl)(vs:fy V)(H:Hp)(Q:VK)(E:XK):Z3
 |m (A:SAd) (wd:Z5) (C2 C3:fy (fy Z4)) (us:fy PcU) (M:Z5->c5) (l:jl) (chs:fy (Z4×Z4))(_:vs=[.ref A.p,.ref l])(_:StC CS CD C CW CW H A wd C2 C3 us M)(_:jy H l (.chs chs))(_:chs.length≤100)(_:C2.length≤90)(_:l∉A.ft)(_:dG wd chs=Z0)(_:∀(m d:jl)(H':Hp)(tab:fy Z4),StC CS CD C CW CW H' {A with TL:=A.TL++[m],SL:=A.SL++[d]} wd (C2++[nextT tab chs]) (C3++[chs.map Prod.fst]) us M->H m=Z0->H d=Z0->aV A.ft H H'->Q (.str (bG (C2.length:Z4))) H')
inductive ji(CS CD C CW:jl)(vs:fy V)(H:Hp)(Q:VK)(E:XK):Z3
 |m (A:SAd) (wd:Z5) (C2 C3:fy (fy Z4)) (us:fy PcU) (M:Z5->c5) (l:jl)(_:vs=[.ref A.p,.ref l])(_:jy H l (.wrd "whole"))(_:StC CS CD C CW CW H A wd C2 C3 us M)(_:A.n 0=us.length)(_:us.length≤60)(_:∀t u M' H',StC CS CD C CW CW H' (A.add t) wd C2 C3 (us++[u]) M'->aV [A.nl,A.dl,A.x 0,A.d 0] H H'->Q (.str (bG (us.length:Z4))) H')
inductive iD(CS CD C CW:jl)(vs:fy V)(H:Hp)(Q:VK)(E:XK):Z3
 |m (A:SAd) (wd:Z5) (C2 C3:fy (fy Z4)) (us:fy PcU) (M:Z5->c5) (l:jl)(_:vs=[.ref A.p,.ref l])(_:StC CS CD C CW CW H A wd C2 C3 us M)(_:∀H',aj H H'->Q (.str (Str.join (Str.ofString " ") (((l3 λi=>(A.n i:Z4)).map Z8).map shT))) H')
inductive ja(CS CD C CW CT:jl)(vs:fy V)(H:Hp)(Q:VK)(E:XK):Z3
 |m (A:SAd) (wd:Z5) (C2 C3:fy (fy Z4)) (us:fy PcU) (M:Z5->c5) (l:jl) (b r0 r1 r2 r3:Z4) (C0:fy Z4)(_:vs=[.ref A.p,.ref l])(_:jy H l (.nums (b::r0::r1::r2::r3::C0)))(_:StC CS CD C CW CW H A wd C2 C3 us M)(_:1≤C0.length)(_:C0.length≤7)(_:0≤b)(_:b+C0.length≤C2.length)(_:∀ x∈r0::r1::r2::r3::C0,0≤x/\x≤1000000000000)(_:∀x H',vX wd C3 b C0 r0 r1 r2 r3 x->aj H H'->Q (.str (dI x)) H')
def KnR(z:Z6):Z3:=z = "day"∨z = "keep"∨z = "marks"∨z = "plan"
def kX(CS CD C CW CT:jl)(z:Z6):Sp:=if z = "day" then kI CS CD C CW else if z = "keep" then ji CS CD C CW else if z = "marks" then iD CS CD C CW else ja CS CD C CW CT
def Y5(CK:jl)(H:Hp)(k p:jl):Z3:=∃dx,H k=some (.ins CK dx [("store",.ref p)])
inductive jQ(CK CS CD C CW CT:jl)(vs:fy V)(H:Hp)(Q:VK)(E:XK):Z3
 |m (k p:jl) (z hd:Z6) (td:Told)(_:vs=[.ref k,.str z])(_:Y5 CK H k p)(_:z.length≤400)(_:wO z hd td)(_:KnR hd)(_:∀l H',jy H' l td->H l=Z0->aj H H'->∀E',kX CS CD C CW CT hd [.ref p,.ref l] H' Q E')
inductive rG(CK CS CD C:jl)(vs:fy V)(H:Hp)(Q:VK)(E:XK):Z3
 |m (k dx:jl) (wd:Z4) (sk ea:V)(_:vs=[.ref k,.int wd,sk,ea,.str "last 1"])(_:H k=some (.ins CK dx []))(_:1≤wd/\wd≤40)(_:∀(A:SAd)(H':Hp),H' k=some (.ins CK dx [("store",.ref A.p)])->(∀i,A.n i=0)->(∀CW,StC CS CD C CW CW H' A wd.toNat [List.replicate wd.toNat 0] [[]] [] (λ_ _=>Z0))->(∀ b∈A.sm++A.ft,H b=Z0)->aV [k] H H'->Q .non H')
def yN{CS CD C CW CT:jl}:kX CS CD C CW CT "day" = kI CS CD C CW:=by unfold kX;rw[aiN rfl]
def vK{CS CD C CW CT:jl}:kX CS CD C CW CT "keep" = ji CS CD C CW:=by unfold kX;repeat (first|rw[aiN rfl]|rw[aiJ o4])
def tP{CS CD C CW CT:jl}:kX CS CD C CW CT "marks" = iD CS CD C CW:=by unfold kX;repeat (first|rw[aiN rfl]|rw[aiJ o4])
def vm{CS CD C CW CT:jl}:kX CS CD C CW CT "plan" = ja CS CD C CW CT:=by unfold kX;repeat (first|rw[aiN rfl]|rw[aiJ o4])
def GJ{as:fy At}(h:gu as):(dn as).length≤(as.map fun|.c s=>s.length|.n _=>20).sum:=by
 rw[←xG,wu];unfold flA
 induction as with
 |nil=>simp
 |cons a as e=>
  let:=e λk b=>h k<|aiZ _ b
  rw[List.flatMap_cons,aji,ajh,List.sum_cons];refine Nat.add_le_add ?_ this;cases a with
  |c s=>exact ak6<|xG s
  |n k=>have:=h k o8;rw[xG];exact gn this.1 this.2
def PN{as:fy At}(h:gu as)(e:Nat.ble ((as.map fun|.c s=>s.length|.n _=>20).sum) 400=Z1):(dn as).length≤400:=ai9 (GJ h)<|amX e
inductive mQ(vs:fy V)(H:Hp)(Q:VK)(E:XK):Z3
 |m (c:Z4) (wd:Z5)(_:vs=[.int c,.int (wd:Z4)])(_:1≤wd)(_:wd≤40)(_:∀l L chs H',H' l=some (.lst L)->H l=Z0->fZ H' L chs->oq wd chs->chs.length≤3->aj H H'->Q (.ref l) H')
inductive mL(K:Frag)(vs:fy V)(H:Hp)(Q:VK)(E:XK):Z3
 |m (c wa:jl) (ws:fy Z6) (C0:fy Z4) (wt:Z4)(_:vs=[.ref c,.ref wa])(_:X0 K H c (ws.map V.str))(_:ws.length≤10)(_:∀ w∈ws,Wd4 w)(_:H wa=some (.lst (C0.map Z8)))(_:C0[ws.length]?=some wt)(_:∀l H',H' l=some (.lst ((cE wt ws).map V.str))->H l=Z0->aj H H'->Q (.ref l) H')
structure xh(H:Hp)(cl:jl)(chss:fy (fy (Z4×Z4))):Z3 where
 ex:∃PL:fy jl,H cl=some (.lst (PL.map V.ref))/\PL.length=chss.length/\∀(i:Z5)b cs,PL[i]?=some b->chss[i]?=some cs->∃L,H b=some (.lst L)/\fZ H L cs
def xh.same{H H':Hp}{cl:jl}{chss:fy (fy (Z4×Z4))}(h:xh H cl chss)(s:aj H H'):xh H' cl chss:=by let⟨g,h1,h2,h3⟩:=h.ex;exact{g,s _ _ h1,h2,λi b f l j=>let ⟨L,a,c⟩:=h3 i b f l j;{L,s _ _ a,c.mono λb xs e=>s _ _ e}}
inductive su(vs:fy V)(H:Hp)(Q:VK)(E:XK):Z3
 |m (cl:jl) (wd:Z5) (bv:V) (d:Z4) (chss:fy (fy (Z4×Z4)))(_:vs=[.ref cl,.int (wd:Z4),bv,.int d])(_:xh H cl chss)(_:∀ cs∈chss,oq wd cs)(_:chss.length≤20)(_:wd≤40)(_:(bv=.non/\Q (.int (wd:Z4)) H)∨∃b e:Z5,bv=.int (b:Z4)/\d =(e:Z4)/\b≤e/\e≤chss.length/\∀(n:Z5)H',WrN (cP chss) (b:Z4) (e:Z4) n->aj H H'->Q (.int (n:Z4)) H')
def gJ(ws:fy Z6)(w:Z6):V:=if w=wS then((br isW ws).map λi:Nat=>V.int ↥i).getD .non else if w=wL then((br isK ws).map λi:Nat=>V.int ↥i).getD .non else .non
inductive sj(K:Frag)(vs:fy V)(H:Hp)(Q:VK)(E:XK):Z3
 |m (c:jl) (ws:fy Z6) (w:Z6)(_:vs=[.ref c,.str w])(_:X0 K H c (ws.map V.str))(_:ws.length≤10)(_:Q (gJ ws w) H)
inductive qH (K:Frag) (vs:fy V) (H:Hp) (Q:VK) (E:XK):Z3
 |mk (cl c wa ra:jl) (wd C6:Z5) (chss:fy (fy (Z4×Z4))) (ws:fy Z6) (C1:fy (fy Z4)) (C0:fy Z4) (r0 r1 r2 r3:Z4):vs=[.ref cl,.int (wd:Z4),.int (C6:Z4),.ref c,.ref wa,.ref ra]->xh H cl chss->(∀ cs∈chss,oq wd cs)->chss.length≤20->wd≤40->X0 K H c (ws.map V.str)->VW ws->ws.length=C1.length->C6+ws.length≤chss.length+1->H wa=some (.lst (C0.map Z8))->H ra=some (.lst [.int r0,.int r1,.int r2,.int r3])->Fit C1 C0 r0 r1 r2 r3->i7 wd (cP chss) (C6:Z4) C1->(∀H',aj H H'->Q (.int (sumTo (bA C1 C0 r0 r1 r2 r3 ws) ws.length)) H')->qH K vs H Q E
inductive rP(vs:fy V)(H:Hp)(Q:VK)(E:XK):Z3
 |m (wa:jl) (C0:fy Z4) (x:Lf)(_:vs=[.str (dI x),.ref wa])(_:H wa=some (.lst (C0.map Z8)))(_:x.1.length=C0.length)(_:1≤C0.length)(_:C0.length≤7)(_:gH C0 x.1)(_:0≤x.2)(_:x.2<10 ^ 60)(_:∀t l H',H' t=some (.tup [.ref l,.int x.2])->H' l=some (.lst (x.1.map V.str))->aj H H'->Q (.ref t) H')
inductive qo(K:Frag)(vs:fy V)(H:Hp)(Q:VK)(E:XK):Z3
 |m (a c:jl) (ws us:fy Z6)(_:vs=[.ref a,.ref c])(_:X0 K H a (ws.map V.str))(_:X0 K H c (us.map V.str))(_:ws.length=us.length)(_:ws.length≤10)(_:∀ w∈ws,Wd4 w)(_:∀ w∈us,Wd4 w)(_:∀H',aj H H'->Q (.bl (!HT.lexLt (us.map rkW) (ws.map rkW))) H')
inductive pA(vs:fy V)(H:Hp)(Q:VK)(E:XK):Z3
 |m (c:Z4)(_:vs=[.int c])(_:∀l(r0 r1 r2 r3:Z4)H',H' l=some (.lst [.int r0,.int r1,.int r2,.int r3])->H l=Z0->(∀ x∈[r0,r1,r2,r3],0≤x/\x≤1000000000000)->aj H H'->Q (.ref l) H')
inductive lZ(vs:fy V)(H:Hp)(Q:VK)(E:XK):Z3
 |m (c:Z4) (m:Z5)(_:vs=[.int c,.int (m:Z4)])(_:m≤7)(_:∀l(ns:fy Z4)H',H' l=some (.lst (ns.map Z8))->H l=Z0->ns.length=m->(∀ x∈ns,(0:Z4)≤x/\x≤1000000000000)->aj H H'->Q (.ref l) H')
inductive oW(K:Frag)(vs:fy V)(H:Hp)(Q:VK)(E:XK):Z3
 |m (a:jl) (ns:fy Z4)(_:vs=[.ref a])(_:X0 K H a (ns.map Z8))(_:ns.length≤63)(_:∀H',Q (.bl Z1) H')
instance:Inhabited World:=⟨{λ_ _=>0,{strHash:=λ_=>0,shareClass:=λ_=>0,mergeTok:=λ_=>0,idOf:=λ_=>0,idOfShared:=λ_ _=>0,followText:=λ_=>Z1,idOfImm:=λ_=>0}}⟩
structure Gc where (P:t6) (w:t7) (K:Frag) (mg:Z6->nt mu) (base:Heap) (t_W cD cj bZ cV eE bT:Tok) (aA cO aG aD aI bO cF av bH cB c9 fF:jl) deriving Inhabited
inductive Hy(w:t7)(K:Frag)(mg:Z6->nt mu)(t_W cD cj bZ cV eE bT:Tok)(aA cO aG aD aI bO cF av bH cB c9 fF:jl):Z3
 |m {h:Heap} (_:K.In h) (_:h.Ns mainGlobals mg) (_:nsIn K mainGlobals "W" = some (some (.int 18446744073709551615 t_W))) (_:nsIn K mainGlobals "MOST_BLOCKS" = some (some (.int 40 cD))) (_:nsIn K mainGlobals "MOST_FIGURES" = some (some (.int 20 cj))) (_:nsIn K mainGlobals "MOST_PLANNED" = some (some (.int 7 bZ))) (_:nsIn K mainGlobals "MOST_RATE" = some (some (.int 1000000000000 cV))) (_:nsIn K mainGlobals "FIGURES" = some (some (.str (PySem.Str.ofString "0123456789") eE))) (_:nsIn K mainGlobals "CHECK_FIGURES" = some (some (.int 20 bT))) (_:GA K "Days" aA) (_:GA K "Piece" cO) (_:GA K "Whole" aG) (_:GA K "Shelf" aD) (_:GA K "Task" aI) (_:GA K "LastFew" bO) (_:GA K "AnyOf" cF) (_:GA K "Store" av) (_:GA K "Desk" bH) (_:GA K "ANSWERS" cB) (_:GA K "FORMS" c9) (_:GA K "KEPT" fF) (_:PX K aA) (_:aO K aA "wide") (_:aO K aA "last") (_:aO K aA "tables") (_:aO K aA "set_places") (_:PX K aG) (_:aO K aG "day") (_:aO K aG "rows") (_:aO K aG "check") (_:aO K aG "fits") (_:PX K aD) (_:aO K aD "pieces") (_:aO K aD "follows") (_:PX K aI) (_:aO K aI "sizes") (_:aO K aI "weights") (_:aO K aI "rates") (_:PX K bO) (_:aO K bO "many") (_:PX K cF) (_:aO K cF "rules") (_:PX K av) (_:aO K av "days") (_:aO K av "rule") (_:aO K av "seek") (_:aO K av "each") (_:aO K av "shelves") (_:aO K av "noted") (_:aO K av "done") (_:aO K av "seals") (_:PX K bH) (_:aO K bH "store") (_:MF K aA "__init__" "Days.__init__" jb) (_:MF K aA "passes" "Days.passes" kQ) (_:MF K aA "table" "Days.table" mq) (_:MF K aA "written" "Days.written" jW) (_:MF K aA "ask_change" "Days.ask_change" iy) (_:MF K aA "ask_day" "Days.ask_day" jM) (_:GF K "ask_wide" qt) (_:GF K "turned" uZ) (_:GF K "check_of" pQ) {f9:jl} (_:FA K cO "__init__" f9) (_:MV K "__init__" "Piece.__init__" iU f9) {f10:jl} {od10 an10:nt jl} {sl10:sA (nt mu)} {oc10 kV10 dc10 pm10 cd10 ct10:mu} (_:FA K aG "__init__" f10) (_:isFn K (.ref f10)=Z1) {td10:jl} {yc10:mu} {yd10:nt jl} {yn10:Z5} {yl10:sA (nt mu)} (_:K.lookup f10=some {oc10,od10,.func (fnOf "__init__" "Whole.__init__" (fz dw) (dj dw) (ay dw) (.ref td10) kV10 dc10 pm10 an10 cd10 ct10),sl10}) (_:codeIn K cd10 "Whole.__init__" = Z1) (_:keepIn K (.ref f10)=Z1) (_:K.lookup td10=some {yc10,yd10,.seq #[.none] yn10,yl10}) (_:GF K "whole_of" qk) (_:GF K "writes_number" jA) (_:GF K "number_of" nB) (_:GF K "change_of" nL) (_:MF K aD "__init__" "Shelf.__init__" iX) (_:MF K aD "put" "Shelf.put" n9) (_:MF K aD "lay" "Shelf.lay" oi) (_:MF K aD "following" "Shelf.following" iz) (_:MF K aI "__init__" "Task.__init__" jo) (_:GF K "ask_many" pY) (_:GF K "allowed" qY) (_:GF K "bases_behind" jX) (_:GF K "bases_of" pI) (_:GF K "cost_of" qV) (_:GF K "costs_of" qg) (_:GF K "leg_cost" pT) (_:GF K "day_cost" pR) (_:GF K "bound_of" qc) (_:GF K "best_plan" nZ) (_:GF K "task_of" sq) (_:GF K "sizes_of" qb) (_:GF K "read_row" pD) (_:GF K "told_behind" kU) (_:GF K "ask_form" pW) (_:GF K "is_as_many" lW) (_:GF K "is_within" nX) (_:MF K bO "__init__" "LastFew.__init__" gU) (_:MF K cF "__init__" "AnyOf.__init__" iT) (_:GF K "rule_of" rD) (_:GF K "rule_of_part" j3) (_:MF K av "__init__" "Store.__init__" iR) (_:MF K av "passes" "Store.passes" jR) (_:MF K av "today" "Store.today" kR) (_:MF K av "keep" "Store.keep" mV) (_:MF K av "carry" "Store.carry" kL) (_:MF K av "marks" "Store.marks" kO) (_:MF K av "ask_shelf" "Store.ask_shelf" iw) (_:MF K av "new_piece" "Store.new_piece" iu) (_:MF K av "note" "Store.note" mO) (_:GF K "do_deed" rO) (_:GF K "listed" uQ) (_:GF K "on_day" uI) (_:GF K "on_keep" qN) (_:GF K "on_marks" qa) (_:GF K "on_plan" rH) (_:MF K bH "__init__" "Desk.__init__" jx) (_:MF K bH "say" "Desk.say" qj) (_:GF K "_law_cell" nK) (_:GF K "_law_stir" nW) (_:GF K "_law_block" lQ) (_:GF K "_law_changes" jT) (_:GF K "_law_allowed" jV) (_:GF K "_law_size" nY) (_:GF K "_law_base" nG) (_:GF K "_law_cost" nM) (_:GF K "_law_read" nR) (_:GF K "_law_ahead" mG) (_:GF K "_law_rates" mT) (_:GF K "_law_weights" jS) (_:specialIn K (.ref cO) "__getattribute__" = some (some (.builtin "type.__getattribute__"))) (_:readsIn K cO (.type "type")=Z1) (_:findCls K (.ref cO) (.type "type") "__init__" = some (.val (.ref f9))) (_:GN K "dict") (_:GN K "len") (_:GN K "isinstance") (_:GN K "list") (_:GN K "tuple") (_:GN K "range") (_:GN K "max") (_:GN K "min") (_:GN K "sorted") (_:GN K "set") (_:GN K "enumerate") (_:GN K "str") (_:GN K "int") (_:GN K "all") (_:GN K "sum") (_:GN K "reversed") (_:fj K fF [V.str "whole",V.str "since",V.str "last"]=Z1) {tk_ANSWERS0 tk_ANSWERS1 tk_ANSWERS2 tk_ANSWERS3 tk_ANSWERS4 tk_ANSWERS5 tk_ANSWERS6 tk_ANSWERS7 tk_ANSWERS8 tk_ANSWERS9 tk_ANSWERS10 tk_ANSWERS11 tk_ANSWERS12 tk_ANSWERS13 tk_ANSWERS14:Tok} {fk_ANSWERS0 fk_ANSWERS1 fk_ANSWERS2 fk_ANSWERS3 fk_ANSWERS4 fk_ANSWERS5 fk_ANSWERS6 fk_ANSWERS7 fk_ANSWERS8 fk_ANSWERS9 fk_ANSWERS10 fk_ANSWERS11 fk_ANSWERS12 fk_ANSWERS13 fk_ANSWERS14:jl} {ep_ANSWERS:Z5} (_:(cB==sysModules)=Z2) (_:K.lookup cB=some {.type "dict",Z0,.dict #[{hashStr w (PySem.Str.ofString "day"),.str (PySem.Str.ofString "day") tk_ANSWERS0,.ref fk_ANSWERS0},{hashStr w (PySem.Str.ofString "keep"),.str (PySem.Str.ofString "keep") tk_ANSWERS1,.ref fk_ANSWERS1},{hashStr w (PySem.Str.ofString "seal"),.str (PySem.Str.ofString "seal") tk_ANSWERS2,.ref fk_ANSWERS2},{hashStr w (PySem.Str.ofString "tidy"),.str (PySem.Str.ofString "tidy") tk_ANSWERS3,.ref fk_ANSWERS3},{hashStr w (PySem.Str.ofString "carry"),.str (PySem.Str.ofString "carry") tk_ANSWERS4,.ref fk_ANSWERS4},{hashStr w (PySem.Str.ofString "harm"),.str (PySem.Str.ofString "harm") tk_ANSWERS5,.ref fk_ANSWERS5},{hashStr w (PySem.Str.ofString "heal"),.str (PySem.Str.ofString "heal") tk_ANSWERS6,.ref fk_ANSWERS6},{hashStr w (PySem.Str.ofString "marks"),.str (PySem.Str.ofString "marks") tk_ANSWERS7,.ref fk_ANSWERS7},{hashStr w (PySem.Str.ofString "lies"),.str (PySem.Str.ofString "lies") tk_ANSWERS8,.ref fk_ANSWERS8},{hashStr w (PySem.Str.ofString "line"),.str (PySem.Str.ofString "line") tk_ANSWERS9,.ref fk_ANSWERS9},{hashStr w (PySem.Str.ofString "reach"),.str (PySem.Str.ofString "reach") tk_ANSWERS10,.ref fk_ANSWERS10},{hashStr w (PySem.Str.ofString "fetch"),.str (PySem.Str.ofString "fetch") tk_ANSWERS11,.ref fk_ANSWERS11},{hashStr w (PySem.Str.ofString "price"),.str (PySem.Str.ofString "price") tk_ANSWERS12,.ref fk_ANSWERS12},{hashStr w (PySem.Str.ofString "way"),.str (PySem.Str.ofString "way") tk_ANSWERS13,.ref fk_ANSWERS13},{hashStr w (PySem.Str.ofString "plan"),.str (PySem.Str.ofString "plan") tk_ANSWERS14,.ref fk_ANSWERS14}] ep_ANSWERS,#[]}) (_:GA K "on_day" fk_ANSWERS0) (_:GA K "on_keep" fk_ANSWERS1) (_:GA K "on_seal" fk_ANSWERS2) (_:GA K "on_tidy" fk_ANSWERS3) (_:GA K "on_carry" fk_ANSWERS4) (_:GA K "on_harm" fk_ANSWERS5) (_:GA K "on_heal" fk_ANSWERS6) (_:GA K "on_marks" fk_ANSWERS7) (_:GA K "on_lies" fk_ANSWERS8) (_:GA K "on_line" fk_ANSWERS9) (_:GA K "on_reach" fk_ANSWERS10) (_:GA K "on_fetch" fk_ANSWERS11) (_:GA K "on_price" fk_ANSWERS12) (_:GA K "on_way" fk_ANSWERS13) (_:GA K "on_plan" fk_ANSWERS14) {tk_FORMS0 tk_FORMS1 tk_FORMS2 tk_FORMS3 tk_FORMS4 tk_FORMS5 tk_FORMS6 tk_FORMS7 tk_FORMS8 tk_FORMS9 tk_FORMS10 tk_FORMS11 tk_FORMS12:Tok} {fk_FORMS0 fk_FORMS1 fk_FORMS2 fk_FORMS3 fk_FORMS4 fk_FORMS5 fk_FORMS6 fk_FORMS7 fk_FORMS8 fk_FORMS9 fk_FORMS10 fk_FORMS11 fk_FORMS12:jl} {ep_FORMS:Z5} (_:(c9==sysModules)=Z2) (_:K.lookup c9=some {.type "dict",Z0,.dict #[{hashStr w (PySem.Str.ofString "seal"),.str (PySem.Str.ofString "seal") tk_FORMS0,.ref fk_FORMS0},{hashStr w (PySem.Str.ofString "tidy"),.str (PySem.Str.ofString "tidy") tk_FORMS1,.ref fk_FORMS1},{hashStr w (PySem.Str.ofString "carry"),.str (PySem.Str.ofString "carry") tk_FORMS2,.ref fk_FORMS2},{hashStr w (PySem.Str.ofString "harm"),.str (PySem.Str.ofString "harm") tk_FORMS3,.ref fk_FORMS3},{hashStr w (PySem.Str.ofString "heal"),.str (PySem.Str.ofString "heal") tk_FORMS4,.ref fk_FORMS4},{hashStr w (PySem.Str.ofString "marks"),.str (PySem.Str.ofString "marks") tk_FORMS5,.ref fk_FORMS5},{hashStr w (PySem.Str.ofString "lies"),.str (PySem.Str.ofString "lies") tk_FORMS6,.ref fk_FORMS6},{hashStr w (PySem.Str.ofString "line"),.str (PySem.Str.ofString "line") tk_FORMS7,.ref fk_FORMS7},{hashStr w (PySem.Str.ofString "reach"),.str (PySem.Str.ofString "reach") tk_FORMS8,.ref fk_FORMS8},{hashStr w (PySem.Str.ofString "fetch"),.str (PySem.Str.ofString "fetch") tk_FORMS9,.ref fk_FORMS9},{hashStr w (PySem.Str.ofString "price"),.str (PySem.Str.ofString "price") tk_FORMS10,.ref fk_FORMS10},{hashStr w (PySem.Str.ofString "way"),.str (PySem.Str.ofString "way") tk_FORMS11,.ref fk_FORMS11},{hashStr w (PySem.Str.ofString "plan"),.str (PySem.Str.ofString "plan") tk_FORMS12,.ref fk_FORMS12}] ep_FORMS,#[]}) (_:fj K fk_FORMS0 [V.int 1,V.int 1]=Z1) (_:fj K fk_FORMS1 [V.int 0,V.int 0]=Z1) (_:fj K fk_FORMS2 [V.int 2,V.int 2]=Z1) (_:fj K fk_FORMS3 [V.int 4,V.int 4]=Z1) (_:fj K fk_FORMS4 [V.int 2,V.int 2]=Z1) (_:fj K fk_FORMS5 [V.int 0,V.int 0]=Z1) (_:fj K fk_FORMS6 [V.int 1,V.int 1]=Z1) (_:fj K fk_FORMS7 [V.int 2,V.int 2]=Z1) (_:fj K fk_FORMS8 [V.int 1,V.int 1]=Z1) (_:fj K fk_FORMS9 [V.int 1,V.non]=Z1) (_:fj K fk_FORMS10 [V.int 1,V.non]=Z1) (_:fj K fk_FORMS11 [V.int 1,V.non]=Z1) (_:fj K fk_FORMS12 [V.int 6,V.non]=Z1)
def Go(c:Gc):Z3:=Hy c.w c.K c.mg c.t_W c.cD c.cj c.bZ c.cV c.eE c.bT c.aA c.cO c.aG c.aD c.aI c.bO c.cF c.av c.bH c.cB c.c9 c.fF->∀{f fd},Fun c.K "law" "law" kB f fd->aM c.P c.w c.K c.mg c.base (CXx c.P c.w) 13 f fd ["_law_script"] (oW c.K)
noncomputable def g0:Gc:=Classical.epsilon λc=>¬Go c
noncomputable def P:t6:=g0.P
noncomputable def w:t7:=g0.w
noncomputable def K:Frag:=g0.K
noncomputable def mg:Z6->nt mu:=g0.mg
noncomputable def base:Heap:=g0.base
noncomputable def t_W:Tok:=g0.t_W
noncomputable def cD:Tok:=g0.cD
noncomputable def cj:Tok:=g0.cj
noncomputable def bZ:Tok:=g0.bZ
noncomputable def cV:Tok:=g0.cV
noncomputable def eE:Tok:=g0.eE
noncomputable def bT:Tok:=g0.bT
noncomputable def aA:jl:=g0.aA
noncomputable def cO:jl:=g0.cO
noncomputable def aG:jl:=g0.aG
noncomputable def aD:jl:=g0.aD
noncomputable def aI:jl:=g0.aI
noncomputable def bO:jl:=g0.bO
noncomputable def cF:jl:=g0.cF
noncomputable def av:jl:=g0.av
noncomputable def bH:jl:=g0.bH
noncomputable def cB:jl:=g0.cB
noncomputable def c9:jl:=g0.c9
noncomputable def fF:jl:=g0.fF
abbrev bh:=@DefX P w K mg base
abbrev dM:=@wQ P w K mg base
abbrev kF:=@zB P w K mg base
abbrev CZ:=@Gh P w K mg base
abbrev Kg:=@Rt P w K mg base
structure Txt:Z3 where
 m_W:mg "W" = some (.int 18446744073709551615 t_W)
 zp:mg "MOST_BLOCKS" = some (.int 40 cD)
 xR:mg "MOST_FIGURES" = some (.int 20 cj)
 yh:mg "MOST_PLANNED" = some (.int 7 bZ)
 Bu:mg "MOST_RATE" = some (.int 1000000000000 cV)
 FQ:mg "FIGURES" = some (.str (PySem.Str.ofString "0123456789") eE)
 KW:mg "CHECK_FIGURES" = some (.int 20 bT)
 aix:mg "Days" = some (.ref aA)
 bN:Cls K aA
 iB:aO K aA "wide"
 dH:aO K aA "last"
 fB:aO K aA "tables"
 ef:aO K aA "set_places"
 HP:mg "Piece" = some (.ref cO)
 ahF:mg "Whole" = some (.ref aG)
 G1:Cls K aG
 om:aO K aG "day"
 lV:aO K aG "rows"
 kP:aO K aG "check"
 mR:aO K aG "fits"
 ahS:mg "Shelf" = some (.ref aD)
 fQ:Cls K aD
 gY:aO K aD "pieces"
 c8:aO K aD "follows"
 aiA:mg "Task" = some (.ref aI)
 dc:Cls K aI
 c7:aO K aI "sizes"
 eU:aO K aI "weights"
 eY:aO K aI "rates"
 aej:mg "LastFew" = some (.ref bO)
 DA:Cls K bO
 jN:aO K bO "many"
 ag5:mg "AnyOf" = some (.ref cF)
 ID:Cls K cF
 kW:aO K cF "rules"
 ahy:mg "Store" = some (.ref av)
 bu:Cls K av
 eW:aO K av "days"
 mS:aO K av "rule"
 mW:aO K av "seek"
 lP:aO K av "each"
 dR:aO K av "shelves"
 gA:aO K av "noted"
 gg:aO K av "done"
 kK:aO K av "seals"
 aiy:mg "Desk" = some (.ref bH)
 iY:Cls K bH
 jG:aO K bH "store"
 D7:mg "ANSWERS" = some (.ref cB)
 AD:mg "FORMS" = some (.ref c9)
 QA:mg "KEPT" = some (.ref fF)
 aiB:mg "dict" = Z0
 bE:mg "len" = Z0
 AS:mg "isinstance" = Z0
 zG:mg "list" = Z0
 j0:mg "tuple" = Z0
 eO:mg "range" = Z0
 wV:mg "max" = Z0
 zu:mg "min" = Z0
 Iu:mg "sorted" = Z0
 aef:mg "set" = Z0
 gE:mg "enumerate" = Z0
 m8:mg "str" = Z0
 vN:mg "int" = Z0
 afb:mg "all" = Z0
 afj:mg "sum" = Z0
 DG:mg "reversed" = Z0
 D8:fj K fF [V.str "whole",V.str "since",V.str "last"]=Z1
section
variable(T:Txt)
include T in
theorem ER{f:jl}{fd:q9}(F:Fun K "turned" "turned" uZ f fd):⋯ 1 f fd ["number"] (qP):=by refine F.okY Ff ?_;rintro vs H Q E ⟨n,rfl,q⟩;refine{J,λa A outer s b=>{_,(aq<|aJ<|aB bf (aB bW (aB eX (pv 0) au)<|aB bf (eL (v:=.int 18446744073709551615) J T.m_W {1}) au)<|aB gx (pv 0)<|iZ (n:=144115188075855872)),?_}};exists 1,3,.inr ⟨o5,o5⟩,3,3,o5,1,3,⟨o5,o5⟩,3;exact q
variable(qw:bh "turned" 1 ["number"] qP)
include T qw in
theorem Bp{f:jl}{fd:q9}(F:Fun K "check_of" "check_of" pQ f fd):⋯ 2 f fd ["start","day","rows"] (ve):=by
 refine F.okY fO ?_;rintro vs H Q E ⟨s1,d,a,L,rows,rfl,p,R,a1,q⟩;refine⟨J,λa2 A outer s hr=>⟨_,(ai (psS 3 fO.nd<|bI<|aa (aB bf (pv 0) au)<|aa (pv 1) ah)
   (ai (cR ajd J (zw (ck<|pv 2)<|wX<|pv 2) (lY J<|bS (pgN 4 fO.nd)<|bS (pgN 5 fO.nd) gD)
   (aq<|aY<|cK ai6 alf alg rZ (pv 3)<|aa (bI<|aa (pv 4)<|aa (pv 5) ah) ah))
   (ai (psS 6 fO.nd au)
   (ai (cR ajd J (ck<|pv 3) (pgN 7 fO.nd)
   (aq<|psS 6 fO.nd<|aB abt (pcS qw az hr<|aa (pv 6) ah)<|pv 7))
   (aq<|aJ<|pv 6))))),?_⟩⟩
 dsimp only[aX];refine{1,3,1,v9,λm O=>?_};let U:a≠m:=p.elim (λh=>ao h O) λh=>ao h O;rcases p with p|p
 .refine .inl ⟨_,J,a,J,{_,X0.of (by rwa[ak U])},gw (K:=K) (a:=a) (xs:=L) (λi σ H2=>∃j n:nt V,σ=[t9<|↥s1-1,t9 ↥d,t8 a,t8 m,j,n,Z0,Z0]/\aj H H2∧
   H2 m=some (.lst ((s1::d::flat (rows.take i)).map λz:Nat=>V.int ↥z)))
  {Z0,Z0,J,aj.new O,by rw[af];show some (HO.lst [V.int<|↥s1-1+1,V.int ↥d])=_;rw[anC];rfl} (λi σ H2 _ B=>by let⟨_,_,_,s2,_⟩:=B;exact X0.of<|s2 a _ p) ?_ ?_⟩
  .rintro i v σ H2 hi ⟨j,n,rfl,s2,h2⟩;let⟨t,r,rfl,g,Y⟩:=R.get i v hi;let a0:i<rows.length:=(aiH.mp g).1;exists t,1,X3.of<|s2 t _ Y,J,_,1,3;refine{1,.inl {J,_,X0.of h2},2,v9,λl S=>?_};let x:m≠l:=ao h2 S;let u:H l=Z0:=s2.free S;exists m,l,3,(by rwa[ak x]),af,?_
   .let e1:(flat<|rows.take i).length=2*i:=by rw[zQ,aiV];omega
    show _≤Z7;simp only[List.length_map,List.length_cons,e1,List.length_nil];exact ajt<|aF o6
   .exists _,1,λb o e=>?_
    .rw[ak<|ao e O,ak<|ao e u];exact s2 b o e
    .rw[af];let e:rows.take (i+1)=rows.take i++[r]:=by rw[ai1,g];rfl
     rw[e,yT];simp
  .rintro σ H2 ⟨j,n,rfl,s2,h2⟩;let h2:H2 m=some (.lst ((s1::d::flat rows).map λz:Nat=>V.int ↥z)):=by rw[h2,R.len,ai8]
   refine⟨_,J,m,J,{_,X0.of h2},gw (K:=K) (a:=m) (xs:=(s1::d::flat rows).map λz:Nat=>V.int ↥z) (λi σ c=>∃C:nt V,σ=[t9<|↥s1-1,t9 ↥d,t8 a,t8 m,j,n,some<|.int ((((s1::d::flat rows).take i).foldl Chk.stp 0:Z5):Z4),C]/\c=H2)
    ⟨Z0,J,J⟩ (λi σ c _ B=>by let⟨_,_,e⟩:=B;exact by rw[e];exact X0.of h2) ?_ ?_⟩
   .rintro i v σ c hi ⟨C,rfl,rfl⟩;rw[aiR] at hi;cases y:(s1::d::flat rows)[i]? with
    |none=>rw[y] at hi;cases hi
    |some z=>
     rw[y] at hi;let hi:V.int ↥z=v:=aiY hi;subst hi;exists 2,1,3;let e:Builtin.bitXor (tI ((((s1::d::flat rows).take i).foldl Chk.stp 0:Z5):Z4)) ↥z =((((s1::d::flat rows).take (i+1)).foldl Chk.stp 0:Z5):Z4):=by rw[GG,CY,ai1,y];simp only[Option.toList,List.foldl_append,List.foldl_cons,List.foldl_nil];rfl
     exact{some<|V.int ↥z,by rw[←e];rfl,J}
   .rintro σ c ⟨C,rfl,rfl⟩;exists 1;rw[aiE,ai8];exact q c s2
 .refine .inr ⟨_,J,a,J,{_,X3.of (by rwa[ak U])},Qy (K:=K) (a:=a) (xs:=L) (λi σ H2=>∃j n:nt V,σ=[t9<|↥s1-1,t9 ↥d,t8 a,t8 m,j,n,Z0,Z0]/\aj H H2∧
   H2 m=some (.lst ((s1::d::flat (rows.take i)).map λz:Nat=>V.int ↥z)))
  {Z0,Z0,J,aj.new O,by rw[af];show some (HO.lst [V.int<|↥s1-1+1,V.int ↥d])=_;rw[anC];rfl} (λi σ H2 _ B=>by let⟨_,_,_,s2,_⟩:=B;exact X3.of<|s2 a _ p) ?_ ?_⟩
  .rintro i v σ H2 hi ⟨j,n,rfl,s2,h2⟩;let⟨t,r,rfl,g,Y⟩:=R.get i v hi;let a0:i<rows.length:=(aiH.mp g).1;exists t,1,X3.of<|s2 t _ Y,J,_,1,3;refine{1,.inl {J,_,X0.of h2},2,v9,λl S=>?_};let x:m≠l:=ao h2 S;let u:H l=Z0:=s2.free S;exists m,l,3,(by rwa[ak x]),af,?_
   .let e1:(flat<|rows.take i).length=2*i:=by rw[zQ,aiV];omega
    show _≤Z7;simp only[List.length_map,List.length_cons,e1,List.length_nil];exact ajt<|aF o6
   .exists _,1,λb o e=>?_
    .rw[ak<|ao e O,ak<|ao e u];exact s2 b o e
    .rw[af];let e:rows.take (i+1)=rows.take i++[r]:=by rw[ai1,g];rfl
     rw[e,yT];simp
  .rintro σ H2 ⟨j,n,rfl,s2,h2⟩;let h2:H2 m=some (.lst ((s1::d::flat rows).map λz:Nat=>V.int ↥z)):=by rw[h2,R.len,ai8]
   refine⟨_,J,m,J,{_,X0.of h2},gw (K:=K) (a:=m) (xs:=(s1::d::flat rows).map λz:Nat=>V.int ↥z) (λi σ c=>∃C:nt V,σ=[t9<|↥s1-1,t9 ↥d,t8 a,t8 m,j,n,some<|.int ((((s1::d::flat rows).take i).foldl Chk.stp 0:Z5):Z4),C]/\c=H2)
    ⟨Z0,J,J⟩ (λi σ c _ B=>by let⟨_,_,e⟩:=B;exact by rw[e];exact X0.of h2) ?_ ?_⟩
   .rintro i v σ c hi ⟨C,rfl,rfl⟩;rw[aiR] at hi;cases y:(s1::d::flat rows)[i]? with
    |none=>rw[y] at hi;cases hi
    |some z=>
     rw[y] at hi;let hi:V.int ↥z=v:=aiY hi;subst hi;exists 2,1,3;let e:Builtin.bitXor (tI ((((s1::d::flat rows).take i).foldl Chk.stp 0:Z5):Z4)) ↥z =((((s1::d::flat rows).take (i+1)).foldl Chk.stp 0:Z5):Z4):=by rw[GG,CY,ai1,y];simp only[Option.toList,List.foldl_append,List.foldl_cons,List.foldl_nil];rfl
     exact{some<|V.int ↥z,by rw[←e];rfl,J}
   .rintro σ c ⟨C,rfl,rfl⟩;exists 1;rw[aiE,ai8];exact q c s2
variable(lI:bh "check_of" 2 ["start","day","rows"] ve)
include T lI in
theorem sY{f:jl}{fd:q9}(F:Fun K "__init__" "Piece.__init__" iU f fd):⋯ 3 f fd ["self","start","day","rows","check"] (qh K):=by
 refine F.okY kY ?_;rintro vs H Q E ⟨p,C,dx,a,s1,d,L,rows,cv,c,rfl,hp,cl,n1,n2,n3,n4,hA,R,a0,a4,q⟩;refine⟨J,λa6 A outer s hr=>⟨_,(ai (bV (pv 0) (pv 2) J)
   (ai (bV (pv 0) (bF dZ o9 T.j0 ajR<|aa (dg (N:=["place","block"]) (k:=2) (cap:=[]) J J (zw (ck<|pv 3)<|wX<|pv 3) (λ_ _ _ _=>(sO (K:=K) (n:=2) J J<|bS (pgN 0 (show(["place","block"]:fy Z6).Nodup from by decide +kernel)<|.inr J)<|bS (pgN 1 (show(["place","block"]:fy Z6).Nodup from by decide +kernel)<|.inr J) gD)) (λ_ _ _ _=>cg) λ_ _ _ _=>(fh<|aa (pv 0)<|aa (pv 1) ah)) ah) J)
   (ai (psS 5 kY.nd<|pcS lI az hr<|aa (pv 1)<|aa (pv 2)<|aa (aZ (pv 0) J) ah)
   (ai (bV (pv 0) (uX (aE oH (pv 4) dN<|aH _) (pv 5)<|pv 4) J)
   (aq<|bV (pv 0) (fu bL (aZ (pv 0) J) (pv 5)<|aH _) J))))),?_⟩⟩
 dsimp only[aX];let a5:a≠p:=by rcases hA with h|h <;> exact bU h hp nofun
 exists 2,p,C,dx,1,hp,cl,n1,(by show 0<1000;decide);let a1:Z9 H p (.ins C dx (bq "day" (V.int ↥d) [])) p=some (.ins C dx [("day",V.int ↥d)]):=af;let k1:aV [p] H (Z9 H p (.ins C dx (bq "day" (V.int ↥d) []))):=cZ aV.refl<|.inl o8;generalize Z9 H p (.ins C dx (bq "day" (V.int ↥d) []))=H1 at a1 k1;let u:H1 a=some (.lst L)∨H1 a=some (.tup L):=hA.imp (λh=>k1 a _ h (⇑a5)) λh=>k1 a _ h (⇑a5);let R1:dO H1 L rows:=R.mono λt xs e=>k1 t _ e (by let:=bU e hp nofun;simpa using this)
 rcases u with u|u
 .refine .inl {1,a,J,{_,X0.of u},λD hD=>?_};refine cQ D (K:=K) (a:=a) (xs:=L) (λi σ g ys=>∃v v':nt V,σ=[v,v']/\aj H1 g/\g D=some (.lst ys)/\dO g ys (rows.take i)) {Z0,Z0,J,aj.new hD,af,{J,λi v e=>by simp at e}} (λi σ g ys _ z0=>by let⟨_,_,_,s5,_⟩:=z0;exact X0.of<|s5 a _ u) ?_ ?_
  .rintro i x σ g ys hi ⟨v,v',rfl,s5,B,S⟩;let⟨t,r,rfl,a3,ht⟩:=R1.get i x hi;refine{t,1,X3.of<|s5 t _ ht,J,_,1,3,2,v9,λt2 y=>?_};let nD:D≠t2:=ao B y;exists by rwa[ak nD],(by rw[S.len,aiV];exact aF o6),_,1,λb o e=>?_,af
   .rw[ak<|ao e hD];exact aj.new y b _<|s5 b _ e
   .rw[ai1,a3];refine(S.mono λb xs e=>?_).snoc ?_
    .rw[ak<|bU e B nofun];exact aj.new y b _ e
    .rw[ak nD.symm,af]
  .rintro σ g ys ⟨v,v',rfl,s5,B,S⟩;rw[show rows.take L.length=rows by rw[R1.len,ai8]] at S;refine{D,1,.inl {X0.of B,λr hr=>?_}};let l:=s5 p _ a1;let O:p≠r:=ao l hr;exists 1,p,C,dx,1,aj.new hr p _ l,cl,n2,(by show 1<1000;decide);rw[zK];let j:Z9 (Z9 g r (.tup ys)) p (.ins C dx [("day",V.int ↥d),("rows",V.ref r)]) p=some (.ins C dx [("day",V.int ↥d),("rows",V.ref r)]):=af;let m:Z9 (Z9 g r (.tup ys)) p (.ins C dx [("day",V.int ↥d),("rows",V.ref r)]) r=some (.tup ys):=by rw[ak O.symm,af]
   let k6:aV [p] g (Z9 (Z9 g r (.tup ys)) p (.ins C dx [("day",V.int ↥d),("rows",V.ref r)])):=cZ (aV.of_same<|aj.new hr)<|.inl o8;let R6:dO (Z9 (Z9 g r (.tup ys)) p (.ins C dx [("day",V.int ↥d),("rows",V.ref r)])) ys rows:=S.mono λt xs e=>k6 t _ e (by let:=bU e l nofun;simpa using this)
   generalize Z9 (Z9 g r (.tup ys)) p (.ins C dx [("day",V.int ↥d),("rows",V.ref r)])=H6 at j m k6 R6;let a2:aV [p] H H6:=λb o e U=>k6 b o (s5 b o<|k1 b o e U) U
   let Y:r≠p:=O.symm;refine{2,1,p,C,dx,_,1,j,cl,n2,Cw,s1,d,r,ys,rows,J,.inr m,R6,a0,λH7 s7=>?_};let last:Q V.non (Z9 (Z9 H7 p (.ins C dx [("day",V.int ↥d),("rows",V.ref r),("check",V.int c)])) p (.ins C dx (bq "fits" (V.bl (decide (V.int c=V.int ((Chk.chk (s1::d::flat rows):Z5):Z4)))) [("day",V.int ↥d),("rows",V.ref r),("check",V.int c)]))):=by
    rw[Bh,dP,abN];refine q r ys _ af (by rw[ak Y];exact s7 r _ m) (R6.mono λt xs e=>?_) λb o e U=>?_
    .rw[ak<|bU e j nofun];exact s7 t _ e
    .rw[ak (⇑U)];exact s7 b _<|a2 b o e U
   rcases a4 with⟨rfl,hc⟩|rfl
   .subst hc;exists 1,J,1;refine dW J ?_;exists 2,p,C,dx,1,s7 p _ j,cl,n3,(by show 2<1000;decide);rw[nc];exists 1,p,C,dx,_,1,af,cl,n3,qx,1,J,1,p,C,dx,1,af,cl,n4,(by show 3<1000;decide);exact last
   .exists 1,J,1;refine cT (by intro h;cases h) ?_;exists 2,p,C,dx,1,s7 p _ j,cl,n3,(by show 2<1000;decide);rw[nc];exists 1,p,C,dx,_,1,af,cl,n3,qx,1,J,1,p,C,dx,1,af,cl,n4,(by show 3<1000;decide);exact last
 .refine .inr {1,a,J,{_,X3.of u},λD hD=>?_};refine qy D (K:=K) (a:=a) (xs:=L) (λi σ g ys=>∃v v':nt V,σ=[v,v']/\aj H1 g/\g D=some (.lst ys)/\dO g ys (rows.take i)) {Z0,Z0,J,aj.new hD,af,{J,λi v e=>by simp at e}} (λi σ g ys _ z0=>by let⟨_,_,_,s5,_⟩:=z0;exact X3.of<|s5 a _ u) ?_ ?_
  .rintro i x σ g ys hi ⟨v,v',rfl,s5,B,S⟩;let⟨t,r,rfl,a3,ht⟩:=R1.get i x hi;refine{t,1,X3.of<|s5 t _ ht,J,_,1,3,2,v9,λt2 y=>?_};let nD:D≠t2:=ao B y;exists by rwa[ak nD],(by rw[S.len,aiV];exact aF o6),_,1,λb o e=>?_,af
   .rw[ak<|ao e hD];exact aj.new y b _<|s5 b _ e
   .rw[ai1,a3];refine(S.mono λb xs e=>?_).snoc ?_
    .rw[ak<|bU e B nofun];exact aj.new y b _ e
    .rw[ak nD.symm,af]
  .rintro σ g ys ⟨v,v',rfl,s5,B,S⟩;rw[show rows.take L.length=rows by rw[R1.len,ai8]] at S;refine{D,1,.inl {X0.of B,λr hr=>?_}};let l:=s5 p _ a1;let O:p≠r:=ao l hr;exists 1,p,C,dx,1,aj.new hr p _ l,cl,n2,(by show 1<1000;decide);rw[zK];let j:Z9 (Z9 g r (.tup ys)) p (.ins C dx [("day",V.int ↥d),("rows",V.ref r)]) p=some (.ins C dx [("day",V.int ↥d),("rows",V.ref r)]):=af;let m:Z9 (Z9 g r (.tup ys)) p (.ins C dx [("day",V.int ↥d),("rows",V.ref r)]) r=some (.tup ys):=by rw[ak O.symm,af]
   let k6:aV [p] g (Z9 (Z9 g r (.tup ys)) p (.ins C dx [("day",V.int ↥d),("rows",V.ref r)])):=cZ (aV.of_same<|aj.new hr)<|.inl o8;let R6:dO (Z9 (Z9 g r (.tup ys)) p (.ins C dx [("day",V.int ↥d),("rows",V.ref r)])) ys rows:=S.mono λt xs e=>k6 t _ e (by let:=bU e l nofun;simpa using this)
   generalize Z9 (Z9 g r (.tup ys)) p (.ins C dx [("day",V.int ↥d),("rows",V.ref r)])=H6 at j m k6 R6;let a2:aV [p] H H6:=λb o e U=>k6 b o (s5 b o<|k1 b o e U) U
   let Y:r≠p:=O.symm;refine{2,1,p,C,dx,_,1,j,cl,n2,Cw,s1,d,r,ys,rows,J,.inr m,R6,a0,λH7 s7=>?_};let last:Q V.non (Z9 (Z9 H7 p (.ins C dx [("day",V.int ↥d),("rows",V.ref r),("check",V.int c)])) p (.ins C dx (bq "fits" (V.bl (decide (V.int c=V.int ((Chk.chk (s1::d::flat rows):Z5):Z4)))) [("day",V.int ↥d),("rows",V.ref r),("check",V.int c)]))):=by
    rw[Bh,dP,abN];refine q r ys _ af (by rw[ak Y];exact s7 r _ m) (R6.mono λt xs e=>?_) λb o e U=>?_
    .rw[ak<|bU e j nofun];exact s7 t _ e
    .rw[ak (⇑U)];exact s7 b _<|a2 b o e U
   rcases a4 with⟨rfl,hc⟩|rfl
   .subst hc;exists 1,J,1;refine dW J ?_;exists 2,p,C,dx,1,s7 p _ j,cl,n3,(by show 2<1000;decide);rw[nc];exists 1,p,C,dx,_,1,af,cl,n3,qx,1,J,1,p,C,dx,1,af,cl,n4,(by show 3<1000;decide);exact last
   .exists 1,J,1;refine cT (by intro h;cases h) ?_;exists 2,p,C,dx,1,s7 p _ j,cl,n3,(by show 2<1000;decide);rw[nc];exists 1,p,C,dx,_,1,af,cl,n3,qx,1,J,1,p,C,dx,1,af,cl,n4,(by show 3<1000;decide);exact last
variable(eV:Kg "Piece" cO "__init__" 3 ["self","start","day","rows","check"] (qh K))
include T eV in
theorem kZ{f:jl}{fd:q9}{l:mu}(F:yl K "__init__" "Whole.__init__" dw f fd l):⋯ 4 f fd ["self","day","rows","check"] (lO aG aG):=by
 refine F.okX sU (λvs H Q E h=>?_) λn A outer s H vs Q E m h=>?_
 .let⟨p,dx,a,d,L,rows,cv,c,rfl,g,i,R,b,e,q⟩:=h;rfl
 let⟨p,dx,a,d,L,rows,cv,c,rfl,g,i,R,b,e,q⟩:=h;exists _,(aq<|aY<|Qj (eL (v:=.ref cO) J T.HP J) eV az (m.mono o7)<|aa (pv 0)<|aa (qv mZ au)<|aa (pv 1)<|aa (pv 2)<|aa (pv 3) ah);refine{2,2,1,p,aG,dx,a,(0),d,L,rows,cv,c,J,g,T.G1,T.om,T.lV,T.kP,T.mR,i,R,b,e,λr j H1 h1 h2 h3 k1=>?_};exact q H1 ⟨dx,r,j,h1,h2,h3⟩ k1
include T in
theorem sZ{f:jl}{fd:q9}(F:Fun K "__init__" "Shelf.__init__" iX f fd):⋯ 1 f fd ["self"] (uS aD):=by
 refine F.okY sV ?_;rintro vs H Q E ⟨p,dx,rfl,c,q⟩;refine⟨J,λe A outer s g=>⟨_,(ai (bV (pv 0) uv J)
   (aq<|bV (pv 0) au J)),?_⟩⟩
 dsimp only[aX];refine λd a=>?_
 let b:p≠d:=ao c a;exists 1,p,aD,dx,1,aj.new a p _ c,T.fQ,T.gY,(by show 0<1000;decide);exists 1,p,aD,dx,1,af,T.fQ,T.c8,(by show 1<1000;decide);rw[dP,show bq "pieces" (V.ref d) [] =([("pieces",V.ref d)]:fy (Z6×V)) from J,BY];refine q d _ {dx,af,by rw[ak b.symm,af]} a ?_;exact cZ (aV.of_same<|aj.new a)<|.inl o8
include T in
theorem Aq{f:jl}{fd:q9}(F:Fun K "lay" "Shelf.lay" oi f fd):⋯ 1 f fd ["self","number","piece"] (Aa aD):=by
 refine F.okY Ab ?_;rintro vs H Q E ⟨p,d,fl,C4,n,a,rfl,⟨dx,h1,h2⟩,e,q⟩;refine⟨J,λh A outer s g=>⟨_,(ai (oG (kh g) (aZ (pv 0) J) (pv 1) (pv 2) J)
   (aq<|bV (pv 0) (aL (nv J) o9 T.wV aku<|aa (aZ (pv 0) J)<|aa (aB bf (pv 1) au) ah) J)),?_⟩⟩
 dsimp only[aX];let b:p≠d:=bU h1 h2 nofun;exists 2,p,aD,dx,_,1,h1,T.fQ,T.gY,EI,1,d,1,jO.k (k:=Sum.inl n) h2<|aF o6;let c:Z9 H d (.dK (putK C4 (Sum.inl n) (V.ref a))) p=some (.ins aD dx (sfs d fl)):=by rwa[ak b]
 exists 1,p,aD,dx,_,1,c,T.fQ,T.c8,pB
 repeat (first|refine{1,?_}|refine{3,?_}|refine{(by first|decide|(dsimp only;decide)|(show 2≤Z7;decide)|(show 1≤Z7;decide)|(show 3≤Z7;decide)|(show 4≤Z7;decide)),?_}|refine{.inl ⟨o5,o5⟩,?_}|refine{.inr ⟨o5,o5⟩,?_}|refine{⟨o5,o5⟩,?_}|refine{3,o5,?_}|refine{3,.inl ⟨o5,o5⟩,?_}|refine{3,.inr ⟨o5,o5⟩,?_}|refine{3,⟨o5,o5⟩,?_}|refine{J,?_}|exists _,1)
 exists p,aD,dx,1,c,T.fQ,T.c8,(by show 2<1000;decide);rw[As];refine q _ {dx,af,by rw[ak b.symm,af]} ?_;exact cZ (cZ aV.refl<|.inl o8)<|.inl o8
variable(kg:dM aD "lay" 1 ["self","number","piece"] (Aa aD))
include T kg in
theorem AZ{f:jl}{fd:q9}(F:Fun K "put" "Shelf.put" n9 f fd):⋯ 2 f fd ["self","piece"] (Aw aD):=by
 refine F.okY rB ?_;rintro vs H Q E ⟨p,d,fl,C4,a,rfl,⟨dx,h1,h2⟩,b,q⟩;refine⟨J,λg A outer s e=>⟨_,(ai (psS 2 rB.nd<|aZ (pv 0) J)
   (ai (aY<|bM (pv 0) T.fQ kg az (e.mono o7)<|aa (pv 2)<|aa (pv 1) ah)
   (aq<|aJ<|pv 2))),?_⟩⟩
 dsimp only[aX];exists 1,p,aD,dx,_,1,h1,T.fQ,T.c8,pB;refine{1,p,dx,1,h1,vJ o4 o4,2,p,d,fl,C4,fl,a,J,⟨dx,h1,h2⟩,b,λH1 c k1=>?_};rw[aiN o6] at c;exact{1,q H1 c k1}
include T in
theorem rL{f:jl}{fd:q9}(F:Fun K "following" "Shelf.following" iz f fd):⋯ 1 f fd ["self"] (mj aD):=by refine F.okY sD ?_;rintro vs H Q E ⟨p,d,fl,C4,rfl,⟨dx,h1,h2⟩,q⟩;refine{J,λa A outer s b=>{_,(aq<|aJ<|aZ (pv 0) J),?_}};dsimp only[aX];exact{1,p,aD,dx,_,1,h1,T.fQ,T.c8,pB,q}
include T in
theorem uU{f:jl}{fd:q9}(F:Fun K "writes_number" "writes_number" jA f fd):⋯ 1 f fd ["word"] (rK):=by
 refine F.okY uq ?_;rintro vs H Q E ⟨z,rfl,r,q⟩;refine⟨J,λt A outer s u=>⟨_,(ai (aW (aE bL (pv 0) aN<|aH _) (aq<|aJ nh) aP)
   (ai (aW (PW.pt<|pw_or (aE j7 (aL m6 o9 T.bE aiT<|aa (pv 0) ah) au<|aH _)<|pw_or (aE jt (aL m6 o9 T.bE aiT<|aa (pv 0) ah) (eL (v:=.int 20) J T.xR {1})<|aH _)<|pw_or1<|aE bL (aQ Sm (pv 0) au λ_ _=>rfl) aN<|aH _) (aq<|aJ nh) aP)
   (aq<|aJ<|aL (BP J) o9 T.afb PyProof.Rows.boot_all<|aa (dg (N:=["sign"]) (k:=1) (cap:=[]) J J (Gx<|pv 0) (λ_ _ _ _=>(pgN 0 (show(["sign"]:fy Z6).Nodup from by decide +kernel)<|.inr J)) (λ_ _ _ _=>cg) λ_ _ _ _=>(fu FW (pv 0) (eL (v:=.str<|PySem.Str.ofString "0123456789") J T.FQ {1}) (by with_unfolding_all rfl))) ah))),?_⟩⟩
 dsimp only[aX];let b:z.length≤Z7:=ai9 r o7;exists 1,J,1;by_cases h0:z=Str.ofString "0"
 .subst h0;refine dW J ?_;let e:okW (Str.ofString "0")=Z1:=by decide +kernel
  rw[e] at q;exact q H<|aj.refl H
 refine cT (λh=>h0<|V.str.inj h) ?_;exists 1,z,J,b,3,1;by_cases h1:¬1≤z.length
 .refine dW o6 ?_;refine fS ?_;rw[XG h1] at q;exact q H<|aj.refl H
 let h1:=amf.mp h1;refine cT o6 ?_;exists 1,z,J,b,3,1;by_cases h2:¬z.length≤20
 .refine dW o6 ?_;refine fS ?_;rw[V9 h2] at q;exact q H<|aj.refl H
 let h2:=amf.mp h2;refine cT o6 ?_;let⟨p,a⟩:=Fx h1;exists 1,z,(0),p,J,J,b,bx (j:=0) a,J,1;by_cases h3:p=48
 .subst h3;refine dW J ?_;rw[GZ (λh=>h0<|Hz h a) a] at q;exact q H<|aj.refl H
 refine cT (λh=>h3<|WG.mp h) ?_;rw[CH h1 h2 (.inr λh=>h3 (by rw[a] at h;exact aiY h))] at q;refine{1,z,J,λn o=>?_};refine Ik n (x:=z) (λi σ m ys=>∃v:nt V,σ=[v]/\m=Z9 H n (.lst ys)/\ys =((z.cps.toList.take i).map nQ).map V.bl) ⟨Z0,J,J,J⟩ ?_ ?_
 .rintro i c σ m ys hi ⟨v,rfl,rfl,g⟩;let l:z.cps.toList[i]?=some c:=⇑hi
  exists 1,3,af,?_,1,(by rw[dP])
  .rw[g,aiE,aiE,aiV,str_len];exact aF o6
  .rw[g,ai1,l];simp[nQ]
 .rintro σ m ys ⟨v,rfl,rfl,g⟩;exists n,(z.cps.toList.map nQ),J,X0.of ?_
  .rw[af,g,ajB o8]
  .let e:(z.cps.toList.map nQ).all id=isNum z:=by unfold isNum;rw[List.all_map];rfl
   rw[e];exact q _<|aj.new o
include T in
theorem BS{f:jl}{fd:q9}(F:Fun K "ask_wide" "ask_wide" qt f fd):⋯ 3 f fd ["wide"] (wZ):=by
 refine F.okY Br ?_;rintro vs H Q E ⟨wd,rfl,q1,b⟩;refine{J,λc A outer s e=>{_,(aq<|aW (PW.pt<|pw_or (aE j7 (pv 0) au<|aH _)<|pw_or1<|aE jt (pv 0) (eL (v:=.int 40) J T.zp {1})<|aH _) (aq cA) aP),?_}};by_cases a:¬(1≤wd/\wd≤40)
 .exists 1,3,1;refine xu (λh=>?_) (λh=>?_)
  .refine fS ?_;exact(b a).elim
  .exists 1,3,1;refine xu (λh'=>(b a).elim) λh'=>?_;simp at h h';omega
 let a:=amf.mp a;exists 1,3,1;refine cT o6 ?_;exists 1,3,1;refine cT o6 ?_;exact q1 a
variable(gy:bh "ask_wide" 3 ["wide"] wZ)
include T gy in
theorem ud{f:jl}{fd:q9}(F:Fun K "__init__" "Days.__init__" jb f fd):⋯ 4 f fd ["self","wide"] (yc aA):=by
 refine F.okY uB ?_;rintro vs H Q E ⟨p,dx,wd,rfl,hp,q1,q2⟩;refine⟨J,λa4 A outer s hr=>⟨_,(ai (aY<|pcS gy az hr<|aa (pv 1) ah)
   (ai (bV (pv 0) (pv 1) J)
   (ai (bV (pv 0) au J)
   (ai (bV (pv 0) (bI<|aa (aB VO (bI<|aa au ah)<|pv 1) ah) J)
   (aq<|bV (pv 0) (bI<|aa (bI ah) ah) J))))),?_⟩⟩
 dsimp only[aX];refine{1,wd,J,λhw=>?_,q2};let q:=q1 hw;exists 2,p,aA,dx,[],J,hp,T.bN,T.iB,(by show 0<1000;decide);exists 1,p,aA,dx,1,af,T.bN,T.dH,(by show 1<1000;decide);rw[dP];refine{v8,λz hz=>?_};refine{1,z,wd,1,J,af,o6,o6,(by show 1*_≤Z7;exact ajt<|aF o6),λt B=>?_};refine{v8,λta x=>?_};let⟨a1,r⟩:=aR x;let⟨a2,U⟩:=aR a1;let⟨Y,g⟩:=aR a2;let⟨b1,a0⟩:=aR B;let⟨b2,n⟩:=aR b1;let⟨c1,nz⟩:=aR hz;exists 1,p,aA,dx,bq "last" (.int 0)<|bq "wide" (.int wd) [],J,(by simp[Z9,g.symm,n.symm,nz.symm]),T.bN,T.fB,(by let:=fP "last" (.int 0)<|bq "wide" (.int wd) [];let:=fP "wide" (.int wd) [];simp at *;omega);refine{ajc _,λe he=>?_};refine{v8,λsa y=>?_};let⟨d1,l⟩:=aR he;let⟨d2,L⟩:=aR d1;let⟨d3,v⟩:=aR d2;let⟨d4,a8⟩:=aR d3;let⟨d5,a5⟩:=aR d4;let⟨e1,C⟩:=aR y;let⟨e2,u⟩:=aR e1;let⟨e3,O⟩:=aR e2;let⟨e4,S⟩:=aR e3;let⟨e5,a7⟩:=aR e4;let⟨e6,a6⟩:=aR e5;exists 1,p,aA,dx,bq "tables" (.ref ta)<|bq "last" (.int 0)<|bq "wide" (.int wd) [],J,(by simp[Z9,u.symm,l.symm]),T.bN,T.ef,(by let:=fP "tables" (.ref ta)<|bq "last" (.int 0)<|bq "wide" (.int wd) [];let:=fP "last" (.int 0)<|bq "wide" (.int wd) [];let:=fP "wide" (.int wd) [];simp at *;omega);let ew:((wd.toNat:Z5):Z4)=wd:=by omega
 refine q ta sa t e _ {{dx,?_},?_,?_,{J,λi a xs h1 h2=>?_},{J,λi a xs h1 h2=>?_},?_,o8,J,λt B=>?_,o6,o6} (λb m=>?_) λb o m j=>?_
 .rw[af,Qn,ew];rfl
 .simp[Z9,g,O.symm,L.symm]
 .simp[Z9,u]
 .match i,h1,h2 with
  |0,h1,h2=>
   let h1:t=a:=⇑h1
   let h2:List.replicate wd.toNat 0=xs:=⇑h2
   subst h1 h2;rw[←HR];simp[Z9,n,S.symm,v.symm,r.symm]
  |i+1,h1,_=>simp at h1
 .match i,h1,h2 with
  |0,h1,h2=>
   let h1:e=a:=⇑h1
   let h2:[]=xs:=⇑h2
   subst h1 h2;simp[Z9,C.symm,l]
  |i+1,h1,_=>simp at h1
 .simp only[List.nodup_cons,List.mem_cons,List.mem_append,List.not_mem_nil,or_false,not_or,not_false_eq_true,List.nodup_nil,and_true,List.cons_append,List.nil_append];grind
 .let:t=List.replicate wd.toNat 0:=⇑B
  rw[this,ajW]
 .simp only[List.mem_cons,List.not_mem_nil,or_false] at m;rcases m with rfl|rfl|rfl|rfl
  .exact Y
  .exact e6
  .exact b2
  .exact d5
 .let j:b≠p:=⇑j
  let hn:∀{c:jl},H c=Z0->b≠c:=λh=>ao m h
  simp[Z9,j,hn e6,hn d5,hn Y,hn b2,hn c1,m]
include T in
theorem rJ{f:jl}{fd:q9}(F:Fun K "ask_change" "Days.ask_change" iy f fd):⋯ 3 f fd ["self","place","block"] (ye aA):=by
 refine F.okY qJ ?_;rintro vs H Q E ⟨p,ta,sa,TL,SL,wd,C2,C3,c,rfl,D,e,q1,a⟩;refine⟨J,λg A outer s h=>⟨_,(ai (aW (PW.pt<|pw_or (aE j7 (pv 1) au<|aH _)<|pw_or1<|aE we (pv 1) (aZ (pv 0) J)<|aH _) (aq cA) aP)
   (aq<|aW (PW.pt<|pw_or (aE j7 (pv 2) au<|aH _)<|pw_or1<|aE jt (pv 2) (eL (v:=.int 18446744073709551615) J T.m_W {1})<|aH _) (aq cA) aP)),?_⟩⟩
 dsimp only[aX];let⟨dx,b⟩:=D.ob;by_cases h1:c.1<0
 .exists 1,3,1;refine dW h1 ?_;refine fS ?_;exact(q1 c.1 (by unfold gh;rw[aiN<|.inl h1])).elim
 exists 1,3,1;refine cT h1 ?_;exists 2,p,aA,dx,_,1,b,T.bN,T.iB,Dw,3,1;by_cases h2:↥wd≤c.1
 .refine dW h2 ?_;exact(q1 c.1 (by unfold gh;rw[aiN<|.inr h2])).elim
 refine cT h2 ?_;by_cases h3:c.2<0
 .exists 1,3,1;refine dW h3 ?_;refine fS ?_;exact(a c.2 (by unfold gh;rw[aiJ o6,aiN<|.inl h3])).elim
 exists 1,3,1;refine cT h3 ?_;exists 1,3,1;by_cases h4:18446744073709551615<c.2
 .refine dW h4 ?_;exact(a c.2 (by unfold gh;rw[aiJ o6,aiN<|.inr h4])).elim
 refine cT h4 ?_;exact e (by unfold gh;rw[aiJ o6,aiJ o6])
include T in
theorem wc{f:jl}{fd:q9}(F:Fun K "ask_day" "Days.ask_day" jM f fd):⋯ 3 f fd ["self","day"] (xF aA):=by
 refine F.okY vE ?_;rintro vs H Q E ⟨p,ta,sa,TL,SL,wd,C2,C3,d,rfl,D,a,q1⟩;refine{J,λb A outer s e=>{_,(aq<|aW (PW.pt<|pw_or (aE j7 (pv 1) au<|aH _)<|pw_or1<|aE jt (pv 1) (aZ (pv 0) J)<|aH _) (aq cA) aP),?_}};dsimp only[aX];let⟨dx,c⟩:=D.ob;by_cases h1:d<0
 .exists 1,3,1;refine dW h1 ?_;refine fS ?_;exact(q1 o6).elim
 exists 1,3,1;refine cT h1 ?_;exists 2,p,aA,dx,_,1,c,T.bN,T.dH,oN,3,1;by_cases h2:↥C2.length-1<d
 .refine dW h2 ?_;exact(q1 o6).elim
 refine cT h2 ?_;exact a o6
variable(bQ:dM aA "ask_day" 3 ["self","day"] (xF aA))
include T bQ in
theorem ze{f:jl}{fd:q9}(F:Fun K "table" "Days.table" mq f fd):⋯ 4 f fd ["self","day"] (uz aA):=by
 refine F.okY zj ?_;rintro vs H Q E ⟨p,ta,sa,TL,SL,wd,C2,C3,d,rfl,D,h,q1⟩;refine⟨J,λl A outer s j=>⟨_,(ai (aY<|bM (pv 0) T.bN bQ az (j.mono o7)<|aa (pv 1) ah)
   (aq<|aJ<|bF qO o9 T.zG amQ<|aa (aQ aT (aZ (pv 0) J) (pv 1) λ_ _=>rfl) ah)),?_⟩⟩
 dsimp only[aX];let⟨dx,c⟩:=D.ob;refine{1,p,dx,1,c,ly o4 o4 o4 o4,1,p,ta,sa,TL,SL,wd,C2,C3,d,J,D,λn=>?_,q1};let e:d.toNat<C2.length:=by omega
 let⟨g,a,_,b⟩:=D.tls.at_<|aiG e;refine{1,p,aA,dx,_,1,c,T.bN,T.fB,qX,1,ta,_,_,V.ref g,J,J,X0.of D.tl,?_,g,1,.inl<|X0.of b,λm i=>?_}
 .rw[show d =((d.toNat:Z5):Z4) by omega];refine bx ?_;simp[a]
 .exact h n m _ (aiG e) i
variable(fW:dM aA "ask_change" 3 ["self","place","block"] (ye aA))
include T fW in
theorem xS{f:jl}{fd:q9}(F:Fun K "passes" "Days.passes" kQ f fd):⋯ 4 f fd ["self","changes"] (rX aA):=by
 refine F.okY eT ?_;rintro vs H Q E ⟨p,ta,sa,a,TL,SL,wd,C2,C3,L,chs,rfl,D,hA,R,bz,c4,ac,q0,q1,q2⟩;refine⟨J,λc7 A outer s hr=>⟨_,(ai (cR ajd J (ck<|pv 1) (lY J<|bS (pgN 2 eT.nd)<|bS (pgN 3 eT.nd) gD)
   (aq<|aY<|bM (pv 0) T.bN fW az (hr.mono o7)<|aa (pv 2)<|aa (pv 3) ah))
   (ai (psS 4 eT.nd<|bF qO o9 T.zG amQ<|aa (aQ aT (aZ (pv 0) J) (aZ (pv 0) J) λ_ _=>rfl) ah)
   (ai (cR ajd J (ck<|pv 1) (lY J<|bS (pgN 2 eT.nd)<|bS (pgN 3 eT.nd) gD)
   (aq<|AG (pv 3)<|A8 (pv 4) (pv 2) set_list))
   (ai (aY<|cK ai6 ajf ajg cC (aZ (pv 0) J)<|aa (pv 4) ah)
   (ai (aY<|cK ai6 ajf ajg cC (aZ (pv 0) J)<|aa (dg (N:=["place","block"]) (k:=2) (cap:=[]) J J (ck<|pv 1) (λ_ _ _ _=>(sO (K:=K) (n:=2) J J<|bS (pgN 0 (show(["place","block"]:fy Z6).Nodup from by decide +kernel)<|.inr J)<|bS (pgN 1 (show(["place","block"]:fy Z6).Nodup from by decide +kernel)<|.inr J) gD)) (λ_ _ _ _=>cg) λ_ _ _ _=>(pv 0)) ah)
   (ai (bV (pv 0) (aB bf (aZ (pv 0) J) au) J)
   (aq<|aJ<|aZ (pv 0) J))))))),?_⟩⟩
 dsimp only[aX];let⟨dx,ob⟩:=D.ob;let tpos:0<C2.length:=ala D.ne;let bu:∀{i:Z5}{v:V},L[i]?=some v->i<chs.length:=λ{i v}h=>by rw[←R.len];exact(aiH.mp h).1
 refine⟨_,J,a,J,{_,X0.of hA},gw (K:=K) (a:=a) (xs:=L) (λi σ H2=>∃U Y:nt V,σ=[t8 p,t8 a,U,Y,Z0]/\H2=H/\∀j d,j<i->chs[j]?=some d->gh wd d=Z0)
  {Z0,Z0,J,J,λj d hj=>absurd hj<|ak3 _} (λi σ H2 _ z0=>by let⟨_,_,_,e,_⟩:=z0;exact by rw[e];exact X0.of hA) ?_ ?_⟩
 .rintro i v σ H2 hi ⟨U,Y,rfl,rfl,hp⟩;let⟨t,r,rfl,l,B⟩:=R.get i v hi;exists t,1,X3.of B,J,_,1,3;refine{1,p,dx,1,ob,ly o4 o4 o4 o4,2,p,ta,sa,TL,SL,wd,C2,C3,r,J,D,λy=>?_,λx y=>q1 x<|tM l hp y,λx y=>q2 x<|tM l hp y};refine{3,λj d hj hd=>?_};by_cases bv:j=i
  .rw[bv,l] at hd;cases hd;exact y
  .exact hp j d o6 hd
 rintro σ H2 ⟨U,Y,rfl,rfl,a0⟩;let aw:dG wd chs=Z0:=by unfold dG;rw[List.findSome?_eq_none_iff];intro c hc;let⟨j,hj⟩:=aju.mp hc;exact a0 j c (by rw[R.len];exact(aiH.mp hj).1) hj
 let bp:∀ c∈chs,gh wd c=Z0:=qz aw;let u:C2[C2.length-1]?=some C2[C2.length-1]:=aiG o6;generalize C2[C2.length-1]=g at u;let⟨t0,bj,_,bc⟩:=D.tls.at_ u;refine{1,p,aA,dx,_,1,ob,T.bN,T.fB,qX,1,p,aA,dx,_,1,ob,T.bN,T.dH,oN,ta,_,_,V.ref t0,J,J,X0.of D.tl,?_,t0,1,.inl<|X0.of bc,λm C=>?_}
 .rw[show↥C2.length-1 =((C2.length-1:Z5):Z4) by omega];refine bx ?_;simp[bj]
 let ax:g.length=wd:=D.wds g<|aiQ u;let a1:a≠m:=ao hA C;let a2:p≠m:=ao ob C;let ar:ta≠m:=ao D.tl C;let ae:sa≠m:=ao D.sl C;refine⟨_,J,a,J,{_,X0.of (by rwa[ak a1])},gw (K:=K) (a:=a) (xs:=L) (λi σ H3=>∃U Y:nt V,σ=[t8 p,t8 a,U,Y,t8 m]/\H3=Z9 H2 m (.lst<|(nextT g<|chs.take i).map Z8))
  ⟨U,Y,J,J⟩ (λi σ H3 _ z0=>by let⟨_,_,_,e⟩:=z0;exact by rw[e];exact X0.of (by rwa[ak a1])) ?_ ?_⟩
 .rintro i v σ H3 hi ⟨U,Y,rfl,rfl⟩;let⟨t,r,rfl,l,B⟩:=R.get i v hi;let⟨r1,r2,_,_⟩:=Fv<|bp r<|aiQ l;exists t,1,X3.of (by rwa[ak<|ao B C]),J,_,1,3;exists 2,1,m,_,_,r.1.toNat,J,J,af,?_
  .rw[aiE,yv,ax];unfold ixN;rw[aiN o6,aiN o6]
  .exists _,1;rw[dP];let e:chs.take (i+1)=chs.take i++[r]:=by rw[ai1,l];rfl
   rw[e,Ej,List.map_set]
 rintro σ H3 ⟨U,Y,rfl,rfl⟩;rw[show chs.take L.length=chs by rw[R.len,ai8]];let nd:=D.nd;simp only[List.nodup_cons,List.mem_cons,List.mem_append,not_or] at nd;let⟨⟨a9,a8,be,bm⟩,⟨a6,bb,ba⟩,⟨bo,bl⟩,_⟩:=nd;simp only[foot,List.mem_cons,List.mem_append,not_or] at ac;let⟨bQ,as,bw,c1,c3⟩:=ac;let ab:Z9 H2 m (.lst ((nextT g chs).map Z8)) p=some (.ins aA dx (fl ↥wd (↥C2.length-1) ta sa)):=by rwa[ak a2]
 let S:Z9 H2 m (.lst ((nextT g chs).map Z8)) ta=some (.lst (TL.map V.ref)):=by rw[ak ar];exact D.tl
 let c0:=D.tls.len;let c2:=D.sls.len;let al:=D.lens;exists 1,p,aA,dx,_,1,ab,T.bN,T.fB,qX,.inl {J,_,X0.of S},1,ta,3,S,(by rw[aiE];exact aF o6);let a4:Z9 (Z9 H2 m (.lst ((nextT g chs).map Z8))) ta (.lst (TL.map V.ref++[.ref m])) p=some (.ins aA dx (fl ↥wd (↥C2.length-1) ta sa)):=by rwa[ak a9]
 let O:Z9 (Z9 H2 m (.lst ((nextT g chs).map Z8))) ta (.lst (TL.map V.ref++[.ref m])) sa=some (.lst (SL.map V.ref)):=by rw[ak<|ajH a6,ak ae];exact D.sl
 let a7:Z9 (Z9 H2 m (.lst ((nextT g chs).map Z8))) ta (.lst (TL.map V.ref++[.ref m])) a=some (.lst L):=by rwa[ak as,ak a1]
 exists 1,p,aA,dx,_,1,a4,T.bN,T.ef,Gp,.inl {J,_,X0.of O};refine{1,a,J,{_,X0.of a7},λD' bt=>?_};let⟨bd,bi⟩:=aR bt;let⟨q,a3⟩:=aR bd;let a5:D'≠p:=(ao ob q).symm;let am:D'≠sa:=(ao D.sl q).symm;let bn:a≠D':=ao hA q;refine cQ D' (K:=K) (a:=a) (xs:=L) (λi σ H5 ys=>∃v v':nt V,σ=[v,v']/\H5=Z9 (Z9 (Z9 H2 m<|.lst<|(nextT g chs).map Z8) ta<|.lst<|TL.map V.ref++[.ref m]) D' (.lst ys)/\ys =((chs.take i).map Prod.fst).map Z8)
  ⟨Z0,Z0,J,J,J⟩ (λi σ H5 ys _ z0=>by let⟨_,_,_,e,_⟩:=z0;exact by rw[e];exact X0.of (by rwa[ak bn])) ?_ ?_
 .rintro i x σ H5 ys hi ⟨v,v',rfl,rfl,hy⟩;let bE:=bu hi;let⟨t,r,rfl,l,B⟩:=R.get i x hi;let bg:Z9 (Z9 (Z9 H2 m (.lst ((nextT g chs).map Z8))) ta (.lst (TL.map V.ref++[.ref m]))) D' (.lst ys) t=some (.tup [.int r.1,.int r.2]):=by rwa[ak<|ao B q,ak<|bU B D.tl nofun,ak<|ao B C]
  exists t,1,X3.of bg,J,_,1,3,1,af,(by rw[hy];exact aF (by simp;omega));exact{_,1,by rw[dP],by rw[hy,ai1,l];simp}
 rintro σ H5 ys ⟨v,v',rfl,rfl,hy⟩;rw[show chs.take L.length=chs by rw[R.len,ai8]] at hy;subst hy;let ag:Z9 (Z9 (Z9 H2 m (.lst ((nextT g chs).map Z8))) ta (.lst (TL.map V.ref++[.ref m]))) D' (.lst ((chs.map Prod.fst).map Z8)) sa=some (.lst (SL.map V.ref)):=by rwa[ak<|ajH am]
 exists sa,3,ag,(by rw[aiE];exact aF o6);let an:Z9 (Z9 (Z9 (Z9 H2 m (.lst ((nextT g chs).map Z8))) ta (.lst (TL.map V.ref++[.ref m]))) D' (.lst ((chs.map Prod.fst).map Z8))) sa (.lst (SL.map V.ref++[.ref D'])) p=some (.ins aA dx (fl ↥wd (↥C2.length-1) ta sa)):=by rwa[ak a8,ak<|ajH a5]
 exists 1,p,aA,dx,_,1,an,T.bN,T.dH,oN,3,1,p,aA,dx,1,an,T.bN,T.dH,(by show 4<1000;decide);rw[Sn];exists 1,p,aA,dx,_,1,af,T.bN,T.dH,oN;let el:↥C2.length-1+1 =↥C2.length:=by omega
 let fm:=D.fresh C;let fD:=D.fresh q;let z:=q0 aw m D' (Z9 (Z9 (Z9 (Z9 (Z9 H2 m<|.lst<|(nextT g chs).map Z8) ta<|.lst<|TL.map V.ref++[.ref m]) D'<|.lst<|(chs.map Prod.fst).map Z8) sa<|.lst<|SL.map V.ref++[.ref D']) p<|.ins aA dx<|fl ↥wd (↥C2.length-1+1) ta sa) g u ?_ C q ?_
 .exact(congrArg (λn:Int=>Q (V.int n) _) el).mpr z
 .let aS:∀b o,b∈TL++SL->H2 b=some o->Z9 (Z9 (Z9 (Z9 (Z9 H2 m<|.lst<|(nextT g chs).map Z8) ta<|.lst<|TL.map V.ref++[.ref m]) D'<|.lst<|(chs.map Prod.fst).map Z8) sa<|.lst<|SL.map V.ref++[.ref D']) p (.ins aA dx<|fl ↥wd (↥C2.length-1+1) ta sa) b=some o:=λb o y e=>by
   let b1:b≠p:=by rintro rfl;rcases ai0.mp y with z|z;exact be z;exact bm z
   let b2:b≠ta:=by rintro rfl;rcases ai0.mp y with z|z;exact bb z;exact ba z
   let b3:b≠sa:=by rintro rfl;rcases ai0.mp y with z|z;exact bo z;exact bl z
   rwa[ak b1,ak b3,ak<|ao e q,ak b2,ak<|ao e C]
  refine{{dx,?_},?_,?_,(D.tls.mono λa ha o e=>aS a o (ajZ _ ha) e).snoc ?_,(D.sls.mono λa ha o e=>aS a o (ajk _ ha) e).snoc ?_,?_,o8,by simp[al],λt B=>?_,D.w1,D.w2}
  .rw[af];congr 2;simp
  .simp[Z9,Ne.symm a9,a6,Ne.symm bi]
  .simp[Z9,Ne.symm a8]
  .simp[Z9,Ne.symm a2,Ne.symm ae,Ne.symm a3,Ne.symm ar]
  .simp[Z9,a5,am]
  .exact Ep D.nd fm fD (ajH a3)
  .rcases ai0.mp B with h|h
   .exact D.wds t h
   .let:t=nextT g chs:=⇑h
    rw[this,yv,ax]
 .intro b o e y;let n1:b≠p:=λz=>y (by simp[foot,z])
  let n2:b≠ta:=λz=>y (by simp[foot,z])
  let n3:b≠sa:=λz=>y (by simp[foot,z])
  rwa[ak n1,ak n3,ak<|ao e q,ak n2,ak<|ao e C]
include T bQ in
theorem wj{f:jl}{fd:q9}(F:Fun K "written" "Days.written" jW f fd):⋯ 4 f fd ["self","one","other"] (qe aA):=by
 refine F.okY jh ?_;rintro vs H Q E ⟨p,ta,sa,TL,SL,wd,C2,C3,one,other,rfl,D,v,a1,q0,q1⟩;refine⟨J,λa2 A outer s l=>⟨_,(ai (aY<|bM (pv 0) T.bN bQ az (l.mono o7)<|aa (pv 1) ah)
   (ai (aY<|bM (pv 0) T.bN bQ az (l.mono o7)<|aa (pv 2) ah)
   (ai (psS 3 jh.nd<|bI ah)
   (ai (cR ajd J (rM J T.eO<|aa (aB bf (aL (qR J) o9 T.zu akU<|aa (pv 1)<|aa (pv 2) ah) au)<|aa (aB bf (aL (nv J) o9 T.wV aku<|aa (pv 1)<|aa (pv 2) ah) au) ah) (pgN 4 jh.nd)
   (aq<|aY<|cK ai6 alf alg rZ (pv 3)<|aa (aQ aT (aZ (pv 0) J) (pv 4) λ_ _=>rfl) ah))
   (aq<|aJ<|QI J o9 T.Iu o9 T.aef<|pv 3))))),?_⟩⟩
 dsimp only[aX];let⟨dx,y⟩:=D.ob;let a0:=D.lens;refine{1,p,dx,1,y,ly o4 o4 o4 o4,1,p,ta,sa,TL,SL,wd,C2,C3,one,J,D,λho=>?_,λL=>q1 one<|.inl ⟨L,J⟩};refine{1,p,dx,1,y,ly o4 o4 o4 o4,1,p,ta,sa,TL,SL,wd,C2,C3,other,J,D,λht=>?_,λL=>q1 other<|.inr ⟨ho,L,J⟩};refine{ajc _,λpl q=>?_};let e1:(if other<one then other else one)=min one other:=by split <;> omega
 let e2:(if other>one then other else one)=max one other:=by split <;> omega
 exists 2,one,other,J,3,2,one,other,J,3,min one other+1,max one other+1,by rw[e1,e2],⟨o6,o6,o6,o6⟩;refine fE (lo:=min one other+1) (n:=((max one other+1) -(min one other+1)).toNat) (λi σ H2=>∃(B:nt V)(ns:fy Z4),σ=[t8 p,t9 one,t9 other,t8 pl,B]/\aj H H2/\H2 pl=some (.lst<|ns.map Z8)/\ns.length≤300*i/\(∀k,k∈ns↔iF C3 (min one other) (min one other+i) k)/\∀ x∈ns,0≤x/\x <↥wd) {Z0,[],J,aj.new q,af,o8,λk=>{λh=>by simp at h,λ⟨d,xs,h1,h2,_⟩=>by omega},λx h=>by simp at h} ?_ ?_
 .rintro i σ H2 hi ⟨B,ns,rfl,s2,a,O,g,c⟩;let D2:=D.same s2;obtain⟨d,hd⟩:∃d:Z5,min one other+1 +↥i =↥d:={(min one other+1 +↥i).toNat,o6};let u:d<C3.length:=by omega
  let j:C3[d]?=some C3[d]:=aiG u;let⟨xa,Y,_,C⟩:=D2.sls.at_ j;let m:=v.day C3[d] (ajF u);exists 1,.inl {J,_,X0.of a},1,p,aA,dx,_,1,s2 _ _ y,T.bN,T.ef,Gp,1,sa,_,_,V.ref xa,J,J,X0.of D2.sl,?_
  .rw[hd];exact bx (by rw[aiR,Y];rfl)
  exists pl,xa,3,a,C,(by rw[aiE,aiE];exact QU o6);refine{_,ns++C3[d],J,λb o e=>by rw[ak<|ao e q];exact s2 b o e,by rw[af,ajb],by rw[aji];omega,λk=>?_,λx hx=>?_}
  .rw[ai0,g k];constructor
   .rintro(⟨d',xs,h1,h2,h3,h4⟩|h)
    .exact⟨d',xs,h1,o6,h3,h4⟩
    .exact{d,_,o6,o6,j,h}
   .rintro⟨d',xs,h1,h2,h3,h4⟩;by_cases z:d'=d
    .subst z;rw[j] at h3;cases h3;exact .inr h4
    .exact .inl ⟨d',xs,h1,o6,h3,h4⟩
  .rcases ai0.mp hx with h|h
   .exact c x h
   .exact m.2 x h
 .rintro σ H2 ⟨B,ns,rfl,s2,a,O,g,c⟩;refine{1,pl,ns,J,X0.of a,ae0 v.most c,λr S l U t=>q0 ho ht r S _ af (s2.free l) U (λk=>(t k).trans<|(g k).trans ?_)<|s2.trans<|aj.new l};rw[show min one other +((((max one other+1) -(min one other+1)).toNat:Z5):Z4)=max one other by omega]
variable(lC:CZ "Whole" aG 4 ["self","day","rows","check"] [Value.none] (lO aG aG))
variable(jc:dM aA "table" 4 ["self","day"] (uz aA))
include T lC jc in
theorem Bq{f:jl}{fd:q9}(F:Fun K "whole_of" "whole_of" qk f fd):⋯ 6 f fd ["days","day"] (pJ aA aG aG):=by
 refine F.okY B7 ?_;rintro vs H Q E ⟨p,wd,C2,C3,day,rfl,y,q1,C⟩;refine{J,λL A outer s v=>{_,(aq<|aJ<|GU (dvs:=[V.non]) lC (Paired.cons J Paired.nil) az (v.mono o7) J<|aa (pv 1)<|aa (BK J J T.zG J T.gE<|bM (pv 0) T.bN jc az (v.mono o7)<|aa (pv 1) ah) ah),?_}};dsimp only[aX];let upK:∀{l:Hp}{x dx:jl}{o:HO},l x=Z0->l dx=Z0->∀t o',l t=some o'->Z9 (Z9 l dx (.own x)) x o t=some o':=λg i t o' e=>by rwa[ak<|ao e g,ak<|ao e i]
 let⟨ta,sa,TL,SL,D⟩:=y.D;let⟨dx,z⟩:=D.ob;refine{2,p,dx,1,z,ly o4 o4 o4 o4,1,p,ta,sa,TL,SL,wd,C2,C3,day,J,D,λj t a b hn=>?_,λh=>C h};obtain⟨d,rfl⟩:∃d:Z5,day =↥d:={day.toNat,by let:=j.1;omega};let c:=y.T a<|aiQ b;let s1:aj H (Z9 H t (.lst (a.map Z8))):=aj.new hn;refine{t,1,X0.of af,λr ts H2 B s2 m u q=>?_};let R:=enum_rows q m c.2;let n:=s1.trans s2;refine λx dx g i U=>{x,dx,r,d,_,jk a,.non,1,af,.inl<|upK g i _ _ u,R.mono λt xs e=>upK g i t _ e,by rw[rm,c.1];let:=D.w2;omega,.inl ⟨J,J⟩,λS O k5=>{J,?_}}
 exact q1 j x a S b O<|n.trans<|eF g i k5
variable(gv:bh "ask_many" 3 ["many"] yk)
include T gv in
theorem uL{f:jl}{fd:q9}(F:Fun K "__init__" "Task.__init__" jo f fd):⋯ 4 f fd ["self","sizes","weights","rates"] (rz aI):=by
 refine F.okY vd ?_;rintro vs H Q E ⟨p,dx,sa,wa,Y,SL,C1,C0,C7,rfl,hp,n1,n7,nw,nr,B,R,L,a0,q⟩;refine⟨J,λa9 A outer s hr=>⟨_,(ai (aY<|pcS gv az hr<|aa (aL aK o9 T.bE aiT<|aa (pv 1) ah) ah)
   (ai (bV (pv 0) (bF dZ o9 T.j0 ajR<|aa (dg (N:=["of_day"]) (k:=1) (cap:=[]) J J (ck<|pv 1) (λ_ _ _ _=>(pgN 0 (show(["of_day"]:fy Z6).Nodup from by decide +kernel)<|.inr J)) (λ_ _ _ _=>cg) λ_ _ _ _=>(bF (xU (K:=K) J) o9 T.j0 ajR<|aa (pv 0) ah)) ah) J)
   (ai (bV (pv 0) (bF dZ o9 T.j0 ajR<|aa (pv 2) ah) J)
   (aq<|bV (pv 0) (bF dZ o9 T.j0 ajR<|aa (pv 3) ah) J)))),?_⟩⟩
 dsimp only[aX];let Rl:=R.len;exists 1,sa,1,.inl<|X0.of B,1,(by rw[aiE];omega),(by rw[aiE];omega);refine{1,sa,J,{_,X0.of B},λD hD=>?_};refine cQ D (K:=K) (a:=sa) (xs:=SL.map V.ref) (λi σ H2 ys=>∃(v:nt V)(TL:fy jl),σ=[v]/\aj H H2/\H2 D=some (.lst ys)/\ys=TL.map V.ref/\jf H2 TL (C1.take i)) {Z0,[],J,aj.new hD,af,J,{J,λi a xs e=>by simp at e}} (λi σ H2 ys _ z0=>by let⟨_,_,_,s2,_⟩:=z0;exact X0.of<|s2 sa _ B) ?_ ?_
 .rintro i x σ H2 ys hi ⟨v,TL,rfl,s2,j,rfl,RT⟩;rw[aiR] at hi;let⟨a,ea,rfl⟩:=aja.mp hi;let ab:i<SL.length:=(aiH.mp ea).1;let ex:C1[i]?=some C1[i]:=aiG o6;let ha:=s2 _ _<|R.get i a _ ea ex;let a6:=RT.len;rw[aiV] at a6;refine{1,a,1,.inl {X0.of ha,λt ht=>?_}};let a3:D≠t:=ao j ht;exists by rwa[ak a3],(by rw[aiE];exact aF o6),_,TL++[t],J,λb o e=>?_,af,o8
  .rw[ak<|ao e hD];exact aj.new ht b _<|s2 b _ e
  .rw[ai1,ex];refine(RT.keep λb xs e=>?_).snoc ?_
   .rw[ak<|bU e j nofun];exact aj.new ht b _ e
   .rw[ak a3.symm,af]
 rintro σ H2 ys ⟨v,TL,rfl,s2,j,rfl,RT⟩;rw[aiE,Rl,ai8] at RT;refine{D,1,.inl {X0.of j,λc C=>?_}};let n:=s2 p _ hp;exists 1,p,aI,dx,1,aj.new C p _ n,T.dc,T.c7,(by show 0<1000;decide);let k3:aV [p] H2 (Z9 (Z9 H2 c (.tup (TL.map V.ref))) p (.ins aI dx (bq "sizes" (V.ref c) []))):=cZ (aV.of_same<|aj.new C)<|.inl o8;let m:Z9 (Z9 H2 c (.tup (TL.map V.ref))) p (.ins aI dx (bq "sizes" (V.ref c) [])) p=some (.ins aI dx [("sizes",V.ref c)]):=af;let O:Z9 (Z9 H2 c (.tup (TL.map V.ref))) p (.ins aI dx (bq "sizes" (V.ref c) [])) c=some (.tup (TL.map V.ref)):=by rw[ak (ao n C).symm,af]
 generalize Z9 (Z9 H2 c (.tup (TL.map V.ref))) p (.ins aI dx (bq "sizes" (V.ref c) []))=r at k3 m O;let a8:wa∉[p]:=by let:=bU L hp nofun;simpa using this
 let S:Y∉[p]:=by let:=bU a0 hp nofun;simpa using this
 let a7:=k3 wa _ (s2 wa _ L) a8;let a5:=k3 Y _ (s2 Y _ a0) S;let R3:jf r TL C1:=RT.keep λt xs e=>k3 t _ e (by let:=bU e n nofun;simpa using this)
 refine{1,wa,1,.inl {X0.of a7,λg y=>?_}};exists 1,p,aI,dx,1,aj.new y p _ m,T.dc,T.eU,(by show 1<1000;decide);rw[Tj];let k4:aV [p] r (Z9 (Z9 r g (.tup (C0.map Z8))) p (.ins aI dx [("sizes",V.ref c),("weights",V.ref g)])):=cZ (aV.of_same<|aj.new y)<|.inl o8;let l:Z9 (Z9 r g (.tup (C0.map Z8))) p (.ins aI dx [("sizes",V.ref c),("weights",V.ref g)]) p=some (.ins aI dx [("sizes",V.ref c),("weights",V.ref g)]):=af;let a2:Z9 (Z9 r g (.tup (C0.map Z8))) p (.ins aI dx [("sizes",V.ref c),("weights",V.ref g)]) g=some (.tup (C0.map Z8)):=by rw[ak (ao m y).symm,af]
 generalize Z9 (Z9 r g (.tup (C0.map Z8))) p (.ins aI dx [("sizes",V.ref c),("weights",V.ref g)])=H4 at k4 l a2;let a4:=k4 Y _ a5 S;refine{1,Y,1,.inl {X0.of a4,λU h=>?_}};exists 1,p,aI,dx,1,aj.new h p _ l,T.dc,T.eY,(by show 2<1000;decide);rw[Sa];let k5:aV [p] H4 (Z9 (Z9 H4 U (.tup (C7.map Z8))) p (.ins aI dx (tfs c g U))):=cZ (aV.of_same<|aj.new h)<|.inl o8;let a1:∀t xs,r t=some (.tup xs)->H4 t=some (.tup xs):=λt xs e=>k4 t _ e (by let:=bU e m nofun;simpa using this)
 let u:∀t xs,H4 t=some (.tup xs)->Z9 (Z9 H4 U (.tup (C7.map Z8))) p (.ins aI dx (tfs c g U)) t=some (.tup xs):=λt xs e=>k5 t _ e (by let:=bU e l nofun;simpa using this)
 refine q _ {dx,c,g,U,TL,af,u _ _<|a1 _ _ O,R3.keep λt xs e=>u _ _<|a1 _ _ e,u _ _ a2,?_} λb o e hb=>k5 b o (k4 b o (k3 b o (s2 b o e) hb) hb) hb
 rw[ak (ao l h).symm,af]
include T in
theorem B6{f:jl}{fd:q9}(F:Fun K "ask_many" "ask_many" pY f fd):⋯ 3 f fd ["many"] (yk):=by refine F.okY BR ?_;rintro vs H Q E ⟨n,rfl,h1,h2,q⟩;refine{J,λa A outer s b=>{_,(aq<|aW (PW.pt<|pw_or (aE j7 (pv 0) au<|aH _)<|pw_or1<|aE jt (pv 0) (eL (v:=.int 7) J T.yh {1})<|aH _) (aq cA) aP),?_}};exists 1,3,1;refine cT o6 ?_;exists 1,3,1;refine cT o6 ?_;exact q
include T in
theorem vq{f:jl}{fd:q9}(F:Fun K "bases_behind" "bases_behind" jX f fd):⋯ 1 f fd ["choices"] (uP K):=by
 refine F.okY gM ?_;rintro vs H Q E ⟨tu,c,ws,rfl,y,h7,q⟩;refine⟨J,λY A outer s U=>⟨_,(ai (psS 1 gM.nd<|Dv (zD aN (qv mZ au) CU) J J o7 o7)
   (ai (cR ajd J (zw (oV Z2 J T.gE<|aa (pv 0) ah)<|oV Z1 J T.gE<|aa (pv 0) ah) (lY J<|bS (pgN 2 gM.nd)<|bS (pgN 3 gM.nd) gD)
   (ai (aW (aE bL (pv 3) aN<|aH _) (aq<|oG (kh U) (pv 1) aN (pv 2) J) aP)
   (aq<|aW (aE pL (pv 3) aN<|aH _) (aq<|oG (kh U) (pv 1) aN (pv 2) J) aP)))
   (aq<|aJ<|pv 1))),?_⟩⟩
 dsimp only[aX];refine λd p=>{1,af,[(Sum.inr wW,V.int (-1))],J,o7,?_}
 let s1:aj H (Z9 (Z9 H d (.dK [])) d (.dK (gB [] [(Sum.inr wW,V.int (-1))]))):=by rw[dP];exact aj.new p
 let h1:Z9 (Z9 H d (.dK [])) d (.dK (gB [] [(Sum.inr wW,V.int (-1))])) d=some (.dK (putK [] (Sum.inr wW) (V.int (-1)))):=af;generalize Z9 (Z9 H d (.dK [])) d (.dK (gB [] [(Sum.inr wW,V.int (-1))]))=H1 at s1 h1;cases tu
 .refine .inl {1,c,J,{_,y.same s1},uy (K:=K) (tu:=Z2) (l:=c) (xs:=ws.map V.str) (λi σ H2=>∃(r n:nt V)(C4:fy (Key×V)),σ=[t8 c,t8 d,r,n]/\aj H H2/\H2 d=some (.dK C4)/\C4.length≤1+2*i/\cy C4 (ws.take i)) {Z0,Z0,1,s1,h1,ak6 J,cy.first} (λ i σ H2 ⟨_,_,_,_,s2,_⟩=>y.same s2) ?_ ?_}
  .rintro i x σ H2 m hi ⟨r,n,C4,rfl,s2,h2,L,B⟩ O;let⟨w,v,rfl⟩:=mX hi;let S:i<ws.length:=(aiH.mp v).1;let g:ws.take (i+1)=ws.take i++[w]:=by rw[ai1,v];rfl
   let a:((ws.take i).length:Z4) =↥i:=by rw[aiV];omega
   exists m,1,X3.of af,J,_,1,3;let s3:aj H2 (Z9 H2 m (.tup [V.int ↥i,V.str w])):=aj.new O;generalize Z9 H2 m (.tup [V.int ↥i,V.str w])=H3 at s3;let h3:=s3 d _ h2;let j:=s2.trans s3;exists 1,J,1;by_cases u:w=wW
   .subst u;refine dW J ?_;exists 2,d,1,jO.k (k:=Sum.inr wS) h3<|aF o6;exists 1,J,1;refine sI o4 ?_;let C:=cU C4 (Sum.inr wS)<|V.int ↥i;exists 2,d,1,jO.k (k:=Sum.inr wL) af<|aF o6;let z:=cU (putK C4 (Sum.inr wS)<|V.int ↥i) (Sum.inr wL)<|V.int ↥i;exists _,_,1,λb o e=>?_,af,o6
    .rw[dP,ak<|ao e p];exact j b o e
    .let:=B.whole;rw[a] at this;rwa[g]
   .refine cT (λh=>u<|V.str.inj h) ?_;exists 1,J,1;by_cases t:w=wN
    .subst t;refine zA J ?_;exact{_,_,C4,J,j,h3,o6,by rw[g];exact B.non}
    .refine sI (λh=>t<|V.str.inj h) ?_;let C:=cU C4 (Sum.inr wL)<|V.int ↥i;exists 2,d,1,jO.k (k:=Sum.inr wL) h3<|aF o6;exists _,_,1,λb o e=>?_,af,o6
     .rw[ak<|ao e p];exact j b o e
     .let:=B.other u t;rw[a] at this;rwa[g]
  .rintro σ H2 ⟨r,n,C4,rfl,s2,h2,L,B⟩;rw[aiE,ai8] at B;exact{1,q d C4 H2 h2 p B s2}
 .refine .inr {1,c,J,{_,y.same s1},uy (K:=K) (tu:=Z1) (l:=c) (xs:=ws.map V.str) (λi σ H2=>∃(r n:nt V)(C4:fy (Key×V)),σ=[t8 c,t8 d,r,n]/\aj H H2/\H2 d=some (.dK C4)/\C4.length≤1+2*i/\cy C4 (ws.take i)) {Z0,Z0,1,s1,h1,ak6 J,cy.first} (λ i σ H2 ⟨_,_,_,_,s2,_⟩=>y.same s2) ?_ ?_}
  .rintro i x σ H2 m hi ⟨r,n,C4,rfl,s2,h2,L,B⟩ O;let⟨w,v,rfl⟩:=mX hi;let S:i<ws.length:=(aiH.mp v).1;let g:ws.take (i+1)=ws.take i++[w]:=by rw[ai1,v];rfl
   let a:((ws.take i).length:Z4) =↥i:=by rw[aiV];omega
   exists m,1,X3.of af,J,_,1,3;let s3:aj H2 (Z9 H2 m (.tup [V.int ↥i,V.str w])):=aj.new O;generalize Z9 H2 m (.tup [V.int ↥i,V.str w])=H3 at s3;let h3:=s3 d _ h2;let j:=s2.trans s3;exists 1,J,1;by_cases u:w=wW
   .subst u;refine dW J ?_;exists 2,d,1,jO.k (k:=Sum.inr wS) h3<|aF o6;exists 1,J,1;refine sI o4 ?_;let C:=cU C4 (Sum.inr wS)<|V.int ↥i;exists 2,d,1,jO.k (k:=Sum.inr wL) af<|aF o6;let z:=cU (putK C4 (Sum.inr wS)<|V.int ↥i) (Sum.inr wL)<|V.int ↥i;exists _,_,1,λb o e=>?_,af,o6
    .rw[dP,ak<|ao e p];exact j b o e
    .let:=B.whole;rw[a] at this;rwa[g]
   .refine cT (λh=>u<|V.str.inj h) ?_;exists 1,J,1;by_cases t:w=wN
    .subst t;refine zA J ?_;exact{_,_,C4,J,j,h3,o6,by rw[g];exact B.non}
    .refine sI (λh=>t<|V.str.inj h) ?_;let C:=cU C4 (Sum.inr wL)<|V.int ↥i;exists 2,d,1,jO.k (k:=Sum.inr wL) h3<|aF o6;exists _,_,1,λb o e=>?_,af,o6
     .rw[ak<|ao e p];exact j b o e
     .let:=B.other u t;rw[a] at this;rwa[g]
  .rintro σ H2 ⟨r,n,C4,rfl,s2,h2,L,B⟩;rw[aiE,ai8] at B;exact{1,q d C4 H2 h2 p B s2}
variable(di:bh "bases_behind" 1 ["choices"] (uP K))
include T di in
theorem DJ{f:jl}{fd:q9}(F:Fun K "allowed" "allowed" qY f fd):⋯ 2 f fd ["task","choices"] (pN K aI):=by
 refine F.okY lD ?_;rintro vs H Q E ⟨p,c,tu,C1,C0,C7,ws,rfl,hT,hc,a1,a2,h7,q⟩;refine⟨J,λa3 A outer s hr=>⟨_,(ai (psS 2 lD.nd<|aL aK o9 T.bE aiT<|aa (pv 1) ah)
   (ai (aW (aE we (pv 2) (aL aK o9 T.bE aiT<|aa (aZ (pv 0) J) ah)<|aH _) (aq<|aJ<|bI ah) aP)
   (ai (qW (i:=3) lD.nd J (Or.inr J)<|pcS di az hr<|aa (pv 1) ah)
   (ai (psS 4 lD.nd<|uX (aE bL (aQ bY (aZ (pv 0) J) (pv 2) λ_ _=>rfl) au<|aH _) (bI<|aa aN ah)<|bI ah)
   (aq<|aJ<|aB oO (pv 4)<|dg (N:=["word","bases"]) (k:=1) (cap:=[3]) J J (wX<|fh<|aa aN<|aa aN<|aa aN ah) (λ_ _ _ _=>(pgN 0 (show(["word","bases"]:fy Z6).Nodup from by decide +kernel)<|.inr J)) (λ_ _ _ _=>(QZ<|UI<|Ws (kh hr) (pv 0)<|pv 1)) λ_ _ _ _=>(pv 0)))))),?_⟩⟩
 dsimp only[aX];let⟨dx,t1,t2,C,TL,g1,g2,g3,g4,g5⟩:=id hT;let a4:=g3.len;exists 1,c,1,hc.len;exists 2,p,aI,dx,_,1,g1,T.dc,T.c7,jU,t1,1,.inr<|X3.of g2,3,1;by_cases hd:ws.length=C0.length
 .refine dW (by simp only[List.length_map];omega) ?_;exact{ajc _,λl t=>q l _ (by rw[af];unfold bP;rw[ajx o6];rfl) t<|aj.new t}
 refine cT (by simp only[List.length_map];omega) ?_;obtain⟨wt,O⟩:∃wt,C0[ws.length]?=some wt:={_,aiG o6};refine{1,tu,c,ws,J,hc,o6,λd C4 H1 U a5 B s1=>?_};exists 1,p,aI,dx,_,1,s1 _ _ g1,T.dc,T.eU,pV,1,t2,_,_,V.int wt,J,J,X3.of<|s1 _ _ g4,(by rw[aiE];exact bx (by rw[aiR,O];rfl)),J,1;let en:bP C0 ws=cE wt ws:=by unfold bP;rw[O]
 rw[en] at q;by_cases h0:wt=0
 .refine dW (by rw[h0]) ?_;refine{v8,λm hm=>?_};let s2:aj H1 (Z9 H1 m (.lst [V.str wN])):=aj.new hm;let L:Z9 H1 m (.lst [V.str wN]) m=some (.lst ([wN].map V.str)):=af;generalize Z9 H1 m (.lst [V.str wN])=H2 at s2 L;refine{1,E1,λtt y=>{tt,J,{_,X3.of af},λD z=>?_}};let s3:aj H2 (Z9 H2 tt (.tup [V.str wW,V.str wS,V.str wL])):=aj.new y;let C:Z9 H2 tt (.tup [V.str wW,V.str wS,V.str wL]) tt=some (.tup (([wW,wS,wL]:fy Z6).map V.str)):=af;generalize Z9 H2 tt (.tup [V.str wW,V.str wS,V.str wL])=H3 at s3 C z;refine qy D (K:=K) (a:=tt) (xs:=([wW,wS,wL]:fy Z6).map V.str) (λi σ H5 ys=>∃(v:nt V),σ=[v,t8 d]/\aj H3 H5/\H5 D=some (.lst ys)/\ys =((([wW,wS,wL]:fy Z6).take i).filter λw=>(bD C4<|Sum.inr w).isSome).map V.str) {Z0,J,aj.new z,af,J} (λi σ H5 ys _ z0=>by let⟨_,_,s5,_⟩:=z0;exact X3.of<|s5 tt _ C) ?_ ?_
  .rintro i x σ H5 ys hi ⟨v,rfl,s5,g,j⟩;let⟨w,Y,rfl⟩:=mX hi;let a0:((([wW,wS,wL]:fy Z6).take i).filter λw=>(bD C4 (Sum.inr w)).isSome).length≤3:=ai9 (amY _ _) (by rw[aiV];simp;omega);let d5:=s5 d _<|s3 d _<|s2 d _ U;cases r:bD C4 (Sum.inr w) with
   |none=>exists 2,d,Z0,J,r ▸ gG.k (k:=Sum.inr w) d5,1;refine fR ?_;exists 1,s5,g;rw[j,ai1,Y,alh];simp[r]
   |some u=>
    exists 2,d,some u,J,r ▸ gG.k (k:=Sum.inr w) d5,1;refine fS ?_;exists 1,g,(by rw[j,aiE];exact aF o6),1,λb o e=>?_,af
    .rw[ak<|ao e z];exact s5 b _ e
    .rw[j,ai1,Y,alh];simp[r]
  rintro σ H5 ys ⟨v,rfl,s5,g,j⟩;rw[show(([wW,wS,wL]:fy Z6).map V.str).length=3 from J,show([wW,wS,wL]:fy Z6).take 3=[wW,wS,wL] from J,B.filter] at j;subst j;let m5:=s5 m _<|s3 m _ L;let big:∀{n:Z5},n≤900->n≤Z7:=λh=>ajt<|aF o6
  refine{m,D,3,m5,g,big (by cases br isW ws <;> cases br isK ws <;> simp),λl t=>?_};let S:aj H H5:=s1.trans<|s2.trans<|s3.trans s5;refine q l _ ?_ (S.free t)<|S.trans<|aj.new t;rw[af,←ajb];unfold cE;rw[aiN h0];rfl
 .refine cT (λh=>h0<|V.int.inj h) ?_;refine{ajc _,λm hm=>?_};let s2:aj H1 (Z9 H1 m (.lst [])):=aj.new hm;let L:Z9 H1 m (.lst []) m=some (.lst (([]:fy Z6).map V.str)):=af;generalize Z9 H1 m (.lst [])=H2 at s2 L;refine{1,E1,λtt y=>{tt,J,{_,X3.of af},λD z=>?_}};let s3:aj H2 (Z9 H2 tt (.tup [V.str wW,V.str wS,V.str wL])):=aj.new y;let C:Z9 H2 tt (.tup [V.str wW,V.str wS,V.str wL]) tt=some (.tup (([wW,wS,wL]:fy Z6).map V.str)):=af;generalize Z9 H2 tt (.tup [V.str wW,V.str wS,V.str wL])=H3 at s3 C z;refine qy D (K:=K) (a:=tt) (xs:=([wW,wS,wL]:fy Z6).map V.str) (λi σ H5 ys=>∃(v:nt V),σ=[v,t8 d]/\aj H3 H5/\H5 D=some (.lst ys)/\ys =((([wW,wS,wL]:fy Z6).take i).filter λw=>(bD C4<|Sum.inr w).isSome).map V.str) {Z0,J,aj.new z,af,J} (λi σ H5 ys _ z0=>by let⟨_,_,s5,_⟩:=z0;exact X3.of<|s5 tt _ C) ?_ ?_
  .rintro i x σ H5 ys hi ⟨v,rfl,s5,g,j⟩;let⟨w,Y,rfl⟩:=mX hi;let a0:((([wW,wS,wL]:fy Z6).take i).filter λw=>(bD C4 (Sum.inr w)).isSome).length≤3:=ai9 (amY _ _) (by rw[aiV];simp;omega);let d5:=s5 d _<|s3 d _<|s2 d _ U;cases r:bD C4 (Sum.inr w) with
   |none=>exists 2,d,Z0,J,r ▸ gG.k (k:=Sum.inr w) d5,1;refine fR ?_;exists 1,s5,g;rw[j,ai1,Y,alh];simp[r]
   |some u=>
    exists 2,d,some u,J,r ▸ gG.k (k:=Sum.inr w) d5,1;refine fS ?_;exists 1,g,(by rw[j,aiE];exact aF o6),1,λb o e=>?_,af
    .rw[ak<|ao e z];exact s5 b _ e
    .rw[j,ai1,Y,alh];simp[r]
  rintro σ H5 ys ⟨v,rfl,s5,g,j⟩;rw[show(([wW,wS,wL]:fy Z6).map V.str).length=3 from J,show([wW,wS,wL]:fy Z6).take 3=[wW,wS,wL] from J,B.filter] at j;subst j;let m5:=s5 m _<|s3 m _ L;let big:∀{n:Z5},n≤900->n≤Z7:=λh=>ajt<|aF o6
  refine{m,D,3,m5,g,big (by cases br isW ws <;> cases br isK ws <;> simp),λl t=>?_};let S:aj H H5:=s1.trans<|s2.trans<|s3.trans s5;refine q l _ ?_ (S.free t)<|S.trans<|aj.new t;rw[af,←ajb];unfold cE;rw[aiJ h0];rfl
include T in
theorem BL{f:jl}{fd:q9}(F:Fun K "leg_cost" "leg_cost" pT f fd):⋯ 1 f fd ["task","size"] (xw aI):=by refine F.okY Bx ?_;rintro vs H Q E ⟨p,C1,C0,r0,r1,r2,r3,size,rfl,g,F,q⟩;refine{J,λh A outer s n=>{_,(aq<|aJ<|aB bf (aQ bY (aZ (pv 0) J) au λ_ _=>rfl)<|aB eX (aQ bY (aZ (pv 0) J) au λ_ _=>rfl)<|pv 1),?_}};dsimp only[aX];let⟨dx,i,l,a,TL,c,o,m,j,e⟩:=id g;let b:=F.b3 r3 o8;exact{1,p,aI,dx,_,1,c,T.dc,T.eY,pC,a,_,_,V.int r2,J,J,X3.of e,J,1,p,aI,dx,_,1,c,T.dc,T.eY,pC,a,_,_,V.int r3,J,J,X3.of e,J,1,3,.inl ⟨o6,o6⟩,3,q}
include T in
theorem BZ{f:jl}{fd:q9}(F:Fun K "day_cost" "day_cost" pR f fd):⋯ 1 f fd ["task","day","size","way"] (xE aI):=by
 refine F.okY tR ?_;rintro vs H Q E ⟨p,C1,C0,r0,r1,r2,r3,size,way,d,rfl,m,F,z,t,u,q⟩;refine⟨J,λr A outer s y=>⟨_,(ai (psS 4 tR.nd<|aB mJ (aL aK o9 T.bE aiT<|aa (aZ (pv 0) J) ah)<|pv 1)
   (aq<|aJ<|aB bf (aB eX (aB bf (aQ bY (aZ (pv 0) J) au λ_ _=>rfl)<|aB eX (aQ bY (aZ (pv 0) J) au λ_ _=>rfl)<|pv 4)<|pv 2)<|aB eX (aQ bY (aZ (pv 0) J) (pv 1) λ_ _=>rfl)<|pv 3)),?_⟩⟩
 dsimp only[aX];let⟨dx,j,l,e,TL,a,n,o,i,h⟩:=id m;let b:=F.b3 r1 o8;let c:=o.len;let x:=F.nw;let g:C0[d]?=some (C0.getD d 0):=by rw[ai2,aiG (show d<C0.length by omega)];rfl
 let v:=F.b2 _<|aiQ g;exists 1,p,aI,dx,_,1,a,T.dc,T.c7,jU,j,1,.inr<|X3.of n,1,3;rw[aiE,c];exact{1,p,aI,dx,_,1,a,T.dc,T.eY,pC,e,_,_,V.int r0,J,J,X3.of h,J,1,p,aI,dx,_,1,a,T.dc,T.eY,pC,e,_,_,V.int r1,J,J,X3.of h,J,1,3,.inl ⟨o6,o6⟩,3,1,3,.inr ⟨o6,o6⟩,1,p,aI,dx,_,1,a,T.dc,T.eU,pV,1,l,_,_,V.int<|C0.getD d 0,J,J,X3.of i,bx (by rw[aiR,g];rfl),1,3,.inl ⟨o6,o6⟩,3,q}
include T di in
theorem B5{f:jl}{fd:q9}(F:Fun K "bases_of" "bases_of" pI f fd):⋯ 2 f fd ["choices"] (zF K):=by
 refine F.okY BB ?_;rintro vs H Q E ⟨tu,c,ws,rfl,L,hV,h7,q⟩;refine{J,λa0 A outer s hr=>{_,(aq<|aJ<|dg (N:=["day","word","choices"]) (k:=2) (cap:=[0]) J J (zw (oV Z2 J T.gE<|aa (pv 0) ah)<|oV Z1 J T.gE<|aa (pv 0) ah) (λ_ _ _ _=>(sO (K:=K) (n:=2) J J<|bS (pgN 0 (show(["day","word","choices"]:fy Z6).Nodup from by decide +kernel)<|.inr J)<|bS (pgN 1 (show(["day","word","choices"]:fy Z6).Nodup from by decide +kernel)<|.inr J) gD)) (λ_ _ _ _=>cg) λ_ _ _ _=>(GW (kh hr) (pcS di az hr<|aa (TU (d7 (G7 (K:=K) J) (pv 2) ig<|dD<|pv 0)<|d7 (QJ (K:=K) J) (pv 2) ig<|dD<|pv 0) ah) (pv 1) ⟨J,J,J,J⟩)),?_}};dsimp only[aX];cases tu
 .refine .inl {1,c,J,{_,L},λD y=>?_};refine yR (K:=K) (tu:=Z2) (l:=c) D (xs:=ws.map V.str) (λi σ H2 ys=>∃(u p:nt V),σ=[u,p,t8 c]/\aj H H2/\H2 D=some (.lst ys)/\ys =(List.range i).map (xr ws)) {Z0,Z0,J,aj.new y,af,J} (λ i σ H2 ys ⟨_,_,_,s2,_⟩=>L.same s2) ?_ ?_
  .rintro i x σ H2 ys r hi ⟨u,p,rfl,s2,a,h⟩ S;let⟨w,z,rfl⟩:=mX hi;let U:i<ws.length:=(aiH.mp z).1;exists r,1,X3.of af,J,_,1,3;let s3:aj H2 (Z9 H2 r (.tup [V.int ↥i,V.str w])):=aj.new S;generalize Z9 H2 r (.tup [V.int ↥i,V.str w])=m at s3;let C:=s2.trans s3;let t:=L.same C;let cut:cS (ws.map V.str) Z0 (some ↥i) =(ws.take i).map V.str:=by unfold cS;rw[HT.gZ,HT.jY,List.drop_zero,←anf,aiE,Nat.sub_zero,alP o6]
   refine .inl {2,1,c,1,t,λg v=>?_};rw[cut];let s4:aj m (Z9 m g (.lst ((ws.take i).map V.str))):=aj.new v;let h4:Z9 m g (.lst ((ws.take i).map V.str)) g=some (.lst ((ws.take i).map V.str)):=af;generalize Z9 m g (.lst ((ws.take i).map V.str))=H4 at s4 h4;refine{Z2,g,ws.take i,J,X0.of h4,(by rw[aiV];omega),λd C4 H5 O Y B s5=>?_};exists d,J,.inl {_,.inl O},1,(bOf (ws.take i) w).map Z8,(B.get<|hV.four z) ▸ gG.k (k:=Sum.inr w) O;let j:aj H2 H5:=s3.trans<|s4.trans s5;exists j _ _ a,(by rw[h];exact aF (by simp;omega)),_,1,λb o e=>?_,af
   .rw[ak<|ao e y];exact j b o<|s2 b o e
   .rw[h,akK,ajb,ajh,ak8,xq z]
  .rintro σ H2 ys ⟨u,p,rfl,s2,a,h⟩;rw[aiE] at h;refine q D H2 ?_ y s2;rw[a,h];rfl
 .refine .inr {1,c,J,{_,L},λD y=>?_};refine yR (K:=K) (tu:=Z1) (l:=c) D (xs:=ws.map V.str) (λi σ H2 ys=>∃(u p:nt V),σ=[u,p,t8 c]/\aj H H2/\H2 D=some (.lst ys)/\ys =(List.range i).map (xr ws)) {Z0,Z0,J,aj.new y,af,J} (λ i σ H2 ys ⟨_,_,_,s2,_⟩=>L.same s2) ?_ ?_
  .rintro i x σ H2 ys r hi ⟨u,p,rfl,s2,a,h⟩ S;let⟨w,z,rfl⟩:=mX hi;let U:i<ws.length:=(aiH.mp z).1;exists r,1,X3.of af,J,_,1,3;let s3:aj H2 (Z9 H2 r (.tup [V.int ↥i,V.str w])):=aj.new S;generalize Z9 H2 r (.tup [V.int ↥i,V.str w])=m at s3;let C:=s2.trans s3;let t:=L.same C;let cut:cS (ws.map V.str) Z0 (some ↥i) =(ws.take i).map V.str:=by unfold cS;rw[HT.gZ,HT.jY,List.drop_zero,←anf,aiE,Nat.sub_zero,alP o6]
   refine .inr {2,1,c,1,t,(by rw[aiE,HT.gZ,HT.jY];omega),λg v=>?_};rw[cut];let s4:aj m (Z9 m g (.tup ((ws.take i).map V.str))):=aj.new v;let h4:Z9 m g (.tup ((ws.take i).map V.str)) g=some (.tup ((ws.take i).map V.str)):=af;generalize Z9 m g (.tup ((ws.take i).map V.str))=H4 at s4 h4;refine{Z1,g,ws.take i,J,X3.of h4,(by rw[aiV];omega),λd C4 H5 O Y B s5=>?_};exists d,J,.inl {_,.inl O},1,(bOf (ws.take i) w).map Z8,(B.get<|hV.four z) ▸ gG.k (k:=Sum.inr w) O;let j:aj H2 H5:=s3.trans<|s4.trans s5;exists j _ _ a,(by rw[h];exact aF (by simp;omega)),_,1,λb o e=>?_,af
   .rw[ak<|ao e y];exact j b o<|s2 b o e
   .rw[h,akK,ajb,ajh,ak8,xq z]
  .rintro σ H2 ys ⟨u,p,rfl,s2,a,h⟩;rw[aiE] at h;refine q D H2 ?_ y s2;rw[a,h];rfl
variable(lE:bh "bases_of" 2 ["choices"] (zF K))
variable(gk:bh "leg_cost" 1 ["task","size"] (xw aI))
variable(gq:bh "day_cost" 1 ["task","day","size","way"] (xE aI))
include T lE gk gq in
theorem BF{f:jl}{fd:q9}(F:Fun K "costs_of" "costs_of" qg f fd):⋯ 3 f fd ["task","choices"] (uD K aI):=by
 refine F.okY gC ?_;rintro vs H Q E ⟨p,c,tu,C1,C0,r0,r1,r2,r3,ws,rfl,hT,F,hc,hV,bm,q⟩;refine⟨J,λbp A outer s hr=>⟨_,(ai (psS 2 gC.nd<|bI ah)
   (ai (psS 3 gC.nd<|Dv (zD (qv mZ au) au CU) J J o7 o7)
   (ai (cR ajd J (oV Z2 J T.gE<|aa (pcS lE az hr<|aa (pv 1) ah) ah) (lY J<|bS (pgN 4 gC.nd)<|bS (pgN 5 gC.nd) gD)
   (aq (aW (aE oH (pv 5) dN<|aH _) (aq<|aY<|cK ai6 ajf ajg cC (pv 2)<|aa (fh<|aa dN<|aa dN<|aa au ah) ah) (ai (psS 6 gC.nd<|aQ bY (aQ bY (aZ (pv 0) J) (pv 4) λ_ _=>rfl) (aB bf (pv 5) au) λ_ _=>rfl)
   (ai (oG (kh hr) (pv 3) (pv 4) (aB bf (yd (kh hr) (pv 3) (pv 5) λ_ _=>rfl)<|pcS gk az hr<|aa (pv 0)<|aa (pv 6) ah) J)
   (aq<|aY<|cK ai6 ajf ajg cC (pv 2)<|aa (fh<|aa (pv 6)<|aa (yd (kh hr) (pv 3) (pv 4) λ_ _=>rfl)<|aa (pcS gq az hr<|aa (pv 0)<|aa (pv 4)<|aa (pv 6)<|aa (yd (kh hr) (pv 3) (pv 4) λ_ _=>rfl) ah) ah) ah))))))
   (aq<|aJ<|pv 2)))),?_⟩⟩
 dsimp only[aX];let n7:=F.n7;refine{ajc _,λa a3=>?_};refine λwd al=>{1,af,[(Sum.inl (-1),V.int 0)],J,o7,?_}
 let s1:aj H (Z9 (Z9 (Z9 H a (.lst [])) wd (.dK [])) wd (.dK (gB [] [(Sum.inl (-1),V.int 0)]))):=by rw[dP];exact(aj.new a3).trans (aj.new al)
 let h1:Z9 (Z9 (Z9 H a (.lst [])) wd (.dK [])) wd (.dK (gB [] [(Sum.inl (-1),V.int 0)])) wd=some (.dK (putK [] (Sum.inl (-1)) (V.int 0))):=af;let⟨ag,a8⟩:=aR al;let Y:Z9 (Z9 (Z9 H a (.lst [])) wd (.dK [])) wd (.dK (gB [] [(Sum.inl (-1),V.int 0)])) a=some (.lst []):=by rw[ak a8.symm,ak a8.symm,af]
 generalize Z9 (Z9 (Z9 H a (.lst [])) wd (.dK [])) wd (.dK (gB [] [(Sum.inl (-1),V.int 0)]))=H1 at s1 h1 Y;refine{1,tu,c,ws,J,hc.same s1,hV,o6,λbl H2 ax ac s2=>?_};let ba:SqB K Z2 H2 bl (pq ws):=X0.of ax;let bc:=s1.trans s2;let bo:(pq ws).length=ws.length:=by unfold pq;simp
 refine⟨bl,J,{_,ba},uy (K:=K) (tu:=Z2) (l:=bl) (xs:=pq ws) (λi σ r=>∃(v4 v5 v6:nt V)(L:fy V)(C4:fy (Key×V)),σ=[t8 p,t8 c,t8 a,t8 wd,v4,v5,v6]/\aj H r/\r bl=some (.lst<|pq ws)/\r a=some (.lst L)/\L.length=i/\i6 r L (bA C1 C0 r0 r1 r2 r3 ws)/\r wd=some (.dK C4)/\C4.length≤1+i/\bD C4 (Sum.inl (-1))=some (V.int 0)/\(∀j:Z5,j<i->Kept ws j->bD C4 (Sum.inl ↥j)=some (V.int<|cI C1 r2 r3 ws j)))
  {Z0,Z0,Z0,[],1,bc,ax,s2 _ _ Y,J,⟨λi v e=>by simp at e⟩,s2 _ _ h1,ak6 J,by rw[cX,aiN rfl],λj hj=>absurd hj<|ak3 _} (λ i σ r ⟨_,_,_,_,_,_,_,hb,_⟩=>X0.of hb) ?_ ?_⟩
 .rintro i x σ r T0 hi ⟨v4,v5,v6,L,C4,rfl,s3,ae,a4,O,CA,am,bd,a0,g⟩ nT;let aS:i<ws.length:=by let:=(aiH.mp hi).1;omega
  let m:ws[i]?=some ws[i]:=aiG aS;generalize ws[i]=w at m;let hx:x=xr ws i:=by unfold pq at hi;rw[aiR,ank aS] at hi;exact(aiY hi).symm
  rw[xq m] at hx;exists T0,1,X3.of af,J,_,1,3;let s4:aj r (Z9 r T0 (.tup [V.int ↥i,x])):=aj.new nT;generalize Z9 r T0 (.tup [V.int ↥i,x])=S at s4;let a1:=s3.trans s4;let u:=s4 _ _ a4;let n:=s4 _ _ am;let a7:=s4 _ _ ae;let T4:=hT.keep a1;exists 1,J,1;let a2:a≠wd:=a8.symm;by_cases e:w=wN
  .let hx:x=V.non:=by rw[hx,e,Lk];rfl
   refine dW hx ?_;refine{1,.inl {J,_,X0.of u},E1,λt ht=>?_};let a6:a≠t:=ao u ht;exists a,3,aj.new ht _ _ u,aF o6;let k6:∀b o,S b=some o->b≠a->Z9 (Z9 S t (.tup [V.non,V.non,V.int 0])) a (.lst (L++[V.ref t])) b=some o:=λb o e hb=>by rw[ak hb];exact aj.new ht _ _ e
   let kT:∀b xs,S b=some (.tup xs)->Z9 (Z9 S t (.tup [V.non,V.non,V.int 0])) a (.lst (L++[V.ref t])) b=some (.tup xs):=λb xs e=>k6 b _ e<|bU e u nofun
   refine{_,_,_,L++[V.ref t],C4,J,λb o e=>k6 b o (a1 b o e)<|ao e a3,k6 _ _ a7 (ao Y ac).symm,af,by simp[O],(CA.mono λb xs e=>kT b xs<|s4 _ _ e).snoc (x:=V.non) (y:=V.non) ?_,k6 _ _ n a2.symm,o6,a0,λj hj hk=>?_}
   .rw[ak a6.symm,af,O];unfold bA;rw[aiN (by rw[m,e])]
   .by_cases ab:j=i
    .subst ab;let⟨y,ey,hy⟩:=hk;rw[m] at ey;cases ey;exact absurd e hy
    .exact g j o6 hk
  .let a9:=hV.base m e;let hx:x=V.int (bB ws i):=by rw[hx,a9];rfl
   subst hx;refine cT (by intro h;cases h) ?_;let⟨dx,t1,t2,t3,TL,g1,g2,g3,g4,g5⟩:=id T4;let⟨row,an,bi,z0,z1⟩:=F.sz ws (d:=i) o6;let bn:=g3.len;obtain⟨ra,as⟩:∃ra,TL[i]?=some ra:={_,aiG o6};let aw:=g3.get i ra row as an;let bb:=zP ws i;let blt:=mY ws i;exists 1,p,aI,dx,_,1,g1,T.dc,T.c7,jU,1,t1,_,_,V.ref ra,J,J,X3.of g2,bx (by rw[aiR,as];rfl),1,3,ra,_,_,V.int<|szD C1 ws i,J,J,X3.of aw,(by rw[show bB ws i+1 =(((bB ws i+1).toNat:Z5):Z4) by omega];exact bx (by rw[aiR,bi];rfl));let bj:bD C4 (Sum.inl (bB ws i))=some (V.int (gm C1 r2 r3 ws (bB ws i))):=by
    rcases iG ws i with h|⟨j,h,hj,hk⟩
    .rw[h,yp];exact a0
    .rw[h,m7];exact g j hj hk
   let lp:=cU C4 (Sum.inl ↥i)<|V.int<|cI C1 r2 r3 ws i;exists 2,wd,V.int<|gm C1 r2 r3 ws<|bB ws i,J,bj ▸ gG.k (k:=Sum.inl<|bB ws i) n,2,p,C1,C0,r0,r1,r2,r3,szD C1 ws i,J,T4,F,3,2,wd,1,jO.k (k:=Sum.inl ↥i) n<|aF o6;let bg:gm C1 r2 r3 ws (bB ws i) +(r2+r3*szD C1 ws i)=cI C1 r2 r3 ws i:=by rw[ym];exact Int.add_comm _ _
   let k5:∀b o,S b=some o->b≠wd->Z9 S wd (.dK (putK C4 (Sum.inl ↥i) (V.int (gm C1 r2 r3 ws (bB ws i) +(r2+r3*szD C1 ws i))))) b=some o:=λb o e hb=>by rwa[ak hb]
   let B:Z9 S wd (.dK (putK C4 (Sum.inl ↥i) (V.int (gm C1 r2 r3 ws (bB ws i) +(r2+r3*szD C1 ws i))))) wd=some (.dK (putK C4 (Sum.inl ↥i) (V.int (gm C1 r2 r3 ws (bB ws i) +(r2+r3*szD C1 ws i))))):=af;generalize Z9 S wd (.dK (putK C4 (Sum.inl ↥i) (V.int (gm C1 r2 r3 ws (bB ws i) +(r2+r3*szD C1 ws i)))))=H5 at k5 B;rw[bg] at B;let C:∀b xs,S b=some (.tup xs)->H5 b=some (.tup xs):=λb xs e=>k5 b _ e<|bU e n nofun
   let U:=k5 a _ u a2;let be:=k5 bl _ a7<|bU a7 n nofun;let T5:gf aI H5 p C1 C0 [r0,r1,r2,r3]:={dx,t1,t2,t3,TL,k5 _ _ g1<|bU g1 n nofun,C _ _ g2,g3.keep C,C _ _ g4,C _ _ g5};let ar:bD (putK C4 (Sum.inl ↥i) (V.int (cI C1 r2 r3 ws i))) (Sum.inl ↥i)=some (V.int (cI C1 r2 r3 ws i)):=by rw[cX,aiN rfl]
   refine{1,.inl {J,_,X0.of U},2,1,wd,V.int<|cI C1 r2 r3 ws i,J,ar ▸ gG.k (k:=Sum.inl ↥i) B,2,2,1,wd,V.int<|cI C1 r2 r3 ws i,J,ar ▸ gG.k (k:=Sum.inl ↥i) B,p,C1,C0,r0,r1,r2,r3,szD C1 ws i,cI C1 r2 r3 ws i,i,J,T5,F,o6,z0,z1,E1,λt ht=>?_};let a6:a≠t:=ao U ht;exists a,3,aj.new ht _ _ U,aF o6;let a5:bA C1 C0 r0 r1 r2 r3 ws i =(r0+r1*(↥C1.length -↥i))*szD C1 ws i+C0.getD i 0*cI C1 r2 r3 ws i:=by unfold bA;rw[aiJ (by rw[m];intro h;exact e<|aiY h)]
   rw[←a5];let k6:∀b o,H5 b=some o->b≠a->Z9 (Z9 H5 t (.tup [V.int (szD C1 ws i),V.int (cI C1 r2 r3 ws i),V.int (bA C1 C0 r0 r1 r2 r3 ws i)])) a (.lst (L++[V.ref t])) b=some o:=λb o e hb=>by rw[ak hb];exact aj.new ht _ _ e
   let kT:∀b xs,H5 b=some (.tup xs)->Z9 (Z9 H5 t (.tup [V.int (szD C1 ws i),V.int (cI C1 r2 r3 ws i),V.int (bA C1 C0 r0 r1 r2 r3 ws i)])) a (.lst (L++[V.ref t])) b=some (.tup xs):=λb xs e=>k6 b _ e<|bU e U nofun
   refine{_,_,_,L++[V.ref t],putK C4 (Sum.inl ↥i)<|V.int<|cI C1 r2 r3 ws i,J,λb o e=>k6 b o (k5 b o (a1 b o e)<|ao e ag)<|ao e a3,k6 _ _ be (ao Y ac).symm,af,by simp[O],(CA.mono λb xs e=>kT b xs<|C _ _<|s4 _ _ e).snoc (x:=V.int<|szD C1 ws i) (y:=V.int<|cI C1 r2 r3 ws i) ?_,k6 _ _ B a2.symm,o6,?_,λj hj hk=>?_}
   .rw[ak a6.symm,af,O]
   .rw[cX,aiJ λz=>by let:=akY z;omega];exact a0
   .rw[cX];by_cases ab:j=i
    .subst ab;rw[aiN rfl]
    .rw[aiJ λz=>by let:=akY z;omega];exact g j o6 hk
 .rintro σ r ⟨v4,v5,v6,L,C4,rfl,s3,ae,a4,O,CA,am,bd,a0,g⟩;exact{1,q a L r a4 o6 CA s3}
variable(lJ:bh "costs_of" 3 ["task","choices"] (uD K aI))
include T lJ in
theorem Ec{f:jl}{fd:q9}(F:Fun K "cost_of" "cost_of" qV f fd):⋯ 4 f fd ["task","choices"] (uC K aI):=by
 refine F.okY EB ?_;rintro vs H Q E ⟨p,c,tu,C1,C0,r0,r1,r2,r3,ws,rfl,B,F,z,Y,j,q⟩;refine{J,λU A outer s S=>{_,(aq<|aJ<|aL (z9 J) o9 T.afj PyProof.Rows.boot_sum<|aa (dg (N:=["row"]) (k:=1) (cap:=[]) J J (ck<|pcS lJ az S<|aa (pv 0)<|aa (pv 1) ah) (λ_ _ _ _=>(pgN 0 (show(["row"]:fy Z6).Nodup from by decide +kernel)<|.inr J)) (λ_ _ _ _=>cg) λ_ _ _ _=>(aQ (Qg (K:=K) J) (pv 0) au λ_ _=>rfl)) ah),?_}};dsimp only[aX];let n7:=F.n7;refine{2,p,c,tu,C1,C0,r0,r1,r2,r3,ws,J,B,F,z,Y,j,λl L H1 r m C s1=>{l,J,{_,X0.of r},λD n=>?_}};refine cQ D (K:=K) (a:=l) (xs:=L) (λi σ H2 ys=>∃(v:nt V),σ=[v]/\aj H1 H2/\H2 D=some (.lst ys)/\ys =((List.range i).map<|bA C1 C0 r0 r1 r2 r3 ws).map Z8) {Z0,J,aj.new n,af,J} (λi σ H2 ys _ u=>by let⟨_,_,s2,_⟩:=u;exact X0.of<|s2 _ _ r) ?_ ?_
 .rintro i x σ H2 ys hi ⟨v,rfl,s2,g,h⟩;let y:i<L.length:=(aiH.mp hi).1;let⟨t,x1,x2,rfl,O⟩:=C.get i x hi;exists 1,t,_,_,V.int<|bA C1 C0 r0 r1 r2 r3 ws i,J,J,X3.of<|s2 _ _ O,J,g,(by rw[h];exact aF (by simp;omega)),1,λb o e=>?_,af
  .rw[ak<|ao e n];exact s2 b o e
  .rw[h,akK];simp
 rintro σ H2 ys ⟨v,rfl,s2,g,h⟩;subst h;exists D,1,X0.of g;rw[yC,m];exact q H2<|s1.trans s2
variable(nj:bh "cost_of" 4 ["task","choices"] (uC K aI))
include T gk gq nj in
theorem BW{f:jl}{fd:q9}(F:Fun K "bound_of" "bound_of" qc f fd):⋯ 5 f fd ["task","choices"] (ue K aI):=by
 refine F.okY iA ?_;rintro vs H Q E ⟨p,c,tu,C1,C0,r0,r1,r2,r3,ws,rfl,C,F,y,S,r,q⟩;refine⟨J,λO A outer s t=>⟨_,(ai (psS 2 iA.nd<|pcS nj az t<|aa (pv 0)<|aa (pv 1) ah)
   (ai (cR ajd J (rM J T.eO<|aa (aL aK o9 T.bE aiT<|aa (pv 1) ah)<|aa (aL aK o9 T.bE aiT<|aa (aZ (pv 0) J) ah) ah) (pgN 3 iA.nd)
   (aq (aW (aE jt (aQ bY (aZ (pv 0) J) (pv 3) λ_ _=>rfl) au<|aH _) (ai (psS 4 iA.nd<|aL (Fq J) o9 T.zu akU<|aa (aQ bY (aZ (pv 0) J) (pv 3) λ_ _=>rfl) ah)
   (aq<|psS 2 iA.nd<|aB bf (pv 2)<|pcS gq az t<|aa (pv 0)<|aa (pv 3)<|aa (pv 4)<|aa (pcS gk az t<|aa (pv 0)<|aa (pv 4) ah) ah)) aP)))
   (aq<|aJ<|pv 2))),?_⟩⟩
 dsimp only[aX];let n7:=F.n7;let nw:=F.nw;let a0:=F.b3 r1 o8;let a2:=F.b3 r3 o8;refine{2,p,c,tu,C1,C0,r0,r1,r2,r3,ws,J,C,F,y,S,r,λH1 s1=>?_};let a:=C.keep s1;let⟨dx,B,U,t3,TL,o,L,z,g4,g5⟩:=id a;let v:=z.len;exists 1,c,1,(y.same s1).len,1,p,aI,dx,_,1,o,T.dc,T.c7,jU,B,1,.inr<|X3.of L;rw[aiE,aiE,v];let e0:sumTo (bA C1 C0 r0 r1 r2 r3 ws) ws.length=sumTo (bdD C1 C0 r0 r1 r2 r3 ws) ws.length:=nI λd m=>(aiN m).symm
 rw[e0];refine{_,1,⟨o6,o6,o6,o6⟩,fE (lo:=↥ws.length) (n:=(↥C1.length -↥ws.length).toNat) (λi σ H2=>∃(u h:nt V),σ=[t8 p,t8 c,t9<|sumTo (bdD C1 C0 r0 r1 r2 r3 ws) (ws.length+i),u,h]/\H2=H1) ⟨Z0,Z0,J,J⟩ ?_ ?_}
 .rintro i σ H2 hi ⟨u,h,rfl,rfl⟩;let m:ws.length+i<C1.length:=by omega
  let⟨row,g,x,eg,a1,Y,m1⟩:=F.GP m;let ew:C0[ws.length+i]?=some (C0.getD (ws.length+i) 0):=by rw[ai2,aiG (show ws.length+i<C0.length by omega)];rfl
  let b:(bdD C1 C0 r0 r1 r2 r3 ws) (ws.length+i)=uG C1 C0 r0 r1 r2 r3 (ws.length+i):=aiJ o6;let ei:↥ws.length +↥i =((ws.length+i:Z5):Z4):=rfl;exists 1,p,aI,dx,_,1,o,T.dc,T.eU,pV,1,U,_,_,V.int<|C0.getD (ws.length+i) 0,J,J,X3.of g4,bx (j:=ws.length+i) (by rw[aiR,ew];rfl),3,1;by_cases l:C0.getD (ws.length+i) 0>0
  .refine dW l ?_;obtain⟨ra,e⟩:∃ra,TL[ws.length+i]?=some ra:={_,aiG o6};exists 1,p,aI,dx,_,1,o,T.dc,T.c7,jU,1,B,_,_,V.ref ra,J,J,X3.of L,bx (j:=ws.length+i) (by rw[aiR,e];rfl),ra,row,J,X3.of<|z.get _ ra row e g,x;exists 2,2,2,p,C1,C0,r0,r1,r2,r3,gc row,J,a,F,p,C1,C0,r0,r1,r2,r3,gc row,_,ws.length+i,J,a,F,m,Y,m1,3;refine{some<|.int<|↥ws.length +↥i,t9<|gc row,?_,J};show _=[_,_,some<|V.int<|sumTo (bdD C1 C0 r0 r1 r2 r3 ws) (ws.length+i) +(bdD C1 C0 r0 r1 r2 r3 ws) (ws.length+i),_,_];rw[b];unfold uG;rw[aiN l,eg];rfl
  .refine cT l ?_;refine{some<|.int<|↥ws.length +↥i,h,?_,J};show _=[_,_,some<|V.int<|sumTo (bdD C1 C0 r0 r1 r2 r3 ws) (ws.length+i) +(bdD C1 C0 r0 r1 r2 r3 ws) (ws.length+i),_,_];rw[b];unfold uG;rw[aiJ l,Int.add_zero];rfl
 .rintro σ H2 ⟨u,h,rfl,rfl⟩;exists 1;rw[show ws.length +(↥C1.length -↥ws.length).toNat=C1.length by omega];exact q _ s1
variable(lF:bh "bound_of" 5 ["task","choices"] (ue K aI))
variable(ni:bh "allowed" 2 ["task","choices"] (pN K aI))
include T lF ni in
theorem zX{f:jl}{fd:q9}(F:Fun K "best_plan" "best_plan" nZ f fd):⋯ 6 f fd ["task"] (uW aI):=by
 refine F.okY c6 ?_;rintro vs H Q E ⟨p,C1,C0,r0,r1,r2,r3,rfl,hT,F,q⟩;refine⟨J,λbN A outer s hr=>⟨_,(ai (psS 1 c6.nd dN)
   (ai (psS 2 c6.nd dN)
   (ai (psS 3 c6.nd<|bI ah)
   (ai (psS 4 c6.nd<|bI<|aa (fh ah) ah)
   (ai (IC ajd (aE jt (aL aK o9 T.bE aiT<|aa (pv 4) ah) au<|aH _) (ai (qW (i:=5) c6.nd J (Or.inr J)<|ac4 ai6 PySem.F.slot_list_pop PySem.F.type_list_pop Xd<|pv 4)
   (ai (psS 6 c6.nd<|pcS lF az hr<|aa (pv 0)<|aa (pv 5) ah)
   (aq (aW (PW.pt<|pw_and (aE Qk (pv 2) dN<|aH _)<|pw_and1<|aE we (pv 6) (pv 2)<|aH _) (aq<|aY<|cK ai6 ajf ajg cC (pv 3)<|aa (fh<|aa (pv 5)<|aa (pv 6) ah) ah) (aq (aW (aE bL (aL aK o9 T.bE aiT<|aa (pv 5) ah) (aL aK o9 T.bE aiT<|aa (aZ (pv 0) J) ah)<|aH _) (ai (aY<|cK ai6 ajf ajg cC (pv 3)<|aa (fh<|aa (pv 5)<|aa (pv 6) ah) ah)
   (ai (psS 1 c6.nd<|pv 5)
   (aq<|psS 2 c6.nd<|pv 6)))<|aq<|aY<|cK ai6 alf alg rZ (pv 4)<|aa (dg (N:=["word","choices"]) (k:=1) (cap:=[5]) J J (Zh J T.DG<|aa (pcS ni az hr<|aa (pv 0)<|aa (pv 5) ah) ah) (λ_ _ _ _=>(pgN 0 (show(["word","choices"]:fy Z6).Nodup from by decide +kernel)<|.inr J)) (λ_ _ _ _=>cg) λ_ _ _ _=>(aB (CN (K:=K) J) (pv 1)<|fh<|aa (pv 0) ah)) ah)))))))
   (aq<|aJ<|fh<|aa (pv 1)<|aa (pv 2)<|aa (pv 3) ah)))))),?_⟩⟩
 dsimp only[aX];let nw:=F.nw;let n6:=F.n7;refine{ajc _,λll a8=>?_};let s1:aj H (Z9 H ll (.lst [])):=aj.new a8;let l1:Z9 H ll (.lst []) ll=some (.lst ([].map V.ref)):=af;refine{ajc _,λe0 as=>{v8,λwl B=>?_}};generalize Z9 H ll (.lst [])=H1 at s1 l1 as B;let s2:aj H1 (Z9 H1 e0 (.tup [])):=aj.new as;let e2:Z9 H1 e0 (.tup []) e0=some (.tup (([]:fy Z6).map V.str)):=af;generalize Z9 H1 e0 (.tup [])=H2 at s2 e2 B;let s3:aj H2 (Z9 H2 wl (.lst [V.ref e0])):=aj.new B;let w3:Z9 H2 wl (.lst [V.ref e0]) wl=some (.lst (([e0]:fy jl).map V.ref)):=af;generalize Z9 H2 wl (.lst [V.ref e0])=H3 at s3 w3;let bg:H wl=Z0:=(s1.trans s2).free B;let l3:=s3 _ _<|s2 _ _ l1;let an:ll≠wl:=λz=>by rw[←z,s2 _ _ l1] at B;cases B
 let hn:∀ws,bP C0 ws=[]↔C1.length≤ws.length:=λws=>by rw[qi,nw]
 exists λm σ u=>∃(v1 v2:V)(v5 v6:nt V)(y PL:fy jl)(U:fy Lf)(S:fy (fy Z6))(b:nt Lf),m=work C1.length S/\σ=[t8 p,some v1,some v2,t8 ll,t8 wl,v5,v6]/\aj H u/\u ll=some (.lst<|y.map V.ref)/\u wl=some (.lst<|PL.map V.ref)/\iI u y U/\dS u PL S/\zy u v1 v2 b/\(∀ ws∈S,VW ws/\ws.length≤C1.length)/\U.length+work C1.length S≤390625/\uu C1 C0 r0 r1 r2 r3 (C1.length+1) [] Z0 =(U ++(pile (bP C0) (bdF C1 C0 r0 r1 r2 r3) C1.length S.reverse b).1,(pile (bP C0) (bdF C1 C0 r0 r1 r2 r3) C1.length S.reverse b).2),{_,.non,.non,Z0,Z0,[],[e0],[],[[]],Z0,J,J,s1.trans<|s2.trans s3,l3,w3,iI.nil,dS.one<|s3 _ _ e2,⟨J,J⟩,λws h=>by simp at h;subst h;exact{VW.nil,ajc _},by let:=aha n6;simp[work];exact this,by simp[pile,vL,uu]};rintro m σ u ⟨v1,v2,v5,v6,y,PL,U,S,b,rfl,rfl,s4,l4,w4,hL,hB,hb,hS,hsz,j⟩;let Bl:=hB.len;let Ll:=hL.len;let Sl:=uT C1.length S;exists 1,wl,1,.inl<|X0.of w4,3,1;rcases List.eq_nil_or_concat S with a3|⟨S',ws,a3⟩
 .subst a3;refine cT (by rw[aiE,Bl];simp) ?_;let hv:uu C1 C0 r0 r1 r2 r3 (C1.length+1) [] Z0 =(U,b):=by simpa[pile,vL] using j
  let ba:=(AV (bd:=bdF C1 C0 r0 r1 r2 r3) hn (C1.length+1) [] Z0 o8 o6).2;rw[show visit (bP C0) (bdF C1 C0 r0 r1 r2 r3) (C1.length+1) [] Z0 =(U,b) from hv] at ba;cases b with
  |none=>exact absurd J ba
  |some x=>let⟨bt,rfl,ac,rfl⟩:=hb;refine{2,1,E1,λt ht=>?_};let s5:aj u (Z9 u t (.tup [V.ref bt,V.int x.2,V.ref ll])):=aj.new ht;exact q t bt ll y U x _ af (s5 _ _ ac) (s5 _ _ l4) a8 (hL.mono<|.of s5) hv (by simpa[work] using hsz)<|s4.trans s5
 .rw[List.concat_eq_append] at a3;subst a3;let⟨C,g,rfl,bi,ar⟩:=hB.last;refine dW (by rw[aiE,Bl];simp) ?_;exists _,λσ' H' h=>h;let⟨hV,a2⟩:=hS ws o8;exists 1,.inl {J,_,X0.of w4},wl,_,V.ref g,J,J,w4,o8;let k5:cY u (Z9 u wl (.lst ((C++[g]).map V.ref).dropLast)):=cY.lst w4;let w5:Z9 u wl (.lst ((C++[g]).map V.ref).dropLast) wl=some (.lst (C.map V.ref)):=by rw[af];simp
  let l5:Z9 u wl (.lst ((C++[g]).map V.ref).dropLast) ll=some (.lst (y.map V.ref)):=by rwa[ak an]
  let s5:aj H (Z9 u wl (.lst ((C++[g]).map V.ref).dropLast)):=λb o e=>by rw[ak<|ao e bg];exact s4 b o e
  generalize Z9 u wl (.lst ((C++[g]).map V.ref).dropLast)=H5 at k5 w5 l5 s5;refine{2,p,g,Z1,C1,C0,r0,r1,r2,r3,ws,J,hT.keep s5,F,X3.of<|k5 _ _ ar,hV,a2,λH6 s6=>?_};refine HZ (σ':=[t8 p,some v1,some v2,t8 ll,t8 wl,t8 g,t9<|bdF C1 C0 r0 r1 r2 r3 ws]) J ?_;dsimp only;let k6:=k5.trans<|.of s6;let w6:=s6 _ _ w5;let l6:=s6 _ _ l5;let a9:=s5.trans s6;let l:=k6 _ _ ar;let bb:=hL.mono k6;let bj:=bi.mono k6;let Y:=hb.mono k6;rw[fN] at hsz;let ag:work C1.length [ws]=5 ^ (C1.length+1-ws.length):=by simp[work]
  rw[ag] at hsz;let bp:=anO (n:=C1.length+1-ws.length) (show 0<5 by omega);rw[anl,show [ws].reverse++S'.reverse=ws::S'.reverse from rfl] at j;let ae:∀ x∈S',VW x/\x.length≤C1.length:=λx hx=>hS x (by simp[hx])
  let a0:work C1.length S'<work C1.length (S'++[ws]):=by rw[fN,ag];omega
  let a5:∀tt,H6 tt=Z0->∃H8,H8=Z9 (Z9 H6 tt (.tup [V.ref g,V.int (bdF C1 C0 r0 r1 r2 r3 ws)])) ll (.lst (y.map V.ref++[V.ref tt]))/\aj H H8/\cY H6 H8/\H8 ll=some (.lst ((y++[tt]).map V.ref))/\H8 wl=some (.lst (C.map V.ref))/\iI H8 (y++[tt]) (U++[(ws,bdF C1 C0 r0 r1 r2 r3 ws)])/\dS H8 C S':=λtt c=>by
   let aS:tt≠ll:=λz=>by rw[z,l6] at c;cases c
   let l7:Z9 H6 tt (.tup [V.ref g,V.int (bdF C1 C0 r0 r1 r2 r3 ws)]) ll=some (.lst (y.map V.ref)):=by rwa[ak aS.symm]
   let k7:cY H6 (Z9 H6 tt (.tup [V.ref g,V.int (bdF C1 C0 r0 r1 r2 r3 ws)])):=.of<|aj.new c;let k8:=k7.trans<|cY.lst (ys:=y.map V.ref++[V.ref tt]) l7;refine{1,λb o e=>?_,k8,by rw[af,ajb];rfl,?_,(bb.mono k8).snoc {g,?_,k8 _ _ l},bj.mono k8}
   .rw[ak<|ao e a8];exact aj.new c b o<|a9 b o e
   .rw[ak an.symm];exact aj.new c _ _ w6
   .rw[ak aS];exact af
  by_cases r:rR b (bdF C1 C0 r0 r1 r2 r3 ws)=Z1
  .cases b with
   |none=>cases r
   |some x=>
    let⟨bt,rfl,ac,rfl⟩:=id Y;refine gz (λQb hq=>?_) ?_
    .refine{1,J,1,sI o8 {2,3,1,?_}};rwa[aiS<|ajn r]
    .refine{1,.inl {J,_,X0.of l6},2,v9,λtt c=>?_};let⟨H8,e8,s8,k8,l8,w8,ab,a7⟩:=a5 tt c;exists ll,3,aj.new c _ _ l6,(by rw[aiE];exact xK o6);rw[←e8];exists _,a0,V.ref bt,V.int x.2,_,_,y++[tt],C,U++[(ws,bdF C1 C0 r0 r1 r2 r3 ws)],S',some x,J,J,s8,l8,w8,ab,a7,Y.mono k8,ae,(by simp;omega);rw[j,Ia a2 r];simp
  let L:rR b (bdF C1 C0 r0 r1 r2 r3 ws)=Z2:=⇑r
  refine gK (λQb hq=>?_) ?_
  .cases b with
   |none=>let⟨rfl,rfl⟩:=Y;exact{1,J,1,zA J hq}
   |some x=>let⟨bt,rfl,ac,rfl⟩:=Y;refine{1,J,1,sI o8 {2,3,1,?_}};rwa[aiX λz=>r<|aiS z]
  let aw:=hT.keep a9;let⟨dx,t1,t2,t3,TL,g1,g2,g3,g4,g5⟩:=id aw;let ax:=g3.len;exists 1,g,1,.inr<|X3.of l,1,p,aI,dx,_,1,g1,T.dc,T.c7,jU,t1,1,.inr<|X3.of g2,J,1;by_cases O:ws.length=C1.length
  .refine dW (by rw[aiE,aiE,ax,O]) ?_;refine{1,.inl {J,_,X0.of l6},2,v9,λtt c=>?_};let⟨H8,e8,s8,k8,l8,w8,ab,a7⟩:=a5 tt c;exists ll,3,aj.new c _ _ l6,(by rw[aiE];exact xK o6);rw[←e8];exists 2;exists _,a0,V.ref g,V.int<|bdF C1 C0 r0 r1 r2 r3 ws,_,_,y++[tt],C,U++[(ws,bdF C1 C0 r0 r1 r2 r3 ws)],S',some (ws,bdF C1 C0 r0 r1 r2 r3 ws),J,J,s8,l8,w8,ab,a7,{g,J,k8 _ _ l,J},ae,(by simp;omega);rw[j,GI a2 L<|(hn ws).mpr o6];simp
  .refine cT (λz=>O (by let:=V.int.inj z;rw[aiE,aiE,ax] at this;omega)) ?_;let bn:ws.length<C1.length:=by omega
   let n4:=B4 C0 ws;refine{1,.inl {J,_,X0.of w6},2,p,g,Z1,C1,C0,[r0,r1,r2,r3],ws,J,aw,X3.of l,o6,nw.symm,o6,λal H7 bc bv s7=>{al,1,X0.of bc,λD hD=>?_}};refine Ht D (K:=K) (a:=al) (xs:=(bP C0 ws).map V.str) (λi σ H9 ys=>∃(v:nt V)(KL:fy jl),σ=[v,t8 g]/\aj H7 H9/\H9 D=some (.lst ys)/\ys=KL.map V.ref/\dS H9 KL (((bP C0 ws).reverse.take i).map λw=>ws++[w])) {Z0,[],J,aj.new hD,af,J,dS.nil} (λ i σ H9 ys ⟨_,_,_,s9,_⟩=>X0.of<|s9 _ _ bc) ?_ ?_
   .rintro i x σ H9 ys hi ⟨v,KL,rfl,s9,a6,rfl,hK⟩;rw[←amv] at hi;let⟨w,hw,rfl⟩:=mX hi;let am:=hK.len;let bQ:i <(bP C0 ws).length:=by let:=(aiH.mp hw).1;simpa using this
    let bu:KL.length≤4:=by rw[am,aiE,aiV,ak0];omega
    refine{2,v8,λtt c=>{g,tt,ws.map V.str,[V.str w],J,J,X3.of<|aj.new c _ _<|s9 _ _<|s7 _ _ l,af,o8,ajt<|aF (by simp;omega),λpp H11 be bo=>?_}};let a1:aj H9 H11:=(aj.new c).trans bo;let a4:=a1 _ _ a6;let kD:cY H11 (Z9 H11 D (.lst (KL.map V.ref++[V.ref pp]))):=cY.lst a4;exists a4,(by rw[aiE];exact aF o6),_,KL++[pp],J,λb o e=>?_,af,(by rw[ajb];rfl)
    .rw[ak<|ao e hD];exact a1 b o<|s9 b o e
    .rw[ai1,hw,ajb];refine(hK.mono<|(cY.of a1).trans kD).append (dS.one<|kD _ _ ?_);rw[be,ajb];rfl
   rintro σ H9 ys ⟨v,KL,rfl,s9,a6,rfl,hK⟩;rw[aiE,←ak0,ai8] at hK;let am:=hK.len;rw[aiE,ak0] at am;let w9:=s9 _ _<|s7 _ _ w6;let k9:cY H6 H9:=(cY.of s7).trans<|.of s9;let hPl:=bi.len;let bz:=uT C1.length S';exists wl,D,3,w9,a6,(by rw[aiE,aiE];exact ajt<|xK o6);let k10:=k9.trans<|cY.lst (ys:=C.map V.ref++KL.map V.ref) w9;let bm:=FO bn n4;let bw:work C1.length ((bP C0 ws).reverse.map (λw=>ws++[w]))<5 ^ (C1.length+1-ws.length):=by rwa[amv,Ah]
   exists work C1.length<|S' ++(bP C0 ws).reverse.map (λw=>ws++[w]),by rw[fN,fN,ag];omega,v1,v2,_,_,y,C++KL,U,S' ++(bP C0 ws).reverse.map (λw=>ws++[w]),b,J,J,λb o e=>?_,?_,by rw[af,ajb],bb.mono k10,(bj.mono k10).append<|hK.mono<|cY.lst w9,Y.mono k10,?_,(by rw[fN];omega)
   .rw[ak<|ao e bg];exact s9 b o<|s7 b o<|a9 b o e
   .rw[ak an];exact s9 _ _<|s7 _ _ l6
   .intro x hx;rcases ai0.mp hx with hx|hx
    .exact ae x hx
    .let⟨w,hw,rfl⟩:=aje.mp hx;let⟨wt,_,bl⟩:=jr<|List.mem_reverse.mp hw;exact{hV.snoc bl,by simp;omega}
   .rw[j,HV a2 L (λz=>by let:=(hn ws).mp z;omega),anl,amv,am5]
include T in
theorem xy{f:jl}{fd:q9}(F:Fun K "marks" "Store.marks" kO f fd):⋯ 1 f fd ["self"] (ux av):=by refine F.okY xj ?_;rintro vs H Q E ⟨p,g,i,n,dl,l,m,j,h,b,rfl,⟨dx,h1⟩,c,a,q⟩;refine{J,λe A outer s o=>{_,(aq<|aJ<|bF dZ o9 T.j0 ajR<|aa (aZ (pv 0) J) ah),?_}};dsimp only[aX];refine{1,p,av,dx,_,1,h1,T.bu,T.gg,wY,dl,b,J,.inl {X0.of c,q}}
include T in
theorem xB{f:jl}{fd:q9}(F:Fun K "today" "Store.today" kR f fd):⋯ 1 f fd ["self"] (uw av aA):=by refine F.okY xM ?_;rintro vs H Q E ⟨p,a,g,l,dl,i,ta,sa,TL,SL,wd,C2,C3,j,h,e,rfl,⟨dx,h1⟩,D,q⟩;refine{J,λc A outer s m=>{_,(aq<|aJ<|aZ (aZ (pv 0) J) J),?_}};dsimp only[aX];let⟨dd,b⟩:=D.ob;exact{1,p,av,dx,_,1,h1,T.bu,T.eW,sL,a,aA,dd,_,1,b,T.bN,T.dH,oN,q}
variable(kq:dM aD "put" 2 ["self","piece"] (Aw aD))
include T kq in
theorem DB{f:jl}{fd:q9}(F:Fun K "do_deed" "do_deed" rO f fd):⋯ 5 f fd ["shelf","deed"] (qL aD):=by refine F.okY En ?_;rintro vs H Q E ⟨x,d,t,a,fl,C4,rfl,g,⟨e,c,m⟩,b,q⟩;refine{J,λl A outer s j=>{_,(aq<|aW (aE bL (aQ bY (pv 1) au λ_ _=>rfl) aN<|aH _) (aq<|aY<|bM (pv 0) T.fQ kq az (j.mono o7)<|aa (aQ bY (pv 1) au λ_ _=>rfl) ah)<|aq cA),?_}};dsimp only[aX];refine gz (λn h=>{1,t,_,_,V.str _,J,J,X3.of g,J,J,1,by rwa[aiS rfl]}) ?_;exact{1,x,e,1,c,vJ o4 o4,1,t,_,_,V.ref a,J,J,X3.of g,J,x,d,fl,C4,a,J,⟨e,c,m⟩,b,λH' i k=>q H' i k}
include T in
theorem tD{f:jl}{fd:q9}(F:Fun K "__init__" "AnyOf.__init__" iT f fd):⋯ 2 f fd ["self","rules"] (uJ cF):=by refine F.okY tw ?_;rintro vs H Q E ⟨p,dx,l,xs,rfl,c,e,b,q⟩;refine{J,λg A outer s h=>{_,(aq<|bV (pv 0) (bF dZ o9 T.j0 ajR<|aa (pv 1) ah) J),?_}};dsimp only[aX];refine{1,l,xs,J,.inl {X0.of e,λt a=>{1,p,cF,dx,1,aj.new a p _ c,T.ID,T.kW,(by show 0<1000;decide),?_}}};exact q t _ af<|cZ (aV.of_same<|aj.new a)<|.inl o8
variable(cJ:bh "writes_number" 1 ["word"] rK)
include T cJ in
theorem A7{f:jl}{fd:q9}(F:Fun K "number_of" "number_of" nB f fd):⋯ 2 f fd ["word"] (qQ):=by
 refine F.okY AI ?_;rintro vs H Q E ⟨z,rfl,a,q⟩;refine⟨J,λc A outer s b=>⟨_,(ai (aW (mP<|oU<|pcS cJ az b<|aa (pv 0) ah) (aq cA) aP)
   (aq<|aJ<|bF gP o9 T.vN akv<|aa (pv 0) ah)),?_⟩⟩
 refine{1,z,J,(by let:=nq a;omega),λH1 s1=>{1,?_}};rw[a];refine fR ?_;exact{1,z,intOf z,J,xZ a,(by let:=nq a;omega),q H1 s1}
include T cJ in
theorem zO{f:jl}{fd:q9}(F:Fun K "change_of" "change_of" nL f fd):⋯ 2 f fd ["word"] (qM):=by
 refine F.okY sH ?_;rintro vs H Q E ⟨z,c,rfl,L,g,q⟩;refine⟨J,λO A outer s u=>⟨_,(ai (psS 1 sH.nd<|cK ajG aki akj mK (pv 0)<|aa aN ah)
   (ai (aW (PW.pt<|pw_or (aE pL (aL aK o9 T.bE aiT<|aa (pv 1) ah) au<|aH _)<|pw_or (mP<|oU<|pcS cJ az u<|aa (aQ aT (pv 1) au λ_ _=>rfl) ah)<|pw_or1<|mP<|oU<|pcS cJ az u<|aa (aQ aT (pv 1) au λ_ _=>rfl) ah) (aq cA) aP)
   (aq<|aJ<|fh<|aa (bF gP o9 T.vN akv<|aa (aQ aT (pv 1) au λ_ _=>rfl) ah)<|aa (bF gP o9 T.vN akv<|aa (aQ aT (pv 1) au λ_ _=>rfl) ah) ah))),?_⟩⟩
 dsimp only[aX];refine{1,J,z,Str.ofString "=",J,J,o4,o6,λp o=>?_};let em:∀ y∈Txt.split z (Str.ofString "="),y.length≤4900:=λy h=>by rw[zL] at h;exact ai9 (split_le h) L
 let i:chg z=Eh (Txt.split z (Str.ofString "=")):=rfl;generalize Txt.split z (Str.ofString "=")=ps at em i o ⊢;rw[i] at g;let e:Z9 H p (.lst (ps.map V.str)) p=some (.lst (ps.map V.str)):=af;let r:aj H (Z9 H p (.lst (ps.map V.str))):=aj.new o;generalize Z9 H p (.lst (ps.map V.str))=H0 at e r;obtain⟨a,b,rfl,n,m,rfl⟩:∃a b,ps=[a,b]/\okW a=Z1/\okW b=Z1/\c =(intOf a,intOf b):=by
  by_cases h2:ps.length=2
  .obtain⟨a,b,rfl⟩:∃a b,ps=[a,b]:=by
    match ps,h2 with
    |[a,b],_=>exact⟨a,b,J⟩
   simp only[Eh] at g;split at g
   .rename_i v;exact{a,b,J,v.1,v.2,(aiY g).symm}
   .cases g
  .rw[Gu h2] at g;cases g
 exists 1,p,1,.inl<|X0.of e,J,1;refine zA J ?_;let B:=em a o8;let C:=em b o8;refine{1,p,_,_,V.str a,J,J,X0.of e,bx (j:=0) J,a,J,B,λH1 s1=>{1,?_}};rw[n];refine fR ?_;refine{1,p,_,_,V.str b,J,J,X0.of<|s1 p _ e,bx (j:=1) J,b,J,C,λH2 s2=>{1,?_}};rw[m];refine fR ?_;let l:=s2 p _<|s1 p _ e;let l1:=nq n;let l2:=nq m;refine{1,p,_,_,V.str a,J,J,X0.of l,bx (j:=0) J,a,intOf a,J,xZ n,o6,1,p,_,_,V.str b,J,J,X0.of l,bx (j:=1) J,b,intOf b,J,xZ m,o6,v9,λt x=>?_};exact q t _ af<|((r.trans s1).trans s2).trans<|aj.new x
include T in
theorem BN{f:jl}{fd:q9}(F:Fun K "ask_form" "ask_form" pW f fd):⋯ 1 f fd ["word","fits"] (pH):=by refine F.okY BI ?_;rintro vs H Q E ⟨z,rfl,q⟩;refine{J,λa A outer s b=>{_,(aq<|aW (mP<|oU<|pv 1) (aq cA) aP),?_}};exact{2,fR q}
include T in
theorem zk{f:jl}{fd:q9}(F:Fun K "is_as_many" "is_as_many" lW f fd):⋯ 1 f fd ["many","form"] (ya K):=by
 refine F.okY zb ?_;rintro vs H Q E ⟨n,lo,hi,a,rfl,c,q⟩;refine{J,λg A outer s h=>{_,(aq<|aJ<|vG (fu we (pv 0) (aQ bY (pv 1) au λ_ _=>rfl)<|aH _)<|r8<|ad3 (fu oH (aQ bY (pv 1) au λ_ _=>rfl) dN<|aH _)<|r8<|fu vR (pv 0) (aQ bY (pv 1) au λ_ _=>rfl)<|aH _),?_}};dsimp only[aX];exists 2,a,_,_,V.int ↥lo,J,J,c,J,3,1;by_cases b:lo≤n
 .refine dW o6 ?_;exists 1,a,_,_,hiV hi,J,J,c,J,J;cases hi with
  |none=>
   refine{1,fS ?_};let e:gR n (lo,Z0)=Z1:=by simp[gR,b]
   rwa[e] at q
  |some m=>
   refine{1,fR {2,a,_,_,V.int ↥m,J,J,c,J,3,?_}};let e:gR n (lo,some m)=decide (↥n≤↥m):=by simp[gR,b]
   rwa[e] at q
 .refine cT o6 ?_;let e:gR n (lo,hi)=Z2:=by simp[gR,b]
  rwa[e] at q
include T in
theorem Ak{f:jl}{fd:q9}(F:Fun K "is_within" "is_within" nX f fd):⋯ 1 f fd ["word","numbers"] (qZ):=by
 refine F.okY Bm ?_;rintro vs H Q E ⟨z,a,ns,rfl,p,c,h4,h2,o,q⟩;refine⟨J,λy A outer s C=>⟨_,(ai (aW (aE bL (pv 0) aN<|aH _) (aq<|aJ<|fu vR (aQ aT (pv 1) au λ_ _=>rfl) (eL (v:=.int 18446744073709551615) J T.m_W {1})<|aH _) aP)
   (ai (aW (aE bL (pv 0) aN<|aH _) (aq<|aJ<|fu vR (aL (ES J) o9 T.wV aku<|aa (d7 fY (pv 1) (dD au) ig) ah) (eL (v:=.int 1000000000000) J T.Bu {1})<|aH _) aP)
   (aq<|aJ nh))),?_⟩⟩
 dsimp only[aX];let n:∀{x:Z6},z≠x->decide (V.str z=V.str x)=Z2:=λe=>aiX λz=>e<|V.str.inj z
 by_cases g:z = "harm"
 .refine gz (λi b=>{1,J,1,by rw[aiS (by rw[g])];exact b}) ?_;let h4:=h4 g;let B:=c.1 g _<|aiG (show 3<ns.length by omega);exists 1,a,_,_,V.int ns[3],J,J,X0.of p,bx (j:=3) (by rw[aiR,aiG (show 3<ns.length by omega)];rfl),3;rw[aiS B];exact q H<|aj.refl H
 refine gK (λi b=>{1,J,1,by rwa[n g]}) ?_;unfold p8;dsimp only;by_cases h:z = "plan"
 .refine gz (λi b=>{1,J,1,by rw[aiS (by rw[h])];exact b}) ?_;let h2:=h2 h;refine{2,a,1,X0.of p,λl t=>?_};let r:cS (ns.map Z8) (some 1) Z0=ns.tail.map Z8:=by
   cases ns with
   |nil=>simp at h2
   |cons x xs=>simp[cS,HT.sIx];exact ajB o8
  rw[r];refine{l,ns.tail,J,X0.of af,λe=>by let:=congrArg List.length e;simp at this;omega,λm u _=>{3,?_}};rw[aiS<|c.2 h m u];exact q _<|aj.new t
 .refine gK (λi b=>{1,J,1,by rwa[n h]}) ?_;exact q H<|aj.refl H
variable(kr:bh "change_of" 2 ["word"] qM)
variable(ir:bh "ask_form" 1 ["word","fits"] pH)
variable(jC:bh "is_as_many" 1 ["many","form"] (ya K))
variable(ju:GDT P w K c9 vz)
variable(fM:bh "number_of" 2 ["word"] qQ)
variable(ku:bh "is_within" 1 ["word","numbers"] qZ)
include T kr ir jC ju fM ku in
theorem xN{f:jl}{fd:q9}(F:Fun K "told_behind" "told_behind" kU f fd):⋯ 3 f fd ["word","rest"] (uh):=by
 refine F.okY oF ?_;rintro vs H Q E ⟨B,r,ws,td,rfl,g,a4,a6,hW,q⟩;refine⟨J,λa7 A outer s U=>⟨_,(ai (aW (aE bL (pv 0) aN<|aH _) (aq<|aJ<|dg (N:=["change"]) (k:=1) (cap:=[]) J J (ck<|pv 1) (λ_ _ _ _=>(pgN 0 (show(["change"]:fy Z6).Nodup from by decide +kernel)<|.inr J)) (λ_ _ _ _=>cg) λ_ _ _ _=>(pcS kr az U<|aa (pv 0) ah)) aP)
   (ai (aW (aE bL (pv 0) aN<|aH _) (ai (aY<|pcS ir az U<|aa (pv 0)<|aa (vG (fu bL (aL aK o9 T.bE aiT<|aa (pv 1) ah) au<|aH _)<|r8<|fu kH (aQ aT (pv 1) au λ_ _=>rfl) (eL (v:=.ref fF) J T.QA J) (by with_unfolding_all rfl)) ah)
   (aq<|aJ<|pv 1)) aP)
   (ai (aY<|pcS ir az U<|aa (pv 0)<|aa (vG (Ri<|Ro ju (pv 0)<|eL (v:=.ref c9) J T.AD J)<|r8<|pcS jC az U<|aa (aL aK o9 T.bE aiT<|aa (pv 1) ah)<|aa (afF ju (eL (v:=.ref c9) J T.AD J) (pv 0) λ_ _=>rfl) ah) ah)
   (ai (ia (i:=2) oF.nd J (Or.inl J) (N:=["number"]) (k:=1) (cap:=[]) J J (ck<|pv 1) (λ_ _ _ _=>(pgN 0 (show(["number"]:fy Z6).Nodup from by decide +kernel)<|.inr J)) (λ_ _ _ _=>cg) λ_ _ _ _=>(pcS fM az U<|aa (pv 0) ah))
   (ai (aY<|pcS ir az U<|aa (pv 0)<|aa (pcS ku az U<|aa (pv 0)<|aa (pv 2) ah) ah)
   (aq<|aJ<|pv 2)))))),?_⟩⟩
 dsimp only[aX];let no:∀{x:Z6},B≠x->decide (V.str B=V.str x)=Z2:=λe=>aiX λz=>e<|V.str.inj z
 cases td with
 |chs cs=>
  let⟨w1,a3⟩:=hW;refine gz (λQb C=>{1,J,1,by rw[aiS (by rw[w1])];exact C}) ?_;refine{1,r,J,{_,X0.of g},λD Y=>?_};refine cQ D (K:=K) (a:=r) (xs:=ws.map V.str) (λi σ n ys=>∃(v:nt V)(u:fy (Z4×Z4)),σ=[v]/\aj H n/\n D=some (.lst ys)/\fZ n ys u/\(ws.take i).map chg=u.map some) {Z0,[],J,aj.new Y,af,fZ.nil,o8} (λi σ n ys _ z0=>by let⟨_,_,_,s5,_⟩:=z0;exact X0.of<|s5 r _ g) ?_ ?_
  .rintro i x σ n ys hi ⟨v,u,rfl,s5,L,R,m⟩;obtain⟨y,p,rfl⟩:∃y,ws[i]?=some y/\V.str y=x:=by rw[aiR] at hi;let⟨c,h1,h2⟩:=aja.mp hi;exact⟨c,h1,h2⟩
   obtain⟨c,hc⟩:∃c,chg y=some c:=by let hm:chg y∈ws.map chg:=ake<|aiQ p;rw[a3] at hm;let⟨c,_,e⟩:=aje.mp hm;exact⟨c,e.symm⟩
   refine{1,y,c,J,a4 y<|aiQ p,hc,λt H6 ht s6=>?_};let a2:=s6 D _ L;refine{a2,?_,_,u++[c],J,λb o e=>?_,af,?_,Ed m p hc}
   .let e:=congrArg List.length m;simp only[List.length_map,List.length_take] at e;rw[R.len,←e];exact aF o6
   .rw[ak<|ao e Y];exact s6 b _<|s5 b _ e
   .refine(R.mono λb xs e=>?_).snoc ?_
    .rw[ak<|bU e L nofun];exact s6 b _ e
    .rw[ak<|bU ht a2 nofun];exact ht
  .rintro σ n ys ⟨v,u,rfl,s5,L,R,m⟩;rw[aiE,ai8,a3] at m;let e:=(anB λa b h=>aiY h).mp m;subst e;exact q D n ⟨ys,L,R⟩ (.inr Y) s5
 |wrd w=>
  let⟨w1,rfl,hw⟩:=hW;refine gK (λQb C=>{1,J,1,by rw[no (by rw[w1];decide +kernel)];exact C}) ?_;unfold p8;dsimp only;refine gz (λQb C=>{1,J,1,by rw[aiS (by rw[w1])];exact C}) ?_;let a5:inV (V.str w) [V.str "whole",V.str "since",V.str "last"]=Z1:=by simp only[DE,List.mem_cons,List.not_mem_nil,or_false] at hw;rcases hw with rfl|rfl|rfl <;> decide +kernel
  refine{2,r,1,.inl<|X0.of g,J,1,dW J {1,r,_,_,V.str w,J,J,X0.of g,bx (j:=0) J,fF,1,.inr<|EW T.D8,J,J,B,by rw[aiJ o7,a5],1,q r H g (.inl J)<|aj.refl H}}
 |nums ns=>
  let⟨w1,w2,hN⟩:=hW;refine gK (λQb C=>{1,J,1,by rwa[no w1]}) ?_;unfold p8;dsimp only;refine gK (λQb C=>{1,J,1,by rwa[no w2]}) ?_;dsimp only;let⟨⟨lo,hi⟩,hf,S⟩:=hN.fm;let a1:=Gr hf;refine{2,B,1,a1,1,fS {1,r,1,.inl<|X0.of g,1,B,1,a1,λb hb=>?_}};exists ws.length,lo,hi,b,o8,hb _;rw[S];exists B,J;dsimp only;refine{1,r,J,{_,X0.of g},λD Y=>?_};refine cQ D (K:=K) (a:=r) (xs:=ws.map V.str) (λi σ n ys=>∃(v:nt V),σ=[v]/\aj H n/\n D=some (.lst ys)/\ys =(ws.take i).map λw=>V.int<|intOf w) {Z0,J,aj.new Y,af,o8} (λi σ n ys _ z0=>by let⟨_,_,s5,_⟩:=z0;exact X0.of<|s5 r _ g) ?_ ?_
  .rintro i x σ n ys hi ⟨v,rfl,s5,L,rfl⟩;obtain⟨y,p,rfl⟩:∃y,ws[i]?=some y/\V.str y=x:=by rw[aiR] at hi;let⟨c,h1,h2⟩:=aja.mp hi;exact⟨c,h1,h2⟩
   refine{1,y,J,hN.ok y<|aiQ p,λH6 s6=>?_};exists s6 D _ L,by rw[aiE,aiV];exact aF o6,1,λb o e=>?_,af
   .rw[ak<|ao e Y];exact s6 b _<|s5 b _ e
   .rw[ai1,p];simp
  .rintro σ n ys ⟨v,rfl,s5,L,rfl⟩;rw[aiE,ai8] at L;refine aU [some<|.str B,t8 r,t8 D] ?_;dsimp only;let a8:ns.length=ws.length:=by rw[hN.en];simp
   let a0:n D=some (.lst (ns.map Z8)):=by rw[L,hN.en,akp];rfl
   let O:∀(x:Z6)(l:Z5)(h:nt Z5),B=x->iC.lookup x=some (l,h)->l≤ws.length:=λx l h ex el=>by let:=DU hf<|ex ▸ el;cases this;simp only[gR,Bool.and_eq_true,decide_eq_true_eq] at S;exact S.1
   refine{2,1,B,D,ns,J,a0,hN.wi,λe=>by let:=O "harm" 4 (some 4) e o4;omega,λe=>by let:=O "plan" 6 Z0 e o4;omega,o6,λH6 s6=>{B,J,?_}};exact{1,q D H6 (s6 _ _ a0) (.inr Y)<|s5.trans s6}
variable(iM:bh "told_behind" 3 ["word","rest"] uh)
include T iM in
theorem BJ{f:jl}{fd:q9}(F:Fun K "read_row" "read_row" pD f fd):⋯ 4 f fd ["row"] (xP):=by
 refine F.okY nV ?_;rintro vs H Q E ⟨z,b,td,rfl,U,⟨ws,n,L⟩,q⟩;refine⟨J,λB A outer s x=>⟨_,(ai (psS 1 nV.nd<|cK ajG aki akj mK (pv 0)<|aa aN ah)
   (ai (Gd (λpn xe E Y=>(aq<|psS 2 nV.nd<|pcS iM az x<|aa (aQ aT (pv 1) au λ_ _=>rfl)<|aa (d7 fY (pv 1) (dD au) ig) ah)) Al J J)
   (aq<|aJ<|fh<|aa (aQ aT (pv 1) au λ_ _=>rfl)<|aa (pv 2) ah))),?_⟩⟩
 dsimp only[aX];refine{1,J,z,Str.ofString " ",J,J,o4,o6,λp C=>?_};let em:∀ y∈Txt.split z (Str.ofString " "),y.length≤4900:=λy h=>by rw[spS] at h;exact ai9 (split_le h) o6
 let u:(Txt.split z (Str.ofString " ")).length≤401:=by rw[spS];exact ai9 Dz o6
 rw[n] at em u ⊢;let a:Z9 H p (.lst ((b::ws).map V.str)) p=some (.lst ((b::ws).map V.str)):=af;let g:aj H (Z9 H p (.lst ((b::ws).map V.str))):=aj.new C;generalize Z9 H p (.lst ((b::ws).map V.str))=H0 at a g ⊢;refine aU [some<|.str z,t8 p,Z0] ?_;dsimp only;intro pn xe;exists 1,p,_,_,V.str b,J,J,X0.of a,bx (j:=0) J;refine{2,p,1,X0.of a,λr c=>?_};let v:cS ((b::ws).map V.str) (some 1) Z0=ws.map V.str:=by simp[cS,HT.sIx];exact ajB o8
 rw[v];let s1:aj H0 (Z9 H0 r (.lst (ws.map V.str))):=aj.new c;let e:Z9 H0 r (.lst (ws.map V.str)) r=some (.lst (ws.map V.str)):=af;generalize Z9 H0 r (.lst (ws.map V.str))=H1 at s1 e ⊢;rw[ajp] at u;refine{b,r,ws,td,J,e,λw S=>em w<|aiZ _ S,o6,L,λl H2 O m s2=>?_};refine aU [some<|.str z,t8 p,t8 l] ?_;dsimp only;let i:=g.trans<|s1.trans s2;refine{1,p,_,_,V.str b,J,J,X0.of<|s2 _ _<|s1 _ _ a,bx (j:=0) J,1,v9,λt o=>?_};refine q t l _ af (O.same<|aj.new o) ?_<|i.trans<|aj.new o;rcases m with rfl|m
 .exact g.free c
 .exact g.free (s1.free m)
include T in
theorem rN{f:jl}{fd:q9}(F:Fun K "ask_shelf" "Store.ask_shelf" iw f fd):⋯ 3 f fd ["self","shelf"] (lU av):=by refine F.okY qU ?_;rintro vs H Q E ⟨p,e,a,m,dl,j,l,h,g,SL,i,rfl,⟨dx,h1⟩,b,h3,hi,q⟩;refine{J,λc A outer s n=>{_,(aq<|aW (PW.pt<|pw_or (aE j7 (pv 1) au<|aH _)<|pw_or1<|aE we (pv 1) (aL aK o9 T.bE aiT<|aa (aZ (pv 0) J) ah)<|aH _) (aq cA) aP),?_}};dsimp only[aX];refine{1,3,1,cT o6 ?_};exact{2,p,av,dx,_,1,h1,T.bu,T.dR,pO,a,SL,J,.inl<|X0.of b,3,1,cT o6 q}
variable(iJ:dM aA "passes" 4 ["self","changes"] (rX aA))
include T iJ in
theorem wA{f:jl}{fd:q9}(F:Fun K "passes" "Store.passes" jR f fd):⋯ 5 f fd ["self","changes"] (ou av aA):=by refine F.okY vH ?_;rintro vs H Q E ⟨p,i,t,z,dl,v,ta,sa,a,TL,SL,wd,C2,C3,y,u,r,L,h,rfl,⟨dx,h1⟩,D,n,m,c,b,g,j,q1⟩;refine{J,λq A outer s o=>{_,(aq<|aJ<|bM (aZ (pv 0) J) T.bN iJ az (o.mono o7)<|aa (pv 1) ah),?_}};dsimp only[aX];let⟨dd,l⟩:=D.ob;exact{1,p,av,dx,_,1,h1,T.bu,T.eW,sL,i,dd,1,l,ly o4 o4 o4 o4,1,i,ta,sa,a,TL,SL,wd,C2,C3,L,h,J,D,n,m,c,b,g,λ_=>q1,λx e=>(by rw[j] at e;cases e),λx e=>(by rw[j] at e;cases e)}
variable(fU:dM av "ask_shelf" 3 ["self","shelf"] (lU av))
variable(ny:bh "do_deed" 5 ["shelf","deed"] (qL aD))
include T fU ny in
theorem xO{f:jl}{fd:q9}(F:Fun K "carry" "Store.carry" kL f fd):⋯ 6 f fd ["self","shelf","many"] (qK av aA aD aG):=by
 refine F.okY g7 ?_;rintro vs H Q E ⟨Z,wd,C2,C3,us,M,i,many,rfl,hi,h,q⟩;refine⟨J,λbb A outer s hr=>⟨_,(ai (aY<|bM (pv 0) T.bu fU az (hr.mono o7)<|aa (pv 1) ah)
   (ai (psS 3 g7.nd<|aQ aT (aZ (pv 0) J) (pv 1) λ_ _=>rfl)
   (ai (psS 4 g7.nd<|d7 fY (aZ (pv 0) J) (dD<|pv 3)<|dD<|aB bf (pv 3)<|pv 2)
   (ai (cR ajd J (ck<|pv 4) (pgN 5 g7.nd)
   (aq<|aY<|pcS ny az hr<|aa (aQ aT (aZ (pv 0) J) (pv 1) λ_ _=>rfl)<|aa (pv 5) ah))
   (ai (AG (aB bf (pv 3)<|aL aK o9 T.bE aiT<|aa (pv 4) ah)<|A8 (aZ (pv 0) J) (pv 1) set_list)
   (aq<|aJ<|aL aK o9 T.bE aiT<|aa (pv 4) ah)))))),?_⟩⟩
 dsimp only[aX];let⟨dx,h1⟩:=id h.st;exists 1,Z.p,dx,1,h1,i8 o4,1,Z.p,Z.q,Z.sl,Z.nl,Z.dl,Z.se,Z.rl,Z.sk,Z.ea,_,1,⟨dx,h1⟩,h.sl,J,⟨o6,o6⟩;let a4:=h.nn;let ba:=h.n61;let ae:=h.nle i hi;obtain⟨n,hn⟩:∃n,Z.n i=n:={1};rw[hn] at ae;obtain⟨c,hc⟩:∃c,min many (us.length-n)=c:={1};let a1:n+c≤us.length:=by omega
 exists 1,Z.p,av,dx,_,1,h1,T.bu,T.gg,wY,1,Z.dl,_,3,X0.of h.dl,GO<|Nu hi;rw[hn];refine aU [t8 Z.p,t9 ↥i,t9 ↥many,t9 ↥n,Z0,Z0] ?_;dsimp only;exists 1,Z.p,av,dx,_,1,h1,T.bu,T.gA,zI;refine{2,2,3,1,Z.nl,1,X0.of h.nl,λl B=>?_};let a2:cS Z.NL (some ↥n) (some (↥n +↥many)) =(Z.NL.drop n).take c:=by unfold cS;rw[show(↥n +↥many) =((n+many:Z5):Z4) from J,HT.gZ,HT.gZ,a4,show min n us.length=n by omega];congr 1;omega
 rw[a2];refine aU [t8 Z.p,t9 ↥i,t9 ↥many,t9 ↥n,t8 l,Z0] ?_;dsimp only;generalize hH1:Z9 H l (.lst ((Z.NL.drop n).take c))=H1;let s1:aj H H1:=by rw[←hH1];exact aj.new B
 let O:H1 l=some (.lst ((Z.NL.drop n).take c)):=by rw[←hH1];exact af
 let hB:=h.same s1;let Y:((Z.NL.drop n).take c).length=c:=by rw[aiV,alC,a4];omega
 let⟨aS,ax,x1,x2⟩:=(h.sh i hi).at_;let a6:l≠Z.x i:=λe=>by rw[e,x1] at B;cases B
 let a5:l≠Z.d i:=λe=>by rw[e,x2] at B;cases B
 let S:=hB.sh i hi;rw[hn] at S;let a8:cM H1 [Z.x i,Z.d i]:=by let⟨C4,z,_⟩:=S.ex;exact cM.sh z
 let hp:=h.Tw hi;let y:=h.pP h.sl hi;let r:=h.pP h.dl hi;refine bR (λσ H'=>∃C,σ=[t8 Z.p,t9 ↥i,t9 ↥many,t9 ↥n,t8 l,C]/\ShC aD aG aG H' (Z.x i) (Z.d i) ((n+c:Z5):Z4) (jm us n c<|M i) 61/\aV [Z.x i,Z.d i] H1 H') (λN hN=>?_) ?_
 .refine{1,l,J,{_,X0.of O},gw (K:=K) (a:=l) (xs:=(Z.NL.drop n).take c) (λj σ H'=>∃C,σ=[t8 Z.p,t9 ↥i,t9 ↥many,t9 ↥n,t8 l,C]/\aV [Z.x i,Z.d i] H1 H'/\ShC aD aG aG H' (Z.x i) (Z.d i) ((n+j:Z5):Z4) (jm us n j<|M i) 61) {Z0,J,aV.refl,by rwa[FG]} (λj σ H' _ z0=>by let⟨_,_,k,_⟩:=z0;exact X0.of<|k l _ O (by simp[a6,a5])) ?_ ?_}
  .rintro j v σ H2 hj ⟨C,rfl,k2,hX⟩;let al:j<c:=by let:=(aiH.mp hj).1;omega
   obtain⟨u,hu⟩:∃u,us[n+j]?=some u:={_,aiG o6};let⟨t,a,e1,e2,e3⟩:=hB.no (n+j) u hu;rw[anD,aiN al,alb,e1] at hj;cases hj;refine aU [t8 Z.p,t9 ↥i,t9 ↥many,t9 ↥n,t8 l,t8 t] ?_;let⟨C4,a0,hR,aw⟩:=hX.ex;let am:Z.p∉[Z.x i,Z.d i]:=by simp[hp.1,hp.2]
   let an:Z.sl∉[Z.x i,Z.d i]:=by simp[y.1,y.2.1]
   refine{1,Z.p,av,dx,_,1,k2 _ _ (s1 _ _ h1) am,T.bu,T.dR,pO,1,Z.sl,_,3,X0.of<|k2 _ _ hB.sl an,GO<|Nu hi,1,Z.x i,Z.d i,t,a,_,C4,J,k2 _ _ e2<|a8.tup e2,a0,o6,λH' ar k'=>?_};let a7:cM H2 [Z.x i,Z.d i]:=cM.sh a0;let ac:=cN.dQ e3 k2 a8;exists some<|.ref t,J,λb o e U=>k' b o (k2 b o e U) U,{putK C4 (.inl ((n+j:Z5):Z4))<|.ref a,?_,?_,?_}
   .rw[show((n +(j+1):Z5):Z4) =((n+j:Z5):Z4)+1 by omega];exact ar
   .rw[F9 hu];exact(hR.mono λv u z=>cN.dQ z k' a7).put (cN.dQ ac k' a7)
   .let:=Gk C4 (.inl ((n+j:Z5):Z4))<|.ref a;let:=QL hR (N:=n+j) λm u e=>Cc (h.dom i hi) hn e
    omega
   .intro m v e;let:=Cc (h.dom i hi) hn e;omega
  .rintro σ H2 ⟨C,rfl,k2,hX⟩;rw[Y] at hX;exact hN _ _ ⟨C,J,hX,k2⟩
 rintro σ H2 ⟨C,rfl,ag,k2⟩;let as:Z.dl∉[Z.x i,Z.d i]:=by simp[r.1,r.2.1]
 let ab:=k2 _ _ hB.dl as;let a3:=k2 l _ O (by simp[a6,a5]);exists 2,l,1,.inl<|X0.of a3,3;let h12:=k2 _ _ (s1 _ _ h1) (by simp[hp.1,hp.2]:Z.p∉[Z.x i,Z.d i]);exists 1,Z.p,av,dx,_,1,h12,T.bu,T.gg,wY;exists 1,Z.dl,_,_,i,J,J,ab,agS hi;let a9:l≠Z.dl:=λe=>by rw[e,h.dl] at B;cases B
 exists 1,l,1,.inl<|X0.of (by rwa[ak a9]);rw[Y];let kk:aV [Z.dl,Z.x i,Z.d i] H (Z9 H2 Z.dl (.lst ((l3 λi=>V.int (Z.n i:Z4)).set i (.int (↥n +↥c))))):=λb o e U=>by
  let L:b≠Z.dl/\b≠Z.x i/\b≠Z.d i:=⇑U
  rw[ak L.1];exact k2 b o (s1 b o e) (by simp[L.2.1,L.2.2])
 let hF:cM H [Z.dl,Z.x i,Z.d i]:=cM.ls h.dl (by let⟨C4,z,_⟩:=(h.sh i hi).ex;exact cM.sh z)
 refine q c _ (by rw[hn,hc]) ?_ kk;rw[hn];refine h.re hi kk hF (λb U=>by simp only[List.mem_cons,List.not_mem_nil,or_false] at U;grind) ?_ ?_ ?_ (λm=>G4 (h.dom i hi) hn a1 m) a1<|.inl ⟨J,J⟩
 .rw[xm];exact kk _ _ h.sl (by simp[y.1,y.2.1,h.nd.2.1])
 .rw[af,YN hi];exact congrArg (λz=>some<|HO.lst z)<|Vx (f:=Z.n) (g:=λk:Nat=>V.int ↥k) (x:=n+c)
 .exact ag.dQ (F:=[Z.dl]) (cZ aV.refl<|.inl o8) (cM.ls ab cM.nil) (by simp[r.1.symm]) (by simp[r.2.1.symm])
variable(iN:dM av "carry" 6 ["self","shelf","many"] (qK av aA aD aG))
include T iN in
theorem zh{f:jl}{fd:q9}(F:Fun K "note" "Store.note" mO f fd):⋯ 7 f fd ["self","deed"] (xg av aA aD aG aG):=by
 refine F.okY yX ?_;rintro vs H Q E ⟨Z,wd,C2,C3,us,M,t,a,u,rfl,h,g,i,L,B,q⟩;refine⟨J,λS A outer s O=>⟨_,(ai (aY<|cK ai6 ajf ajg cC (aZ (pv 0) J)<|aa (pv 1) ah)
   (aq<|aY<|bM (pv 0) T.bu iN az (O.mono o7)<|aa au<|aa au ah)),?_⟩⟩
 dsimp only[aX];let⟨dx,h1⟩:=id h.st;let C:=h.nn;exists 1,Z.p,av,dx,_,1,h1,T.bu,T.gA,zI,.inl {J,_,X0.of h.nl},1,Z.nl,3,h.nl,aF o6;let k1:aV [Z.nl] H (Z9 H Z.nl (.lst (Z.NL++[.ref t]))):=cZ aV.refl<|.inl o8;let l:=h.app i B L af k1;generalize Z9 H Z.nl (.lst (Z.NL++[.ref t]))=H1 at k1 l ⊢;let⟨j,r⟩:=id l.st;refine{1,Z.p,j,1,r,i8 o4,{Z with NL:=Z.NL++[.ref t]},wd,C2,C3,us++[u],M,(0),(1),J,o7,l,λk H' y v z=>?_};let m:k=1:=by let e:({Z with NL:=Z.NL++[V.ref t]}:SAd).n 0=us.length:=g;rw[e] at y;simp at y;omega
 subst m;let e:jm (us++[u]) (Z.n 0) 1 (M 0)=uK (M 0) ↥us.length (some u):=by let:=F9 (us:=us++[u]) (n:=us.length) (k:=0) (M:=M 0) (u:=u) o8;rw[FG] at this;rwa[g]
 rw[show jm (us++[u]) (({Z with NL:=Z.NL++[V.ref t]}:SAd).n 0) 1 (M 0)=_ from e] at v;refine q H' v λb o e U=>?_
 let c:b≠Z.nl/\b≠Z.dl/\b≠Z.x 0/\b≠Z.d 0:=⇑U
 exact z b o (k1 b o e (by simp[c.1])) (by simp[c.2.1,c.2.2.1,c.2.2.2])
variable(lH:bh "whole_of" 6 ["days","day"] (pJ aA aG aG))
variable(iP:dM av "today" 1 ["self"] (uw av aA))
include T lH iP in
theorem rW{f:jl}{fd:q9}(F:Fun K "new_piece" "Store.new_piece" iu f fd):⋯ 9 f fd ["self","word"] (mH av aA aD aG):=by
 refine F.okY rY ?_;rintro vs H Q E ⟨Z,wd,C2,C3,us,M,rfl,h,q1⟩;refine⟨J,λn A outer s i=>⟨_,(ai (aW (aE bL (pv 1) aN<|aH _) (aq<|aJ<|pcS lH az i<|aa (aZ (pv 0) J)<|aa (rV (pv 0) T.bu iP az<|i.mono o7) ah) aP)
   (aq cA)),?_⟩⟩
 dsimp only[aX];let⟨dx,h1⟩:=id h.st;let r:C2.length≠0:=h.D.ne;let ok:okD C2.length (↥C2.length-1):=⟨o6,o6⟩;let m:((↥C2.length-1).toNat)=C2.length-1:=by omega
 let j:=h.D.w2;refine gz (λo l=>{1,J,1,by rwa[aiS rfl]}) ?_;refine{1,Z.p,av,dx,_,1,h1,T.bu,T.eW,sL,1,Z.p,dx,1,h1,i8 o4,Z.p,Z.q,Z.sl,Z.nl,Z.dl,Z.se,Z.ta,Z.sa,Z.TL,Z.SL,wd,C2,C3,Z.rl,Z.sk,Z.ea,J,⟨dx,h1⟩,h.D,Z.q,wd,C2,C3,1,h.ace,λ_ a b H' g e s=>?_,λz=>absurd ok z};rw[m] at g e;let c:=h.T b<|aiQ g;exact q1 a {Z1,(0),C2.length-1,jk b,(DX Z1 0 (C2.length-1) (jk b):Z5)} H' {a,J,e,by show(jk b).length≤100;rw[rm,c.1];omega} s
variable(fT:dM av "new_piece" 9 ["self","word"] (mH av aA aD aG))
variable(fV:dM aD "following" 1 ["self"] (mj aD))
variable(jI:dM av "note" 7 ["self","deed"] (xg av aA aD aG aG))
include T fT fV jI in
theorem zm{f:jl}{fd:q9}(F:Fun K "keep" "Store.keep" mV f fd):⋯ 10 f fd ["self","word"] (uH av aA aD aG):=by
 refine F.okY kM ?_;rintro vs H Q E ⟨Z,wd,C2,C3,us,M,rfl,h,c,g,q1⟩;refine⟨J,λv A outer s j=>⟨_,(ai (psS 2 kM.nd<|bM (pv 0) T.bu fT az (j.mono o7)<|aa (pv 1) ah)
   (ai (psS 3 kM.nd<|rV (aQ aT (aZ (pv 0) J) au λ_ _=>rfl) T.fQ fV az<|j.mono o7)
   (ai (aY<|bM (pv 0) T.bu jI az (j.mono o7)<|aa (fh<|aa aN<|aa (pv 2) ah) ah)
   (aq<|aJ<|pv 3)))),?_⟩⟩
 dsimp only[aX];let⟨dx,h1⟩:=id h.st;refine{1,Z.p,dx,1,h1,i8 o4,1,Z,wd,C2,C3,us,M,J,h,λa u H1 q s1=>?_};refine aU [t8 Z.p,some<|.str "whole",t8 a,Z0] ?_;dsimp only;let i:=h.same s1;let⟨C4,l,_⟩:=(i.sh 0 o7).ex;let⟨n,m,z⟩:=id l;exists 1,Z.p,av,dx,_,1,s1 _ _ h1,T.bu,T.dR,pO,Z.sl,_,_,.ref<|Z.x 0,J,J,X0.of i.sl,J,Z.x 0,n,1,m,vJ o4 o4,Z.x 0,Z.d 0,_,C4,J,l;rw[c];refine aU [t8 Z.p,some<|.str "whole",t8 a,t9 ↥us.length] ?_;dsimp only;refine{1,Z.p,dx,1,s1 _ _ h1,i8 o4,1,v9,λt r=>?_};let s2:=aj.new r (o:=.tup [.str "put",.ref a]);exact{Z,wd,C2,C3,us,M,t,a,u,J,i.same s2,c,g,af,q.keep s2,λH' h' k=>{1,q1 t u _ H' h' λb o e y=>k b o (s2 b o<|s1 b o e) y}}
variable(vo:kF "Days" aA 4 ["self","wide"] (yc aA))
variable(lM:kF "Shelf" aD 1 ["self"] (uS aD))
include T vo lM in
theorem sX{f:jl}{fd:q9}(F:Fun K "__init__" "Store.__init__" iR f fd):⋯ 6 f fd ["self","wide","rule","seek","each"] (qm av aA aD):=by
 refine F.okY sS ?_;rintro vs H Q E ⟨p,dx,wd,r,C,B,rfl,hp,bN,q1⟩;refine⟨J,λc7 A outer s hr=>⟨_,(ai (bV (pv 0) (iW vo az (hr.mono o7) J<|aa (pv 1) ah) J)
   (ai (bV (pv 0) (pv 2) J)
   (ai (bV (pv 0) (pv 3) J)
   (ai (bV (pv 0) (pv 4) J)
   (ai (bV (pv 0) (bI<|aa (sd lM az (hr.mono o7) J)<|aa (sd lM az (hr.mono o7) J)<|aa (sd lM az (hr.mono o7) J) ah) J)
   (ai (bV (pv 0) (bI ah) J)
   (ai (bV (pv 0) (bI<|aa au<|aa au<|aa au ah) J)
   (aq<|bV (pv 0) uv J)))))))),?_⟩⟩
 dsimp only[aX];refine{1,λc dq aS hdq c0=>{c,dq,wd,J,af,λhw=>?_,λhw=>absurd bN hw}};intro ta sa O S H1 D fr k1;let s1:aj H H1:=eF aS hdq k1;let a1:Alv (p::foot c ta sa [O] [S]) H1:=Alv.cons (λa ha=>by let⟨o,e⟩:=D.here a ha;rw[e];simp)<|s1 _ _ hp;let aw:∀ b∈foot c ta sa [O] [S],H b=Z0:=λb L=>by
  simp only[foot,List.mem_cons,List.mem_append,List.not_mem_nil,or_false] at L;let z:b=c∨b∈[ta,sa,O,S]:=by simp only[List.mem_cons,List.not_mem_nil,or_false];grind
  rcases z with z|z
  .rw[z];exact aS
  .exact(aR (aR<|fr b z).1).1
 let n1:(p::foot c ta sa [O] [S]).Nodup:=ajj.mpr {λz=>(by let:=aw p z;rw[hp] at this;cases this),D.nd};exists J,1,p,av,dx,1,s1 _ _ hp,T.bu,T.eW,(by show 0<1000;decide);exists 2,p,av,dx,1,af,T.bu,T.mS,(by show 1<1000;decide);exists 2,p,av,dx,1,af,T.bu,T.mW,(by show 2<1000;decide);exists 2,p,av,dx,1,af,T.bu,T.lP,(by show 3<1000;decide);rw[dP,dP,dP];let p2:Z9 H1 p (.ins av dx [("days",.ref c),("rule",r),("seek",C),("each",B)]) p=some (.ins av dx [("days",.ref c),("rule",r),("seek",C),("each",B)]):=af;let r2:∀b o,H1 b=some o->b≠p->Z9 H1 p (.ins av dx [("days",.ref c),("rule",r),("seek",C),("each",B)]) b=some o:=λb o e n=>by rwa[ak n]
 let a2:Alv _ (Z9 H1 p (.ins av dx [("days",.ref c),("rule",r),("seek",C),("each",B)])):=a1.mv xT;change oh _ _ _ _ (Z9 H1 p<|.ins av dx [("days",.ref c),("rule",r),("seek",C),("each",B)]);generalize Z9 H1 p (.ins av dx [("days",.ref c),("rule",r),("seek",C),("each",B)])=H2 at p2 r2 a2 ⊢;refine λx bv hx ba c2=>{x,bv,J,af,λd H3 hX hd k3=>{J,?_}}
 let s3:aj H2 H3:=eF hx ba k3;let bj:=(aR (aR hd).1).1;let⟨sx,g1,g2⟩:=id hX;let n3:(d::x::p::foot c ta sa [O] [S]).Nodup:=ajj.mpr {λz=>(aiU.mp z).elim (λz=>(aR hd).2 z) λz=>a2.new bj z,ajj.mpr {a2.new hx,n1}};let a3:=((a2.mv<|mw s3).cons g1).cons g2;refine λy bw hy bo c3=>{y,bw,J,af,λdy H4 hY bi k4=>{J,?_}}
 let s4:aj H3 H4:=eF hy bo k4;let al:=(aR (aR bi).1).1;let⟨sy,g3,g4⟩:=id hY;let n4:(dy::y::d::x::p::foot c ta sa [O] [S]).Nodup:=ajj.mpr {λz=>(aiU.mp z).elim (λz=>(aR bi).2 z) λz=>a3.new al z,ajj.mpr {a3.new hy,n3}};let a4:=((a3.mv<|mw s4).cons g3).cons g4;refine λz bQ hz bt c4=>{z,bQ,J,af,λdz H5 hZ bl k5=>{J,?_}}
 let s5:aj H4 H5:=eF hz bt k5;let am:=(aR (aR bl).1).1;let⟨sz,g5,g6⟩:=id hZ;let n5:(dz::z::dy::y::d::x::p::foot c ta sa [O] [S]).Nodup:=ajj.mpr {λz=>(aiU.mp z).elim (λz=>(aR bl).2 z) λz=>a4.new am z,ajj.mpr {a4.new hz,n4}};let a5:=((a4.mv<|mw s5).cons g5).cons g6;refine{E1,λl U=>?_};let n6:(l::dz::z::dy::y::d::x::p::foot c ta sa [O] [S]).Nodup:=ajj.mpr {a5.new U,n5};let p5:=s5 _ _<|s4 _ _<|s3 _ _ p2;exists 1,p,av,dx,1,aj.new U _ _ p5,T.bu,T.dR,(by show 4<1000;decide);let nb:∀{b:jl},b∈(l::dz::z::dy::y::d::x::p::foot c ta sa [O] [S])->b∉[p]->b≠p:=λ_ h=>by simpa using h
 let r6:∀b o,H5 b=some o->b≠p->Z9 (Z9 H5 l (.lst [.ref x,.ref y,.ref z])) p (.ins av dx [("days",.ref c),("rule",r),("seek",C),("each",B),("shelves",.ref l)]) b=some o:=λb o e n=>by rw[ak n];exact aj.new U _ _ e
 let bb:l≠p:=λz=>by rw[z,p5] at U;cases U
 let h6:Z9 (Z9 H5 l (.lst [.ref x,.ref y,.ref z])) p (.ins av dx [("days",.ref c),("rule",r),("seek",C),("each",B),("shelves",.ref l)]) l=some (.lst [.ref x,.ref y,.ref z]):=by rw[ak bb,af]
 let p6:Z9 (Z9 H5 l (.lst [.ref x,.ref y,.ref z])) p (.ins av dx [("days",.ref c),("rule",r),("seek",C),("each",B),("shelves",.ref l)]) p=some (.ins av dx [("days",.ref c),("rule",r),("seek",C),("each",B),("shelves",.ref l)]):=af;let a6:=((a5.mv<|mw<|aj.new U (o:=.lst [.ref x,.ref y,.ref z])).mv<|xT (p:=p) (o:=.ins av dx [("days",.ref c),("rule",r),("seek",C),("each",B),("shelves",.ref l)])).cons h6;change oh _ _ _ _ (Z9 (Z9 H5 l<|.lst [.ref x,.ref y,.ref z]) p<|.ins av dx [("days",.ref c),("rule",r),("seek",C),("each",B),("shelves",.ref l)]);generalize Z9 (Z9 H5 l (.lst [.ref x,.ref y,.ref z])) p (.ins av dx [("days",.ref c),("rule",r),("seek",C),("each",B),("shelves",.ref l)])=H6 at r6 h6 p6 a6 ⊢;refine{ajc _,λq a9=>{1,p,av,dx,1,aj.new a9 _ _ p6,T.bu,T.gA,(by show 5<1000;decide),?_}};let n7:(q::l::dz::z::dy::y::d::x::p::foot c ta sa [O] [S]).Nodup:=ajj.mpr {a6.new a9,n6};let s7:aj H6 (Z9 H6 q (.lst [])):=aj.new a9;let h7:Z9 H6 q (.lst []) q=some (.lst []):=af;let bc:q≠p:=λz=>by rw[z,p6] at a9;cases a9
 let a7:=(a6.mv<|mw s7).cons h7;let p7:=s7 _ _ p6;generalize Z9 H6 q (.lst [])=H7 at s7 h7 a7 p7 ⊢;let a8:=a7.mv<|xT (p:=p) (o:=.ins av dx [("days",.ref c),("rule",r),("seek",C),("each",B),("shelves",.ref l),("noted",.ref q)]);refine{E1,λdl ag=>{1,p,av,dx,1,aj.new ag _ _ af,T.bu,T.gg,(by show 6<1000;decide),?_}};let n8:(dl::q::l::dz::z::dy::y::d::x::p::foot c ta sa [O] [S]).Nodup:=ajj.mpr {a8.new ag,n7};let an:=(aR ag).1;let bg:=(aR ag).2;dsimp only;let r9:∀b o,H7 b=some o->b≠p->Z9 (Z9 (Z9 H7 p (.ins av dx [("days",.ref c),("rule",r),("seek",C),("each",B),("shelves",.ref l),("noted",.ref q)])) dl (.lst [.int 0,.int 0,.int 0])) p (.ins av dx [("days",.ref c),("rule",r),("seek",C),("each",B),("shelves",.ref l),("noted",.ref q),("done",.ref dl)]) b=some o:=λb o e n=>by rwa[ak n,ak<|ao e an,ak n]
 let p9:Z9 (Z9 (Z9 H7 p (.ins av dx [("days",.ref c),("rule",r),("seek",C),("each",B),("shelves",.ref l),("noted",.ref q)])) dl (.lst [.int 0,.int 0,.int 0])) p (.ins av dx [("days",.ref c),("rule",r),("seek",C),("each",B),("shelves",.ref l),("noted",.ref q),("done",.ref dl)]) p=some (.ins av dx [("days",.ref c),("rule",r),("seek",C),("each",B),("shelves",.ref l),("noted",.ref q),("done",.ref dl)]):=af;let h9:Z9 (Z9 (Z9 H7 p (.ins av dx [("days",.ref c),("rule",r),("seek",C),("each",B),("shelves",.ref l),("noted",.ref q)])) dl (.lst [.int 0,.int 0,.int 0])) p (.ins av dx [("days",.ref c),("rule",r),("seek",C),("each",B),("shelves",.ref l),("noted",.ref q),("done",.ref dl)]) dl=some (.lst [.int 0,.int 0,.int 0]):=by rw[ak bg,af]
 change XO _ _ _ _ _ _ (Z9 (Z9 (Z9 H7 p<|.ins av dx [("days",.ref c),("rule",r),("seek",C),("each",B),("shelves",.ref l),("noted",.ref q)]) dl<|.lst [.int 0,.int 0,.int 0]) p<|.ins av dx [("days",.ref c),("rule",r),("seek",C),("each",B),("shelves",.ref l),("noted",.ref q),("done",.ref dl)]);generalize Z9 (Z9 (Z9 H7 p (.ins av dx [("days",.ref c),("rule",r),("seek",C),("each",B),("shelves",.ref l),("noted",.ref q)])) dl (.lst [.int 0,.int 0,.int 0])) p (.ins av dx [("days",.ref c),("rule",r),("seek",C),("each",B),("shelves",.ref l),("noted",.ref q),("done",.ref dl)])=H9 at r9 p9 h9 ⊢;refine λg ab=>{1,p,av,dx,1,aj.new ab _ _ p9,T.bu,T.kK,(by show 7<1000;decide),?_}
 let ae:∀b o,H9 b=some o->b≠p->Z9 (Z9 H9 g (.dK [])) p (.ins av dx (stF c l q dl g r C B)) b=some o:=λb o e n=>by rw[ak n];exact aj.new ab _ _ e
 let bd:Z9 (Z9 H9 g (.dK [])) p (.ins av dx (stF c l q dl g r C B)) p=some (.ins av dx (stF c l q dl g r C B)):=af;let bz:g∉dl::q::l::dz::z::dy::y::d::x::p::foot c ta sa [O] [S]:=λL=>by
  let as:∀o,H9 g=some o->False:=λo e=>by rw[ab] at e;cases e
  rcases aiU.mp L with e|L
  .exact as _ (by rwa[e])
  .by_cases ep:g=p
   .exact as _ (by rwa[ep])
   .cases e7:H7 g with
    |none=>exact a7 g L e7
    |some o=>exact as _<|r9 _ _ e7 ep
 let ac:g≠p:=λz=>by rw[z,p9] at ab;cases ab
 let be:Z9 (Z9 H9 g (.dK [])) p (.ins av dx (stF c l q dl g r C B)) g=some (.dK []):=by rw[ak ac,af]
 let bn:H g=Z0:=by
  cases e:H g with
  |none=>rfl
  |some o=>have:=r9 _ _ (s7 _ _<|r6 _ _ (s5 _ _<|s4 _ _<|s3 _ _<|r2 _ _ (s1 _ _ e) ac) ac) ac;rw[ab] at this;cases this
 show Q .non (Z9 (Z9 H9 g<|.dK []) p<|.ins av dx<|stF c l q dl g r C B);generalize Z9 (Z9 H9 g (.dK [])) p (.ins av dx (stF c l q dl g r C B))=Y at ae bd be ⊢;clear nb;let bp:Y g=some (.dK []):=be;let r7:∀b o,H6 b=some o->b≠p->Y b=some o:=λb o e n=>ae _ _ (r9 _ _ (s7 _ _ e) n) n
 let r5:∀b o,H5 b=some o->b≠p->Y b=some o:=λb o e n=>r7 _ _ (r6 _ _ e n) n
 let r1:∀b o,H1 b=some o->b≠p->Y b=some o:=λb o e n=>r5 _ _ (s5 _ _<|s4 _ _<|s3 _ _<|r2 _ _ e n) n
 let bE:bJ aA Y c ta sa [O] [S] wd.toNat [List.replicate wd.toNat 0] [[]]:=D.mono λb L o e=>r1 b o e λz=>by let:=aw b L;rw[z,hp] at this;cases this
 let ax:∀ b∈[dl,q,l,dz,z,dy,y,d,x,p],b∉foot c ta sa [O] [S]:=λb L hf=>by let:=(ame.mp (show([dl,q,l,dz,z,dy,y,d,x,p]++foot c ta sa [O] [S]).Nodup from n8)).2.2 b L b hf;exact this J
 let ar:[dl,q,l,dz,z,dy,y,d,x,p].Nodup:=(ame.mp (show([dl,q,l,dz,z,dy,y,d,x,p]++foot c ta sa [O] [S]).Nodup from n8)).1;clear n8 n7 n6 n5 n4 n3;let a0:∀ b∈[dl,q,l,dz,z,dy,y,d,x],b≠p:=λb L e=>VF ar 9 L (by simp[e])
 let bm:∀ b∈[p,l,y,dy,z,dz,q,dl,x,d]++foot c ta sa [O] [S],b=p∨H b=Z0:=λb L=>by
  rcases ai0.mp L with L|L
  .by_cases e:b=p
   .exact .inl e
   refine .inr ?_;let f1:∀b,b≠p->H2 b=Z0->H b=Z0:=λb n h=>by
    cases e:H b with
    |none=>rfl
    |some o=>rw[r2 _ _ (s1 _ _ e) n] at h;cases h
   let f5:∀b,b≠p->H5 b=Z0->H b=Z0:=λb n h=>f1 b n<|(s3.trans<|s4.trans s5).free h
   let f7:∀b,b≠p->H7 b=Z0->H b=Z0:=λb n h=>f5 b n (by
    cases e:H5 b with
    |none=>rfl
    |some o=>rw[s7 _ _<|r6 _ _ e n] at h;cases h)
   simp only[List.mem_cons,List.not_mem_nil,or_false] at L;rcases L with rfl|rfl|rfl|rfl|rfl|rfl|rfl|rfl|rfl|rfl
   .exact absurd J e
   .exact f5 _ e U
   .exact f1 _ e (s3.free hy)
   .exact f1 _ e (s3.free al)
   .exact f1 _ e ((s3.trans s4).free hz)
   .exact f1 _ e ((s3.trans s4).free am)
   .exact f5 _ e (by cases e2:H5 b with
    |none=>rfl
    |some o=>rw[r6 _ _ e2 e] at a9;cases a9)
   .exact f7 _ e an
   .exact f1 _ e hx
   .exact f1 _ e bj
  .exact .inr (aw b L)
 refine q1 {p,c,l,q,dl,g,λi=>if i=0 then x else if i=1 then y else z,λi=>if i=0 then d else if i=1 then dy else dz,ta,sa,[O],[S],r,C,B,[],λ_=>0} Y J (λ_=>rfl) (λCW CG=>{⟨dx,bd⟩,r7 _ _ h6<|a0 _ o8,bE,ae _ _ (r9 _ _ h7 bc) bc,J,(λk u e=>by simp at e),ae _ _ h9 bg,λi hi=>{{[],?_,j4.nil,ajc _},λm u e=>by cases e},λi hi m=>{(λe=>by cases e),λe=>by let:=e.1;let:=e.2;simp at this;omega},λi hi=>aiL _,ajc _,(by show 1≤100;omega),?_,?_,?_,?_,?_}) bp (λL=>?_) (λb L=>?_) λb o e L=>r1 b o (s1 b o e) (⇑L)
 .exact Az (P:=λi=>iS aD Y (if i=0 then x else if i=1 then y else z) (if i=0 then d else if i=1 then dy else dz) ((0:Z5):Z4) []) {sx,r5 _ _ (s5 _ _<|s4 _ _ g1)<|a0 _ o8,r5 _ _ (s5 _ _<|s4 _ _ g2)<|a0 _ o8} {sy,r5 _ _ (s5 _ _ g3)<|a0 _ o8,r5 _ _ (s5 _ _ g4)<|a0 _ o8} {sz,r5 _ _ g5<|a0 _ o8,r5 _ _ g6<|a0 _ o8} hi
 .exact{D.w2,λxs hx=>by rw[ai7.mp hx];exact{o8,λx h=>by cases h}}
 .intro t ht;rw[ai7.mp ht];exact{ajW,λv hv=>by rw[(List.mem_replicate.mp hv).2];exact ajM _}
 .simp only[List.nodup_cons,List.mem_cons,not_or,List.not_mem_nil,not_false_eq_true,List.nodup_nil,and_true] at ar;grind
 .simp only[List.nodup_cons,List.mem_cons,not_or,List.not_mem_nil,not_false_eq_true,List.nodup_nil,and_true] at ar;intro i j hi hj c1;grind
 .intro b L;refine ax b ?_;simp[SAd.sm] at L ⊢;grind
 .refine bz ?_;simp[SAd.sm,SAd.ft] at L ⊢;grind
 .rcases aiU.mp L with z|L
  .exact .inr (by rwa[z])
  .refine bm b ?_;simp[SAd.sm,SAd.ft] at L ⊢;grind
variable(gX:dM av "passes" 5 ["self","changes"] (ou av aA))
include T gX in
theorem Gw{f:jl}{fd:q9}(F:Fun K "on_day" "on_day" uI f fd):⋯ 11 f fd ["store","changes"] (kI av aA aD aG):=by
 refine F.okY F2 ?_;rintro vs H Q E ⟨Z,wd,C2,C3,us,M,l,i,rfl,h,⟨L,Y,C⟩,v,B,O,u,q1⟩;refine{J,λz A outer s y=>{_,(aq<|aJ<|bF eZ o9 T.m8 ajK<|aa (bM (pv 0) T.bu gX az (y.mono o7)<|aa (pv 1) ah) ah),?_}};let⟨dx,h1⟩:=id h.st;refine{1,Z.p,dx,1,h1,i8 o4,1,Z.p,Z.q,Z.sl,Z.nl,Z.dl,Z.se,Z.ta,Z.sa,l,Z.TL,Z.SL,wd,C2,C3,Z.rl,Z.sk,Z.ea,L,i,J,⟨dx,h1⟩,h.D,Y,C,o6,o6,O,u,λm d H' g b U o r k=>?_};exists ↥C2.length,J,wR o6 o6;let n:=qz u;let hT:=h.T g<|aiQ b;let e:∀ c∈i,0≤c.1/\c.1 <↥wd/\0≤c.2:=λc e=>by
  let:=n c e;unfold gh at this;split at this
  .cases this
  .split at this
   .cases this
   .omega
 refine q1 m d H' g (h.day U k o r o6 ?_ λt b=>?_) o r k
 .exact⟨h.S.most,λxs a=>by
   rcases ai0.mp a with a|a
   .exact h.S.day xs a
   .rw[ai7.mp a];refine{by simp;omega,λx a=>?_};let⟨c,j,rfl⟩:=aje.mp a;exact{(e c j).1,(e c j).2.1}⟩
 .rcases ai0.mp b with b|b
  .exact h.T t b
  .rw[ai7.mp b];exact Cj hT λc j=>(e c j).2.2
variable(jv:dM av "keep" 10 ["self","word"] (uH av aA aD aG))
include T jv in
theorem EA{f:jl}{fd:q9}(F:Fun K "on_keep" "on_keep" qN f fd):⋯ 11 f fd ["store","words"] (ji av aA aD aG):=by refine F.okY D6 ?_;rintro vs H Q E ⟨Z,wd,C2,C3,us,M,l,rfl,c,h,b,a,q1⟩;refine{J,λm A outer s i=>{_,(aq<|aJ<|bF eZ o9 T.m8 ajK<|aa (bM (pv 0) T.bu jv az (i.mono o7)<|aa (aQ aT (pv 1) au λ_ _=>rfl) ah) ah),?_}};dsimp only[aX];let⟨dx,h1⟩:=id h.st;exact{1,Z.p,dx,1,h1,i8 o4,1,l,_,_,V.str "whole",J,J,X0.of c,bx (j:=0) J,Z,wd,C2,C3,us,M,J,h,b,a,λt u g H' e k=>{↥us.length,J,wR o6 o6,q1 t u g H' e k}}
variable(iV:bh "listed" 1 ["things"] qf)
variable(iO:dM av "marks" 1 ["self"] (ux av))
include T iV iO in
theorem BG{f:jl}{fd:q9}(F:Fun K "on_marks" "on_marks" qa f fd):⋯ 11 f fd ["store","numbers"] (iD av aA aD aG):=by refine F.okY BU ?_;rintro vs H Q E ⟨Z,wd,C2,C3,us,M,l,rfl,h,q⟩;refine{J,λg A outer s a=>{_,(aq<|aJ<|pcS iV az a<|aa (rV (pv 0) T.bu iO az<|a.mono o7) ah),?_}};let⟨dx,h1⟩:=id h.st;let c:=h.n61;refine{1,Z.p,dx,1,h1,i8 o4,Z.p,Z.q,Z.sl,Z.nl,Z.dl,Z.se,Z.rl,Z.sk,Z.ea,1,⟨dx,h1⟩,h.dl,by show 3≤1000;decide,λt e=>?_};refine{t,(l3 λi=>(Z.n i:Z4)).map Z8,J,af,by simp[l3],by show 3≤10;decide,λx b=>?_,λH' s=>q H'<|(aj.new e).trans s};let⟨n,hn,rfl⟩:=aje.mp b;let m:=h.nle 0 o7;let o:=h.nle 1 o7;let j:=h.nle 2 o7;refine .inr {n,J,?_};simp only[l3,List.mem_cons,List.not_mem_nil,or_false] at hn;rcases hn with rfl|rfl|rfl <;> omega
include T in
theorem EN{f:jl}{fd:q9}(F:Fun K "listed" "listed" uQ f fd):⋯ 1 f fd ["things"] (qf):=by
 refine F.okY F4 ?_;rintro vs H Q E ⟨t,xs,rfl,l,j,h10,m,q⟩;refine{J,λB A outer s L=>{_,(aq<|aJ<|uX (aE bL (aL aK o9 T.bE aiT<|aa (pv 0) ah) au<|aH _) aN<|cK ajG alI alJ x6 aN<|aa (dg (N:=["thing"]) (k:=1) (cap:=[]) J J (wX<|pv 0) (λ_ _ _ _=>(pgN 0 (show(["thing"]:fy Z6).Nodup from by decide +kernel)<|.inr J)) (λ_ _ _ _=>cg) λ_ _ _ _=>(bF zH o9 T.m8 ajK<|aa (pv 0) ah)) ah),?_}};dsimp only[aX];refine{1,t,1,.inr<|X3.of l,J,1,cT (λh=>j (by let:=V.int.inj h;simpa using this)) ?_};refine{J,1,t,J,{_,X3.of l},λD p=>?_};refine qy D (K:=K) (a:=t) (xs:=xs) (λi σ c ys=>∃(v:nt V),σ=[v]/\aj H c/\c D=some (.lst ys)/\ys =((xs.take i).map shT).map V.str) {Z0,J,aj.new p,af,o8} (λi σ c ys _ r=>by let⟨_,_,s5,_⟩:=r;exact X3.of<|s5 t _ l) ?_ ?_
 .rintro i x σ c ys hi ⟨v,rfl,s5,g,rfl⟩;let O:=(aiH.mp hi).1;let fin:c D=some (.lst (((xs.take i).map shT).map V.str))/\(((xs.take i).map shT).map V.str).length<Z7/\∃w,[some x]=[w]/\aj H (Z9 c D (.lst (((xs.take i).map shT).map V.str++[.str (shT x)])))/\Z9 c D (.lst (((xs.take i).map shT).map V.str++[.str (shT x)])) D=some (.lst (((xs.take i).map shT).map V.str++[.str (shT x)]))/\((xs.take i).map shT).map V.str++[.str (shT x)] =((xs.take (i+1)).map shT).map V.str:=by
   exists g,by rw[aiE,aiE,aiV];exact aF o6,1,λb o e=>?_,af
   .rw[ak<|ao e p];exact s5 b _ e
   .rw[ai1,hi];simp
  rcases m x (aiQ hi) with⟨z,rfl,_⟩|⟨n,rfl,h0,h1⟩
  .exact{2,.inl ⟨z,J,fin⟩}
  .exact{2,.inr {n,J,LZ h0 h1,fin}}
 .rintro σ c ys ⟨v,rfl,s5,g,rfl⟩;rw[ai8] at g;refine{_,D,xs.map shT,J,J,X0.of g,?_,q c s5};let u:=lX (n:=60) (ws:=xs.map shT) λw C=>by let⟨x,y,rfl⟩:=aje.mp C;exact Qd<|m x y
  rw[aiE] at u ⊢;let:(Str.ofString " ").length=1:=by decide +kernel
  rw[this];omega
variable(nu:bh "task_of" 6 ["days","begin","weights","rates"] (pK aA aI))
variable(j8:bh "best_plan" 6 ["task"] (uW aI))
include T iV nu j8 in
theorem Em{f:jl}{fd:q9}(F:Fun K "on_plan" "on_plan" rH f fd):⋯ 11 f fd ["store","numbers"] (ja av aA aD aG aI):=by
 refine F.okY pM ?_;rintro vs H Q E ⟨Z,wd,C2,C3,us,M,l,b,r0,r1,r2,r3,C0,rfl,B,h,n1,n7,L,C,Y,q⟩;refine⟨J,λa4 A outer s u=>⟨_,(ai (psS 2 pM.nd<|pcS nu az u<|aa (aZ (pv 0) J)<|aa (aQ aT (pv 1) au λ_ _=>rfl)<|aa (d7 fY (pv 1) (dD au) ig)<|aa (d7 fY (pv 1) (dD au)<|dD au) ah)
   (ai (psS 3 pM.nd<|pcS j8 az u<|aa (pv 2) ah)
   (aq<|aJ<|pcS iV az u<|aa (aB (CN (K:=K) J) (aQ bY (pv 3) au λ_ _=>rfl)<|fh<|aa (aQ bY (pv 3) au λ_ _=>rfl) ah) ah))),?_⟩⟩
 dsimp only[aX];let⟨dx,h1⟩:=id h.st;refine{1,Z.p,av,dx,_,1,h1,T.bu,T.eW,sL,1,l,_,_,V.int b,J,J,X0.of B,bx (j:=0) J,2,l,1,X0.of B,λg v=>?_};let c1:cS ((b::r0::r1::r2::r3::C0).map Z8) (some 5) Z0=C0.map Z8:=by simp[cS,HT.sIx];exact ajB o8
 let c2:cS ((b::r0::r1::r2::r3::C0).map Z8) (some 1) (some 5)=[r0,r1,r2,r3].map Z8:=by simp[cS,HT.sIx]
 rw[c1];let s1:=aj.new v (o:=.lst<|C0.map Z8);let e1:Z9 H g (.lst (C0.map Z8)) g=some (.lst (C0.map Z8)):=af;generalize Z9 H g (.lst (C0.map Z8))=H1 at s1 e1 ⊢;refine{2,1,l,1,X0.of<|s1 _ _ B,λi e=>?_};rw[c2];let s2:=s1.trans<|aj.new e (o:=.lst<|[r0,r1,r2,r3].map Z8);let e2:Z9 H1 i (.lst ([r0,r1,r2,r3].map Z8)) i=some (.lst ([r0,r1,r2,r3].map Z8)):=af;let c:=aj.new e (o:=.lst<|[r0,r1,r2,r3].map Z8) _ _ e1;generalize Z9 H1 i (.lst ([r0,r1,r2,r3].map Z8))=H2 at s2 e2 c ⊢;refine{Z.q,g,i,wd,C2,C3,b,C0,[r0,r1,r2,r3],J,h.ace.keep s2,c,e2,n1,n7,(by show 4≤7;decide),L,C,λp C1 H3 hT hn hz s3=>?_};refine aU [t8 Z.p,t8 l,t8 p,Z0] ?_;dsimp only;let z:Fit C1 C0 r0 r1 r2 r3:=Xe h.S hn n7 hz Y;refine{1,p,C1,C0,r0,r1,r2,r3,J,hT,z,λt bt ll LL lv x H4 ht U a1 a2 a3 hv a0 s4=>?_};refine aU [t8 Z.p,t8 l,t8 p,t8 t] ?_;dsimp only;let n:=Ds z hv;refine{1,t,_,_,.ref bt,J,J,X3.of ht,J,1,t,_,_,.int x.2,J,J,X3.of ht,J,v8,λm O=>?_};let s5:=aj.new O (o:=.tup [.int x.2]);let e5:Z9 H4 m (.tup [.int x.2]) m=some (.tup [.int x.2]):=af;generalize Z9 H4 m (.tup [.int x.2])=H5 at s5 e5 ⊢;let a5:=n.len;refine{bt,m,3,X3.of<|s5 _ _ U,e5,o8,ajt<|aF (by simp;omega),λp2 H6 r s6=>?_};refine{p2,1,r,o8,by simp;omega,λy a=>?_,λH' s7=>?_}
 .rcases ai0.mp a with a|a
  .let⟨w,hw,rfl⟩:=aje.mp a;exact .inl {w,J,by rcases n.nx.wd w hw with rfl|rfl|rfl|rfl <;> decide +kernel}
  .exact .inr {x.2,ai7.mp a,n.n0,n.n60}
 .let e6:((x.1.map V.str++[V.int x.2]).map shT)=x.1++[bG x.2]:=by rw[ajb,akp];congr 1;exact(akf λw _=>rfl).trans (List.map_id _)
  rw[e6];exact q x H' ⟨C1,lv,z,hn,hz,hv⟩<|s2.trans<|s3.trans<|s4.trans<|s5.trans<|s6.trans s7
include T in
theorem qE{f:jl}{fd:q9}(F:Fun K "__init__" "LastFew.__init__" gU f fd):⋯ 1 f fd ["self","many"] (uf bO):=by
 refine F.okY qD ?_;rintro vs H Q E ⟨p,dx,m,rfl,a,e,q⟩;refine⟨J,λb A outer s c=>⟨_,(ai (aW (aE j7 (pv 1) au<|aH _) (aq cA) aP)
   (aq<|bV (pv 0) (pv 1) J)),?_⟩⟩
 dsimp only[aX];refine{1,3,1,cT o6 ?_};exists 2,p,bO,dx,[],J,a,T.DA,T.jN,(by show 0<1000;decide);exact q _ (cZ aV.refl<|.inl o8) {_,af}
variable(nk:kF "LastFew" bO 1 ["self","many"] (uf bO))
include T fM nk in
theorem wm{f:jl}{fd:q9}(F:Fun K "rule_of_part" "rule_of_part" j3 f fd):⋯ 5 f fd ["part"] (lR):=by
 refine F.okY jE ?_;rintro vs H Q E ⟨z,rfl,hz,q⟩;refine⟨J,λa1 A outer s hr=>⟨_,(ai (psS 1 jE.nd<|cK ajG aki akj mK (pv 0)<|aa aN ah)
   (ai (Gd (λpn xe E hx=>(aq<|ia (i:=2) jE.nd J (Or.inl J) (N:=["word"]) (k:=1) (cap:=[]) J J (ck<|d7 fY (pv 1) (dD au) ig) (λ_ _ _ _=>(pgN 0 (show(["word"]:fy Z6).Nodup from by decide +kernel)<|.inr J)) (λ_ _ _ _=>cg) λ_ _ _ _=>(pcS fM az hr<|aa (pv 0) ah))) Al J J)
   (ai (aW (PW.pt<|pw_and (aE bL (aQ aT (pv 1) au λ_ _=>rfl) aN<|aH _)<|pw_and1<|aE bL (aL aK o9 T.bE aiT<|aa (pv 2) ah) au<|aH _) (aq<|aJ<|iW nk az (hr.mono o7) J<|aa (aQ aT (pv 2) au λ_ _=>rfl) ah) aP)
   (ai (aW (PW.pt<|pw_and (aE bL (aQ aT (pv 1) au λ_ _=>rfl) aN<|aH _)<|pw_and1<|aE bL (aL aK o9 T.bE aiT<|aa (pv 2) ah) au<|aH _) (aq cA) aP)
   (ai (aW (PW.pt<|pw_and (aE bL (aQ aT (pv 1) au λ_ _=>rfl) aN<|aH _)<|pw_and1<|aE bL (aL aK o9 T.bE aiT<|aa (pv 2) ah) au<|aH _) (aq cA) aP)
   (ai (aW (PW.pt<|pw_and (aE bL (aQ aT (pv 1) au λ_ _=>rfl) aN<|aH _)<|pw_and1<|aE bL (aL aK o9 T.bE aiT<|aa (pv 2) ah) au<|aH _) (aq cA) aP)
   (ai (aW (PW.pt<|pw_and (aE bL (aQ aT (pv 1) au λ_ _=>rfl) aN<|aH _)<|pw_and1<|aE jt (aL aK o9 T.bE aiT<|aa (pv 2) ah) au<|aH _) (aq cA) aP)
   (aq cA)))))))),?_⟩⟩
 dsimp only[aX];obtain⟨g,ws,U,e1,e2,O,L⟩:∃(g:Z6)(ws:fy Z6),Txt.split z (Str.ofString " ")=g::ws/\g = "last"/\ws=[Str.ofString "1"]/\(∀ w∈ws,okW w=Z1)/\z.length≤100000:=by rw[hz];exact{"last",["1"],o4,J,J,o4,o4}
 let a2:ws.length=1:=by rw[e2];rfl
 refine{1,J,z,Str.ofString " ",J,J,o4,L,λp hp=>?_};rw[U];let h:Z9 H p (.lst ((g::ws).map V.str)) p=some (.lst ((g::ws).map V.str)):=af;let Y:aj H (Z9 H p (.lst ((g::ws).map V.str))):=aj.new hp;generalize Z9 H p (.lst ((g::ws).map V.str))=H0 at h Y ⊢;refine aU [some<|.str z,t8 p,Z0] ?_;dsimp only;intro pn xe;refine{2,p,1,X0.of h,λr B=>?_};let hc:cS ((g::ws).map V.str) (some 1) Z0=ws.map V.str:=by simp[cS,HT.sIx];exact ajB o8
 rw[hc];let s1:aj H0 (Z9 H0 r (.lst (ws.map V.str))):=aj.new B;let l:Z9 H0 r (.lst (ws.map V.str)) r=some (.lst (ws.map V.str)):=af;generalize Z9 H0 r (.lst (ws.map V.str))=H1 at s1 l ⊢;refine{r,J,{_,X0.of l},λD hD=>?_};refine cQ D (K:=K) (a:=r) (xs:=ws.map V.str) (λi σ t ys=>∃(v:nt V),σ=[v]/\aj H1 t/\t D=some (.lst ys)/\ys =(ws.take i).map λw=>V.int<|intOf w) {Z0,J,aj.new hD,af,o8} (λi σ t ys _ z0=>by let⟨_,_,s5,_⟩:=z0;exact X0.of<|s5 r _ l) ?_ ?_
 .rintro i x σ t ys hi ⟨v,rfl,s5,n,rfl⟩;obtain⟨y,m,rfl⟩:∃y,ws[i]?=some y/\V.str y=x:=by rw[aiR] at hi;let⟨c,h1,h2⟩:=aja.mp hi;exact⟨c,h1,h2⟩
  refine{1,y,J,O y<|aiQ m,λH6 s6=>?_};exists s6 D _ n,by rw[aiE,aiV];exact aF o6,1,λb o e=>?_,af
  .rw[ak<|ao e hD];exact s6 b _<|s5 b _ e
  .rw[ai1,m];simp
 rintro σ t ys ⟨v,rfl,s5,n,rfl⟩;rw[aiE,ai8,e2] at n;refine aU [some<|.str z,t8 p,t8 D] ?_;dsimp only;let S:=Y.trans<|s1.trans s5;let u:=s5 _ _<|s1 _ _ h;refine gz (λQb hq=>{1,p,_,_,V.str _,J,J,X0.of u,bx (j:=0) J,J,1,dW (by rw[e1]) {1,D,1,.inl<|X0.of n,J,1,hq}}) ?_;exact{1,D,_,_,V.int<|intOf<|Str.ofString "1",J,J,X0.of n,bx (j:=0) J,λx dx hx C a3=>{x,dx,1,af,o4,λH' k a0=>{J,q x H'<|S.trans<|eF hx C k}}}
variable(oA:kF "AnyOf" cF 2 ["self","rules"] (uJ cF))
variable(ic:bh "rule_of_part" 5 ["part"] lR)
include T oA ic in
theorem DQ{f:jl}{fd:q9}(F:Fun K "rule_of" "rule_of" rD f fd):⋯ 6 f fd ["text"] (lR):=by
 refine F.okY Ei ?_;rintro vs H Q E ⟨z,rfl,l,q⟩;refine⟨J,λO A outer s n=>⟨_,(ai (aW (aE bL (pv 0) aN<|aH _) (aq<|aJ<|iW oA az (n.mono o7) J<|aa (bI ah) ah) aP)
   (aq<|aJ<|iW oA az (n.mono o7) J<|aa (dg (N:=["part"]) (k:=1) (cap:=[]) J J (ck<|cK ajG aki akj mK (pv 0)<|aa aN ah) (λ_ _ _ _=>(pgN 0 (show(["part"]:fy Z6).Nodup from by decide +kernel)<|.inr J)) (λ_ _ _ _=>cg) λ_ _ _ _=>(pcS ic az n<|aa (pv 0) ah)) ah)),?_⟩⟩
 dsimp only[aX];refine gK (λQb L=>{1,J,1,by rw[aiX λh=>absurd (V.str.inj h) (by rw[l];decide +kernel)];exact L}) ?_;unfold p8;dsimp only;let r:Txt.split z (Str.ofString ", ")=[z]/\z.length≤100:=by rw[l];decide +kernel
 refine{1,J,z,Str.ofString ", ",J,J,o4,o6,λp S=>?_};rw[r.1];let e:Z9 H p (.lst ([z].map V.str)) p=some (.lst ([z].map V.str)):=af;let u:aj H (Z9 H p (.lst ([z].map V.str))):=aj.new S;generalize Z9 H p (.lst ([z].map V.str))=H0 at e u ⊢;refine{p,J,{_,X0.of e},λD C=>?_};refine cQ D (K:=K) (a:=p) (xs:=[z].map V.str) (λi σ j ys=>∃(v:nt V),σ=[v]/\aj H0 j/\j D=some (.lst ys)/\ys.length=i) {Z0,J,aj.new C,af,J} (λi σ j ys _ U=>by let⟨_,_,s5,_⟩:=U;exact X0.of<|s5 p _ e) ?_ ?_
 .rintro i x σ j ys hi ⟨v,rfl,s5,m,c⟩;cases i with
  |succ i=>simp at hi
  |zero=>simp at hi;subst hi;refine{1,z,J,l,λa H6 s6=>{s6 D _ m,by rw[c];decide,1,λb o y=>?_,af,by simp[c]}};rw[ak<|ao y C];exact s6 b _<|s5 b _ y
 .rintro σ j ys ⟨v,rfl,s5,m,c⟩;let:ys.length=1:=c;refine λx dx B g Y=>{x,dx,D,ys,J,af,eF B g aV.refl _ _ m,o6,λt H' _ k=>{J,q x H'<|u.trans<|s5.trans<|eF B g k}}
variable(sN:kF "Store" av 6 ["self","wide","rule","seek","each"] (qm av aA aD))
variable(m9:bh "rule_of" 6 ["text"] lR)
include T gy sN m9 in
theorem tZ{f:jl}{fd:q9}(F:Fun K "__init__" "Desk.__init__" jx f fd):⋯ 8 f fd ["self","wide","seek","each","rules"] (rG bH av aA aD):=by
 refine F.okY uA ?_;rintro vs H Q E ⟨k,dx,wd,O,Y,rfl,i,u,q⟩;refine⟨J,λy A outer s j=>⟨_,(ai (aY<|pcS gy az j<|aa (pv 1) ah)
   (aq<|bV (pv 0) (iW sN az (j.mono o7) J<|aa (pv 1)<|aa (pcS m9 az j<|aa (pv 4) ah)<|aa (pv 2)<|aa (pv 3) ah) J)),?_⟩⟩
 dsimp only[aX];refine{1,wd,J,λ_=>?_,λz=>absurd u z};dsimp only;refine{2,1,J,λa H1 s1=>{2,λx n h r U=>{x,n,wd,.ref a,O,Y,J,af,u,λA H2 L hn t a0 B m S=>{J,?_}}}};let s2:aj H1 H2:=eF h r S;let v:x≠k:=λe=>by rw[e,s1 _ _ i] at h;cases h
 exists 1,k,bH,dx,[],J,s2 _ _<|s1 _ _ i,T.iY,T.jG,(by show 0<1000;decide);let g:∀ b∈A.sm++A.ft,H b=Z0:=λb c=>by
  rcases m b (aiZ _ c) with e|e
  .rw[e];exact s1.free h
  .exact s1.free (aR (aR e).1).1
 let l:∀ b∈A.sm++A.ft,b∉[k]:=λb c p=>by let:=g b c;rw[ai7.mp p,i] at this;cases this
 let k3:aV [k] H2 (Z9 H2 k (.ins bH dx [("store",.ref x)])):=cZ aV.refl<|.inl o8;let C:cM H2 [k]:=λb c=>by rw[ai7.mp c];exact .inr<|.inr {_,_,_,s2 _ _<|s1 _ _ i,J}
 exact q A _ (by rw[af,L];rfl) hn (λCW=>(t CW CW).dQ k3 C l) g λb o e c=>k3 b o (s2 _ _<|s1 _ _ e) c
variable(lG:bh "read_row" 4 ["row"] xP)
variable(jz:GDF P w K mg cB gj)
variable(jK:∀z,KnR z->∃n ps,(z,n)∈gj/\bh n 11 ps (kX av aA aD aG aI z))
include T lG jz jK in
theorem BH{f:jl}{fd:q9}(F:Fun K "say" "Desk.say" qj f fd):⋯ 12 f fd ["self","row"] (jQ bH av aA aD aG aI):=by
 refine F.okY tL ?_;rintro vs H Q E ⟨k,p,z,a,td,rfl,⟨dx,m⟩,i,j,e,q⟩;refine⟨J,λn A outer s c=>⟨_,(ai (psS 2 tL.nd<|pcS lG az c<|aa (pv 1) ah)
   (aq<|aJ<|G5 jz jK az (c.mono o7) (eL (v:=.ref cB) J T.D7 J) (aQ bY (pv 2) au λ_ _=>rfl) (λ_ _=>rfl)<|aa (aZ (pv 0) J)<|aa (aQ bY (pv 2) au λ_ _=>rfl) ah)),?_⟩⟩
 dsimp only[aX];refine{1,z,a,td,J,i,j,λt l H1 b g h s1=>?_};refine aU [t8 k,some<|.str z,t8 t] ?_;dsimp only;exact{1,t,_,_,V.str a,J,J,X3.of b,J,a,J,e,1,k,bH,dx,_,1,s1 _ _ m,T.iY,T.jG,J,1,t,_,_,.ref l,J,J,X3.of b,J,q l H1 g h s1 _}
variable(ie:dM aA "written" 4 ["self","one","other"] (qe aA))
include T ie in
theorem Bv{f:jl}{fd:q9}(F:Fun K "sizes_of" "sizes_of" qb f fd):⋯ 5 f fd ["days","begin","day"] (qu aA):=by
 refine F.okY Bo ?_;rintro vs H Q E ⟨m,wd,C2,C3,C6,d,rfl,y,hd,a2,a1,q⟩;refine{J,λa0 A outer s t=>{_,(aq<|aJ<|aB oO (bI<|aa (aZ (pv 0) J) ah)<|dg (N:=["base","days","begin","day"]) (k:=1) (cap:=[0,1,2]) J J (eK J T.eO<|aa (pv 2) ah) (λ_ _ _ _=>(pgN 0 (show(["base","days","begin","day"]:fy Z6).Nodup from by decide +kernel)<|.inr J)) (λ_ _ _ _=>cg) λ_ _ _ _=>(aL (zc (K:=K) J) o9 T.bE aiT<|aa (bM (pv 1) T.bN ie az (t.mono o7)<|aa (aB bf (pv 2)<|pv 0)<|aa (aB bf (pv 2)<|pv 3) ah) ah)),?_}};dsimp only[aX];let⟨ta,sa,TL,SL,D⟩:=y.D;let⟨dx,Y⟩:=D.ob;let g:=y.n;refine{1,m,aA,dx,_,1,Y,T.bN,T.iB,Dw,v8,λl1 z=>?_};let s1:aj H (Z9 H l1 (.lst [V.int ↥wd])):=aj.new z;let h1:Z9 H l1 (.lst [V.int ↥wd]) l1=some (.lst ([↥wd].map Z8)):=af;generalize Z9 H l1 (.lst [V.int ↥wd])=H1 at s1 h1 ⊢;refine{1,↥d,J,o6,o6,λp c=>?_};rw[show(↥d).toNat=d by omega];refine lz (lo:=0) (n:=d) p (λi σ H2 ys=>∃(v:nt V)(ns:fy Z4),σ=[v,t8 m,t9 C6,t9 ↥d]/\aj H1 H2/\H2 p=some (.lst ys)/\ys=ns.map Z8/\ns.length=i/\∀b:Z5,b<i->∃n:Z5,ns[b]?=some ↥n/\WrN C3 (C6+b) (C6+d) n) {Z0,[],J,aj.new c,af,J,J,λb j=>absurd j<|ak3 _} ?_ ?_
 .rintro i σ H2 ys hi ⟨v,ns,rfl,s2,h2,rfl,hn,B⟩;let U:=(D.same s1).same s2;let⟨u,L⟩:=U.ob
  repeat (first|refine{1,?_}|refine{3,?_}|refine{(by first|decide|(dsimp only;decide)|(show 2≤Z7;decide)|(show 1≤Z7;decide)|(show 3≤Z7;decide)|(show 4≤Z7;decide)),?_}|refine{.inl ⟨o5,o5⟩,?_}|refine{.inr ⟨o5,o5⟩,?_}|refine{⟨o5,o5⟩,?_}|refine{3,o5,?_}|refine{3,.inl ⟨o5,o5⟩,?_}|refine{3,.inr ⟨o5,o5⟩,?_}|refine{3,⟨o5,o5⟩,?_}|refine{J,?_}|exists _,1)
  exists m,u,1,L,ly o4 o4 o4 o4,2,3,2,3;refine{m,ta,sa,TL,SL,wd,C2,C3,C6 +(0 +↥i),C6 +↥d,J,U,y.S,g,λ_ _ r a H3 t nr C x s3=>?_,λd h=>by omega};refine{r,1,.inl<|X0.of t,s3 _ _ h2,by rw[aiE,hn];exact aF o6,_,ns++[((a.length:Z5):Z4)],J,λb o e=>?_,af,by rw[ajb,aiE];rfl,by simp[hn],λb j=>?_}
  .rw[ak<|ao e c];exact s3 b o<|s2 b o e
  .by_cases eb:b=i
   .subst eb;refine{a.length,by rw[aiO o6,hn];simp,a,C,λk=>?_,J};rw[x k,show min (C6 +(0 +↥b)) (C6 +↥d)=C6+b by omega,show max (C6 +(0 +↥b)) (C6 +↥d)=C6+d by omega]
   .let⟨n,e1,e2⟩:=B b o6;exact{n,by rwa[aiM o6],e2}
 .rintro σ H2 ys ⟨v,ns,rfl,s2,h2,rfl,hn,B⟩;refine{l1,p,3,s2 _ _ h1,h2,by rw[aiE,aiE];exact ajt<|aF (by simp;omega),λl O=>?_};rw[←ajb];exact q l _ _ af ((s1.trans s2).free O) {by simp[hn],J,λb j=>B b j}<|(s1.trans s2).trans<|aj.new O
variable(vU:kF "Task" aI 4 ["self","sizes","weights","rates"] (rz aI))
variable(lA:bh "sizes_of" 5 ["days","begin","day"] (qu aA))
include T bQ gv vU lA in
theorem Ef{f:jl}{fd:q9}(F:Fun K "task_of" "task_of" sq f fd):⋯ 6 f fd ["days","begin","weights","rates"] (pK aA aI):=by
 refine F.okY vY ?_;rintro vs H Q E ⟨u,C,ra,wd,C2,C3,C6,C0,C7,rfl,hD,j,a1,n1,n7,nr,a5,a8,q⟩;refine⟨J,λa7 A outer s O=>⟨_,(ai (aY<|pcS gv az O<|aa (aL aK o9 T.bE aiT<|aa (pv 2) ah) ah)
   (ai (cR ajd J (rM J T.eO<|aa (pv 1)<|aa (aB bf (pv 1)<|aL aK o9 T.bE aiT<|aa (pv 2) ah) ah) (pgN 4 vY.nd)
   (aq<|aY<|bM (pv 0) T.bN bQ az (O.mono o7)<|aa (pv 4) ah))
   (aq<|aJ<|iW vU az (O.mono o7) J<|aa (dg (N:=["day","days","begin"]) (k:=1) (cap:=[0,1]) J J (eK J T.eO<|aa (aL aK o9 T.bE aiT<|aa (pv 2) ah) ah) (λ_ _ _ _=>(pgN 0 (show(["day","days","begin"]:fy Z6).Nodup from by decide +kernel)<|.inr J)) (λ_ _ _ _=>cg) λ_ _ _ _=>(pcS lA az O<|aa (pv 1)<|aa (pv 2)<|aa (pv 0) ah))<|aa (pv 2)<|aa (pv 3) ah))),?_⟩⟩
 dsimp only[aX];let⟨ta,sa,TL,SL,D⟩:=hD.D;let⟨dx,ob⟩:=D.ob;exists 1,C,1,.inl<|X0.of j,↥C0.length,by rw[aiE],o6,o6;let a6:=hD.n;exists 2,1,C,1,.inl<|X0.of j,3,_,1,?_
 .rw[aiE];exact⟨o6,o6,o6,o6⟩
 rw[aiE];rw[show(C6 +↥C0.length-C6).toNat=C0.length by omega];refine fE (lo:=C6) (n:=C0.length) (λi σ H2=>∃S:nt V,σ=[t8 u,t9 C6,t8 C,t8 ra,S]/\H2=H) ⟨Z0,J,J⟩ ?_ ?_
 .rintro i σ H2 hi ⟨S,rfl,rfl⟩;refine{1,u,dx,1,ob,ly o4 o4 o4 o4,1,u,ta,sa,TL,SL,wd,C2,C3,C6 +↥i,J,D,λh=>{1,J},λh=>absurd o6 h}
 .rintro σ H2 ⟨S,rfl,rfl⟩;refine{1,C,1,.inl<|X0.of j,↥C0.length,by rw[aiE],o6,o6,λr B=>?_};rw[show(↥C0.length).toNat=C0.length by omega];refine lz (lo:=0) (n:=C0.length) r (λi σ m ys=>∃(v:nt V)(g:fy jl)(rows:fy (fy Z4)),σ=[v,t8 u,t9 C6]/\aj H2 m/\m r=some (.lst ys)/\ys=g.map V.ref/\Rows m g rows/\rows.length=i/\r∉g/\i7 wd C3 C6 rows) {Z0,[],[],J,aj.new B,af,J,{J,λi a xs e=>by cases e},J,o8,λd row e=>by simp at e} ?_ ?_
  .rintro i σ m ys hi ⟨v,g,rows,rfl,s3,h3,rfl,R,hn,p,U⟩
   repeat (first|refine{1,?_}|refine{3,?_}|refine{(by first|decide|(dsimp only;decide)|(show 2≤Z7;decide)|(show 1≤Z7;decide)|(show 3≤Z7;decide)|(show 4≤Z7;decide)),?_}|refine{.inl ⟨o5,o5⟩,?_}|refine{.inr ⟨o5,o5⟩,?_}|refine{⟨o5,o5⟩,?_}|refine{3,o5,?_}|refine{3,.inl ⟨o5,o5⟩,?_}|refine{3,.inr ⟨o5,o5⟩,?_}|refine{3,⟨o5,o5⟩,?_}|refine{J,?_}|exists _,1)
   refine{u,wd,C2,C3,C6,i,by rw[amw],hD.keep s3,o6,a5,o6,λl ns H4 hl nl a2 s4=>?_};let L:r≠l:=ao h3 nl;let a3:g.length=i:=by rw[R.len,hn]
   refine{s4 _ _ h3,by rw[aiE,a3];exact aF o6,_,g++[l],rows++[ns],J,λb o e=>?_,af,o8,(R.mono λb hb o e=>?_).snoc ?_,by simp[hn],?_,λd row e=>?_}
   .rw[ak<|ao e B];exact s4 b o<|s3 b o e
   .rw[ak (show b≠r from λz=>p (by rwa[←z]))];exact s4 b o e
   .rw[ak L.symm];exact hl
   .simp only[List.mem_append,List.mem_singleton];rintro(z|z)
    .exact p z
    .exact L z
   .rcases HH e with⟨_,e⟩|⟨rfl,rfl⟩
    .exact U d row e
    .rw[hn];exact a2
  .rintro σ m ys ⟨v,g,rows,rfl,s3,h3,rfl,R,hn,p,U⟩;refine{2,λx c hx a4 a9=>?_};let t:aj m (Z9 (Z9 m c (HO.own x)) x (HO.ins aI c [])):=λb o e=>by rwa[ak<|ao e hx,ak<|ao e a4]
   let y:Z9 (Z9 m c (HO.own x)) x (HO.ins aI c []) x=some (HO.ins aI c []):=af;generalize Z9 (Z9 m c (HO.own x)) x (HO.ins aI c [])=H4 at t y ⊢;let a0:H2 x=Z0:=s3.free hx;refine{x,c,r,C,ra,g,rows,C0,C7,J,y,o6,o6,n7,nr,t _ _ h3,R.mono λb _ o e=>t b o e,t _ _<|s3 _ _ j,t _ _<|s3 _ _ a1,λH5 Y k5=>{J,?_}};exact q x rows H5 Y hn U λb o e=>k5 b o (t b o<|s3 b o e) (by let:=ao e a0;simpa using this)
include T in
theorem A0{f:jl}{fd:q9}(F:Fun K "_law_cell" "_law_cell" nK f fd):⋯ 1 f fd ["_law_script","_law_k"] (x8 K):=by
 refine F.okY zT ?_;rintro vs H Q E ⟨a,ns,k,rfl,b,q⟩;refine⟨J,λc A outer s g=>⟨_,(ai (aW (aE j7 (pv 1) (aL aK o9 T.bE aiT<|aa (pv 0) ah)<|aH _) (aq<|aJ<|aQ aT (pv 0) (pv 1) λ_ _=>rfl) aP)
   (aq<|aJ<|aB bf (aB eX au<|pv 1) au)),?_⟩⟩
 dsimp only[aX];exists 2,a,1,.inl b,3,1;refine xu (λh=>?_) λh=>?_
 .let h:k<ns.length:=⇑h
  exists 2,a,_,_,V.int<|ns.getD k 0,J,J,b,bx ?_
  .simp[h]
  .let e:gp ns k=ns.getD k 0:=by unfold gp;rw[aiN o6];rfl
   rwa[e] at q
 .let h:¬k<ns.length:=⇑h
  exists 1,3,.inl ⟨o5,o5⟩,3;let e:gp ns k=37*k+11:=by unfold gp;rw[aiJ o6]
  rwa[e] at q
include T in
theorem AL{f:jl}{fd:q9}(F:Fun K "_law_stir" "_law_stir" nW f fd):⋯ 1 f fd ["_law_cell_here","_law_k"] (xX):=by
 refine F.okY rC ?_;rintro vs H Q E ⟨c,k,rfl,q⟩;refine⟨J,λa A outer s b=>⟨_,(ai (psS 2 rC.nd<|aB bW (aB eX (aB bf (pv 0)<|aB eX au<|pv 1) au) au)
   (aq<|aJ<|aB bW (aB eX (pv 2)<|pv 2) au)),?_⟩⟩
 exists 2,3,.inl ⟨o5,o5⟩,3,3,.inr ⟨o5,o5⟩,3,o5;let h1:0≤(c+7919*k)*48271 % 2147483647:=aj3 _ o5;let h2:(c+7919*k)*48271 % 2147483647<2147483647:=ajP _ o5;exists 2,3,.inl ⟨o6,o6⟩,3,o5;exact q
variable(bz:bh "_law_stir" 1 ["_law_cell_here","_law_k"] xX)
include T bz in
theorem zo{f:jl}{fd:q9}(F:Fun K "_law_block" "_law_block" lQ f fd):⋯ 2 f fd ["_law_cell_here","_law_k"] (ug):=by
 refine F.okY zd ?_;rintro vs H Q E ⟨c,k,rfl,q⟩;refine⟨J,λb A outer s a=>⟨_,(ai (aW (aE bL (aB bW (aB bf (pv 0)<|pv 1) au) au<|aH _) (aq<|aJ<|aB bW (aB bf (aB gx (pv 0) au)<|pv 1) au) aP)
   (ai (aW (aE bL (aB bW (aB bf (pv 0)<|pv 1) au) au<|aH _) (aq<|aJ<|aB mJ (aB mJ (iZ (n:=18446744073709551616)) au)<|aB bW (aB bf (aB gx (pv 0) au)<|pv 1) au) aP)
   (ai (aW (aE bL (aB bW (aB bf (pv 0)<|pv 1) au) au<|aH _) (aq<|aJ<|aB bW (pv 0)<|iZ (n:=18446744073709551616)) aP)
   (aq<|aJ<|aB bW (aB bf (aB eX (pcS bz az a<|aa (pv 0)<|aa (pv 1) ah)<|iZ (n:=8589934592))<|pcS bz az a<|aa (pv 0)<|aa (aB bf (pv 1) au) ah)<|iZ (n:=18446744073709551616))))),?_⟩⟩
 exists 2,3,3,o5,J,1;refine xu (λh=>?_) λh=>?_
 .let h:=HK h;exists 1,3,⟨o5,o5⟩,1,3,3,o5;let e:fK c k =(c / 4+k) % 3:=by unfold fK;rw[aiN h]
  rwa[e] at q
 let h:=D4 h;exists 2,3,3,o5,J,1;refine xu (λh1=>?_) λh1=>?_
 .let h1:=HK h1;exists 3,1,3,⟨o5,o5⟩,1,3,3,o5,3;let e:fK c k=18446744073709551616-1 -(c / 4+k) % 3:=by unfold fK;rw[aiJ h,aiN h1]
  rwa[e] at q
 let h1:=D4 h1;exists 2,3,3,o5,J,1;refine xu (λh2=>?_) λh2=>?_
 .let h2:=HK h2;exists 1,3,o5;let e:fK c k=c % 18446744073709551616:=by unfold fK;rw[aiJ h,aiJ h1,aiN h2]
  rwa[e] at q
 let h2:=D4 h2;exists 2,_,1,3,.inr ⟨o5,o5⟩,2,3,_,1,3,3,o5;let e:fK c k =(fG c k*8589934592+fG c (k+50)) % 18446744073709551616:=by unfold fK;rw[aiJ h,aiJ h1,aiJ h2]
 rwa[e] at q
def Ar{w:Z6}(h:Wd4 w):∃j:Z5,([wN,wW,wS,wL]:fy Z6)[j]?=some w/\(∀i,i<j->([wN,wW,wS,wL]:fy Z6)[i]?≠some w)/\rkW w =↥j:=by
 let⟨a,b,c,d⟩:=Du;rcases h with rfl|rfl|rfl|rfl
 .exact{(0),J,λi hi=>absurd hi<|ak3 _,a}
 .exact{(1),J,λi hi=>by match i,hi with|0,_=>decide +kernel,b}
 .exact{(2),J,λi hi=>by match i,hi with|0,_=>decide +kernel|1,_=>decide +kernel,c}
 .exact{(3),J,λi hi=>by match i,hi with|0,_=>decide +kernel|1,_=>decide +kernel|2,_=>decide +kernel,d}
def wyC(C1:fy (fy Z4))(r2 r3:Z4)(ws:fy Z6)(i:Z5):Z4:=if ws[i]?=some wN then 0 else cI C1 r2 r3 ws i
def Ii{ws:fy Z6}{i:Z5}{x:Z6}(f:VW ws)(e:ws[i]?=some x)(c:x≠wN):(gJ (ws.take i) x=.non/\bB ws i = -1)∨∃k:Z5,gJ (ws.take i) x=.int ↥k/\bB ws i =↥k/\k<i:=by
 let a:=f.base e c;let j:=mY ws i;let l:wW≠wS:=by decide +kernel
 let m:wW≠wL:=by decide +kernel
 let g:wL≠wS:=by decide +kernel
 rcases f.four e with rfl|rfl|rfl|rfl
 .exact absurd J c
 .rw[DP] at a;exact .inl {by unfold gJ;rw[aiJ l,aiJ m],(aiY a).symm}
 .rw[DF] at a;cases h:br isW (ws.take i) with
  |none=>rw[h] at a;cases a
  |some k=>rw[h] at a;let b:bB ws i =↥k:=(aiY a).symm;exact .inr {k,by unfold gJ;rw[aiN J,h];rfl,b,o6}
 .rw[EG] at a;cases h:br isK (ws.take i) with
  |none=>rw[h] at a;cases a
  |some k=>rw[h] at a;let b:bB ws i =↥k:=(aiY a).symm;exact .inr {k,by unfold gJ;rw[aiJ g,aiN J,h];rfl,b,o6}
def qS{z:Z6}{ws:fy Z6}{n:Z5}(h:∀ w∈ws,w.length≤n):(Str.join z ws).length≤n*ws.length+ws.length*z.length:=by let h1:=lX h;rw[←akS,PySem.size_glued];let:(ws.length-1)*z.length≤ws.length*z.length:=am7 _<|Nat.sub_le _ _;omega
def EC{n:Z4}(h0:0≤n)(h:n<10 ^ 60):intText? (bG n)=some n:=by let e:=amS (x:=bG n) (jB h0) (by intro e;let:=qd h0;rw[←str_len,e] at this;exact absurd this o7)<|ai9 (aj6 h0 (k:=60) o7 h) o7;let⟨m,rfl⟩:=akb h0;unfold bG at e ⊢;rwa[akt,am4] at e
def DZ{x:Lf}(h:∀ w∈x.1,Wd4 w)(h0:0≤x.2):Txt.split (dI x) (Str.ofString " ")=x.1++[bG x.2]:=by
 unfold dI;rw[show(Str.ofString " ":Str) =⟨#[32]⟩ by decide +kernel];exact lu o8 λp a=>by
  rcases ai0.mp a with a|a
  .rcases h p a with rfl|rfl|rfl|rfl <;> decide +kernel
  .rw[ai7.mp a];exact gS h0<|.inl o7
def HQ{x:Lf}(h:∀ w∈x.1,Wd4 w)(h7:x.1.length≤7)(h0:0≤x.2)(h1:x.2<10 ^ 60):(dI x).length≤100000:=by
 let:=qS (z:=Str.ofString " ") (ws:=x.1++[bG x.2]) (n:=60) λw a=>by
  rcases ai0.mp a with a|a
  .rcases h w a with rfl|rfl|rfl|rfl <;> decide +kernel
  .rw[ai7.mp a];exact aj6 h0 o7 h1
 let e:(Str.ofString " ":Str).length=1:=by decide +kernel
 rw[e,aji] at this;unfold dI;simp at this;omega
def Ke{Q:Bool->Hp->Z3}{b:Bool}{H:Hp}(h1:Q Z1 H)(h2:Q Z2 H):Q b H:=by cases b <;> assumption
def Cd(z:Z6)(ws:fy Z6):inV (V.str z) (ws.map V.str)=decide (z∈ws):=by
 unfold inV
 induction ws with
 |nil=>rfl
 |cons a ws b=>
  rw[ajh,akX,b];by_cases h:z=a
  .subst h;simp[eqV]
  .simp[eqV,h];intro e;exact absurd e.symm h
def sR(z:Z6)(ws:fy Z6):(if Z2=Z1 then !inV (V.str z) (ws.map V.str) else inV (V.str z) (ws.map V.str))=decide (z∈ws):=by rw[aiJ o7,Cd]
def wK(e:fy Z6)(x w:Z6):gJ (e++[x]) w=if (w=wS/\x=wW)∨(w=wL/\x≠wN) then V.int ↥e.length else gJ e w:=by
 let f:wS≠wL:=by decide +kernel
 unfold gJ;rw[eG,eG];unfold isW isK;by_cases a:w=wS
 .subst a;by_cases b:x=wW
  .simp[b]
  .simp[b,f]
 .by_cases c:w=wL
  .subst c;by_cases b:x=wN
   .simp[b,f.symm]
   .simp[b,f.symm]
  .simp[a,c]
def Cu{ws:fy Z6}(h:∀ w∈ws,Wd4 w):(wW∈ws∨wS∈ws∨wL∈ws)↔br isK ws≠Z0:=by
 constructor
 .intro a e;let:=kc.mp e;rcases a with a|a|a
  .exact absurd (this _ a) o4
  .exact absurd (this _ a) o4
  .exact absurd (this _ a) o4
 .intro e;refine aj5 λhn=>e (kc.mpr λw b=>?_)
  rcases h w b with rfl|rfl|rfl|rfl
  .decide +kernel
  .exact absurd (.inl b) hn
  .exact absurd (.inr<|.inl b) hn
  .exact absurd (.inr<|.inr b) hn
def Dn{ws:fy Z6}:wW∈ws↔br isW ws≠Z0:=by
 constructor
 .intro b e;exact absurd (kc.mp e _ b) o4
 .intro e;refine aj5 λhn=>e (kc.mpr λw a=>aiX λz=>hn<|z ▸ a)
def ZS(e:bh "on_day" 11 ["store","changes"] (kI av aA aD aG))(b:bh "on_keep" 11 ["store","words"] (ji av aA aD aG))(a:bh "on_marks" 11 ["store","numbers"] (iD av aA aD aG))(c:bh "on_plan" 11 ["store","numbers"] (ja av aA aD aG aI)):∀z,KnR z->∃n ps,(z,n)∈gj/\bh n 11 ps (kX av aA aD aG aI z):=by
 intro z f;unfold KnR at f;rcases f with rfl|rfl|rfl|rfl
 .exact{"on_day",["store","changes"],by simp[gj],by rwa[yN]}
 .exact{"on_keep",["store","words"],by simp[gj],by rwa[vK]}
 .exact{"on_marks",["store","numbers"],by simp[gj],by rwa[tP]}
 .exact{"on_plan",["store","numbers"],by simp[gj],by rwa[vm]}
def good2{c:Z4×Z4}(h:jH c):gu [.n c.1,.c "=",.n c.2]:=by
 intro k a;simp at a;rcases a with rfl|rfl
 .exact h.1
 .exact h.2
def EF{c:Z4×Z4}(h:jH c):chg (wordOf c)=some c:=by
 let e:wordOf c=dn [.n c.1,.c "=",.n c.2]:=by unfold wordOf;rw[←zL];rfl
 rw[e];exact Ng (good2 h) (by kernel_rfl)
def lB{c:Z4×Z4}(h:jH c):(wordOf c).length≤41:=by
 let e:wordOf c=dn [.n c.1,.c "=",.n c.2]:=by unfold wordOf;rw[←zL];rfl
 rw[e];exact ai9 (GJ<|good2 h)<|amX (by kernel_rfl)
def tQ{c:Z4×Z4}(h:jH c):32∉(wordOf c).cps.toList:=by
 unfold wordOf;rw[pe,pe];intro a;rcases ai0.mp a with a|a
 .rcases ai0.mp a with a|a
  .exact gS h.1.1 (.inl o7) a
  .simp at a
 .exact gS h.2.1 (.inl o7) a
def Cn{wd:Z5}{c:Z4×Z4}(a:wd≤40)(h:0≤c.1/\c.1 <↥wd/\0≤c.2/\c.2<2 ^ 64):jH c:={⟨h.1,o6⟩,h.2.2.1,by let:=h.2.2.2;omega}
def P9{a:fy (Z4×Z4)}(h:∀ c∈a,jH c):wO (Str.join (Str.ofString " ") (Str.ofString "day" :: a.map wordOf)) "day" (.chs a):=by
 exists a.map wordOf,?_,J
 .rw[spS];refine lu o8 λp b=>?_
  rcases aiU.mp b with rfl|b
  .decide +kernel
  .let⟨c,e,rfl⟩:=aje.mp b;exact tQ<|h c e
 .rw[akp];exact akf λc e=>EF<|h c e
def Qh{a:fy (Z4×Z4)}(h:∀ c∈a,jH c)(h3:a.length≤3):(Str.join (Str.ofString " ") (Str.ofString "day" :: a.map wordOf)).length≤400:=by
 let:=qS (z:=Str.ofString " ") (ws:=Str.ofString "day" :: a.map wordOf) (n:=41) λw b=>by
  rcases aiU.mp b with rfl|b
  .decide +kernel
  .let⟨c,f,rfl⟩:=aje.mp b;exact lB<|h c f
 let e:(Str.ofString " ":Str).length=1:=by decide +kernel
 rw[e,ajp,aiE] at this;omega
def Iv{ns:fy Z4}(h:∀ x∈ns,0≤x/\x≤1000000000000)(h6:6≤ns.length):wO (Str.join (Str.ofString " ") (Str.ofString "plan" :: ns.map bG)) "plan" (.nums ns):=by
 refine{ns.map bG,?_,o4,o4,{(6,Z0),by simp[iC],by simp[gR];omega},λw g=>?_,?_,λe=>absurd e o4,λ_ x a=>(h x<|List.mem_of_mem_tail a).2}
 .rw[spS];refine lu o8 λp b=>?_
  rcases aiU.mp b with rfl|b
  .decide +kernel
  .let⟨c,f,rfl⟩:=aje.mp b;exact gS (h c f).1<|.inl o7
 .let⟨c,f,rfl⟩:=aje.mp g;let:=h c f;exact Cm this.1 o6
 .rw[akp];let:∀ x∈ns,(intOf ∘ bG) x=x:=λx a=>by let:=h x a;exact vB this.1 o6
  rw[akf this,List.map_id']
def EX{ns:fy Z4}(h:∀ x∈ns,0≤x/\x≤1000000000000)(h12:ns.length≤12):(Str.join (Str.ofString " ") (Str.ofString "plan" :: ns.map bG)).length≤400:=by
 let:=qS (z:=Str.ofString " ") (ws:=Str.ofString "plan" :: ns.map bG) (n:=20) λw a=>by
  rcases aiU.mp a with rfl|a
  .decide +kernel
  .let⟨c,b,rfl⟩:=aje.mp a;let:=h c b;exact gn this.1 o6
 let e:(Str.ofString " ":Str).length=1:=by decide +kernel
 rw[e,ajp,aiE] at this;omega
def GB{wd:Z5}{C3 C1 sizes':fy (fy Z4)}{b:Z4}(h:i7 wd C3 b C1)(h':i7 wd C3 b sizes')(t:C1.length=sizes'.length):C1=sizes':=by
 refine alu λd=>?_
 rcases amu d C1.length with f|f
 .let e:=aiG f;let c:=aiG (show d<sizes'.length by omega);rw[e,c];let⟨o,g,i⟩:=h d _ e;let⟨b1,b2,b3⟩:=h' d _ c;clear e c;generalize C1[d]=r at o g i ⊢;generalize sizes'[d]=u at b1 b2 b3 ⊢;refine congrArg some (alu λj=>?_);cases j with
  |zero=>rw[g,b2]
  |succ j=>
   rcases amu j d with a|a
   .let⟨n,p,l⟩:=i j a;let⟨s,m,q⟩:=b3 j a;rw[p,m,l.one q]
   .rw[ajx o6,ajx o6]
 .rw[ajx f,ajx o6]
def Hj{wd:Z5}{C3:fy (fy Z4)}{b r0 r1 r2 r3:Z4}{C0:fy Z4}{x x':Lf}(h:vX wd C3 b C0 r0 r1 r2 r3 x)(h':vX wd C3 b C0 r0 r1 r2 r3 x'):x=x':=by let⟨s,j,F,hn,hs,i⟩:=h;let⟨s',g,l,f,c,a⟩:=h';let e:=GB hs c o6;subst e;rw[i] at a;cases a;rfl
def Hv(a:Z4)(us:fy Z6)(c:Z4):0 <((cE a us).map V.str).length/\∃w,atI ((cE a us).map V.str) (c % (((cE a us).map V.str).length:Z4))=some (.str w)/\w∈cE a us:=by let h0:0 <(cE a us).length:=alW.mpr<|Ag a us;rw[aiE];exists h0;let g:=aj3 c (show((cE a us).length:Z4)≠0 by omega);let f:=ajP c (show↥0 <(cE a us).length by omega);obtain⟨j,e,b⟩:∃j:Z5,c % ((cE a us).length:Z4) =↥j/\j <(cE a us).length:={(c % ((cE a us).length:Z4)).toNat,o6,o6};rw[e];exact{(cE a us)[j],bx (by rw[aiR,aiG b];rfl),ajF b}
section
variable{CS CD CW CK CP CT:jl}{B H H':Hp}{k:jl}{A:SAd}{wd:Z5}{C2 C3:fy (fy Z4)}{us:fy PcU}{M:Z5->c5}{Q:VK}{E:XK}
structure Dy9(CK CS CD CP CW:jl)(B H:Hp)(k:jl)(A:SAd)(wd:Z5)(C2 C3:fy (fy Z4))(us:fy PcU)(M:Z5->c5):Z3 where
 dk:Y5 CK H k A.p
 st:StC CS CD CP CW CW H A wd C2 C3 us M
 n0:A.n 0=us.length
 kn:k∉A.sm++A.ft
 sb:aj B H
 ow:∀ x∈A.sm++A.ft,B x=Z0
def Dy9.same(i:Dy9 CK CS CD CP CW B H k A wd C2 C3 us M)(s:aj H H'):Dy9 CK CS CD CP CW B H' k A wd C2 C3 us M:={let ⟨dx,e⟩:=i.dk;{dx,s _ _ e},i.st.same s,i.n0,i.kn,i.sb.trans s,i.ow}
def Dy9.nft{l:jl}(i:Dy9 CK CS CD CP CW B H k A wd C2 C3 us M)(a:H l=Z0):l∉A.ft:=λb=>by let⟨o,e⟩:=i.st.here l<|ajk _ b;rw[a] at e;cases e
def Dy9.add{m d:jl}{tb c:fy Z4}(i:Dy9 CK CS CD CP CW B H k A wd C2 C3 us M)(l:StC CS CD CP CW CW H' {A with TL:=A.TL++[m],SL:=A.SL++[d]} wd (C2++[tb]) (C3++[c]) us M)(j:H m=Z0)(f:H d=Z0)(g:aV A.ft H H'):Dy9 CK CS CD CP CW B H' k {A with TL:=A.TL++[m],SL:=A.SL++[d]} wd (C2++[tb]) (C3++[c]) us M:=by
 let b:∀ x∈({A with TL:=A.TL++[m],SL:=A.SL++[d]}:SAd).sm ++({A with TL:=A.TL++[m],SL:=A.SL++[d]}:SAd).ft,x∈A.sm++A.ft∨x=m∨x=d:=λx a=>by simp only[SAd.sm,SAd.ft,foot,List.mem_append,List.mem_singleton,List.mem_cons] at a ⊢;grind
 let h:∀ x∈A.ft,x∈A.sm++A.ft:=λx a=>ajk _ a
 let⟨dx,h1⟩:=i.dk;refine{{dx,g _ _ h1 λz=>i.kn<|h _ z},l,i.n0,λz=>?_,λx o e=>g _ _ (i.sb _ _ e) λz=>?_,λx a=>?_}
 .rcases b _ z with z|z|z
  .exact i.kn z
  .rw[z,j] at h1;cases h1
  .rw[z,f] at h1;cases h1
 .rw[i.ow x<|h _ z] at e;cases e
 .rcases b x a with z|z|z
  .exact i.ow x z
  .rw[z];exact i.sb.free j
  .rw[z];exact i.sb.free f
def Dy9.put{t:jl}{u:PcU}{M':Z5->c5}(i:Dy9 CK CS CD CP CW B H k A wd C2 C3 us M)(g:StC CS CD CP CW CW H' (A.add t) wd C2 C3 (us++[u]) M')(b:aV [A.nl,A.dl,A.x 0,A.d 0] H H'):Dy9 CK CS CD CP CW B H' k (A.add t) wd C2 C3 (us++[u]) M':=by
 let a:(A.add t).sm ++(A.add t).ft=A.sm++A.ft:=by unfold SAd.add SAd.sm SAd.re;dsimp only;rw[xm,xm];rfl
 let c:∀ x∈[A.nl,A.dl,A.x 0,A.d 0],x∈A.sm++A.ft:=λx f=>ajZ _ (by simp only[List.mem_cons,List.not_mem_nil,or_false,SAd.sm] at f ⊢;grind)
 let⟨dx,h1⟩:=i.dk;refine{{dx,b _ _ h1 λz=>i.kn<|c _ z},g,?_,by rw[a];exact i.kn,λx o e=>b _ _ (i.sb _ _ e) λz=>?_,by rw[a];exact i.ow}
 .show fset A.n 0 (A.n 0+1) 0=_;rw[i.n0];simp[fset]
 .rw[i.ow x<|c _ z] at e;cases e
def Dy9.day{z:Z6}{a:fy (Z4×Z4)}(i:Dy9 CK CS CD CP CW B H k A wd C2 C3 us M)(C:z=Str.join (Str.ofString " ") (Str.ofString "day" :: a.map wordOf))(g:oq wd a)(h3:a.length≤3)(h:C2.length≤90)(q:∀s u b H',Dy9 CK CS CD CP CW B H' k u wd b (C3++[a.map Prod.fst]) us M->b.length=C2.length+1->Q (.str s) H'):jQ CK CS CD CP CW CT [.ref k,.str z] H Q E:=by
 subst C;let n:=i.st.D.w2;let f:∀ c∈a,jH c:=λc j=>Cn n<|g.2 c j
 refine{k,A.p,_,"day",.chs a,J,i.dk,Qh f h3,P9 f,.inl J,λl H1 r y s1 L=>?_};let e:=i.same s1;rw[yN];exact{A,wd,C2,C3,us,M,l,a,J,e.st,r,o6,h,i.nft y,HA g,λm d H2 x t F o v=>q _ _ _ _ (e.add t F o v) o8}
def Dy9.keep(i:Dy9 CK CS CD CP CW B H k A wd C2 C3 us M)(n:us.length≤60)(q:∀s h u b H',Dy9 CK CS CD CP CW B H' k h wd C2 C3 (us++[u]) b->Q (.str s) H'):jQ CK CS CD CP CW CT [.ref k,.str "keep whole"] H Q E:=by
 let g:gu [.c "keep whole"]:=λk m=>by simp at m
 refine{k,A.p,_,"keep",.wrd "whole",J,i.dk,PN g (by kernel_rfl),Jo g (by kernel_rfl),.inr<|.inl J,λl H1 e o s1 r=>?_};let a:=i.same s1;rw[vK];exact{A,wd,C2,C3,us,M,l,J,e,a.st,i.n0,n,λt u b H2 f j=>q _ _ _ _ _<|a.put f j}
def Dy9.marks(i:Dy9 CK CS CD CP CW B H k A wd C2 C3 us M)(q:∀H',aj H H'->Q (.str (Str.join (Str.ofString " ") (((l3 λi=>(A.n i:Z4)).map Z8).map shT))) H'):jQ CK CS CD CP CW CT [.ref k,.str "marks"] H Q E:=by
 let g:gu [.c "marks"]:=λk a=>by simp at a
 refine{k,A.p,_,"marks",.nums [],J,i.dk,PN g (by kernel_rfl),Jo g (by kernel_rfl),.inr<|.inr<|.inl J,λl H1 f e s1 b=>?_};rw[tP];exact{A,wd,C2,C3,us,M,l,J,i.st.same s1,λH2 s2=>q _<|s1.trans s2}
def Dy9.plan{z:Z6}{b r0 r1 r2 r3:Z4}{C0:fy Z4}(i:Dy9 CK CS CD CP CW B H k A wd C2 C3 us M)(j:z=Str.join (Str.ofString " ") (Str.ofString "plan" ::(b::r0::r1::r2::r3::C0).map bG))(h1:1≤C0.length)(h7:C0.length≤7)(m:0≤b)(a:b+C0.length≤C2.length)(c:∀ x∈r0::r1::r2::r3::C0,0≤x/\x≤1000000000000)(q:∀x H',vX wd C3 b C0 r0 r1 r2 r3 x->aj H H'->Q (.str (dI x)) H'):jQ CK CS CD CP CW CT [.ref k,.str z] H Q E:=by
 subst j;let n:=i.st.tn;let e:∀ x∈b::r0::r1::r2::r3::C0,0≤x/\x≤1000000000000:=λx h=>by
  rcases aiU.mp h with rfl|h
  .omega
  .exact c x h
 refine{k,A.p,_,"plan",.nums (b::r0::r1::r2::r3::C0),J,i.dk,EX e (by simp;omega),Iv e (by simp;omega),.inr<|.inr<|.inr J,λl H1 g o s1 r=>?_};rw[vm];exact{A,wd,C2,C3,us,M,l,b,r0,r1,r2,r3,C0,J,g,i.st.same s1,h1,h7,m,a,c,λx H2 f s2=>q x _ f<|s1.trans s2}
end
include T bz in
theorem zl{f:jl}{fd:q9}(F:Fun K "_law_rates" "_law_rates" mT f fd):⋯ 2 f fd ["_law_cell_here"] (pA):=by
 refine F.okY iL ?_;rintro vs H Q E ⟨c,rfl,q⟩;refine⟨J,λL A outer s u=>⟨_,(ai (psS 1 iL.nd<|bI ah)
   (ai (cR ajd J (eK J T.eO<|aa au ah) (pgN 2 iL.nd)
   (ai (psS 3 iL.nd<|pcS bz az u<|aa (pv 0)<|aa (pv 2) ah)
   (aq<|aW (aE bL (aB bW (aB gx (pv 0) au) au) au<|aH _) (aq<|aY<|cK ai6 ajf ajg cC (pv 1)<|aa (aB bW (aB bf (aB eX (pv 3)<|iZ (n:=1048576))<|pcS bz az u<|aa (pv 0)<|aa au ah)<|aB bf (iZ (n:=1000000000000)) au) ah)<|aq<|aY<|cK ai6 ajf ajg cC (pv 1)<|aa (aB bW (pv 3) au) ah)))
   (aq<|aJ<|pv 1))),?_⟩⟩
 dsimp only[aX];refine{ajc _,λl r=>?_};let t:aj H (Z9 H l (.lst [])):=aj.new r;let g0:Z9 H l (.lst []) l=some (.lst (([]:fy Z4).map Z8)):=af;refine aU [t9 c,t8 l,Z0,Z0] ?_;dsimp only;change oh _ _ _ _ (Z9 H l<|.lst []);generalize Z9 H l (.lst [])=H0 at t g0 ⊢;refine bR (λσ H'=>∃(g a:nt V)(ns:fy Z4),σ=[t9 c,t8 l,g,a]/\H' l=some (.lst<|ns.map Z8)/\ns.length=4/\(∀ x∈ns,0≤x/\x≤1000000000000)/\aj H H') (λN C=>?_) ?_
 .refine{(4),J,o7,o7,fE (lo:=0) (n:=4) (λi σ H'=>∃(g a:nt V)(ns:fy Z4),σ=[t9 c,t8 l,g,a]/\H' l=some (.lst<|ns.map Z8)/\ns.length=i/\(∀ x∈ns,0≤x/\x≤1000000000000)/\aj H H') {Z0,Z0,[],J,g0,J,o8,t} ?_ ?_}
  .rintro i σ H1 hi ⟨g,a,ns,rfl,h1,hn,j,s1⟩;refine aU [t9 c,t8 l,t9<|0 +↥i,a] ?_;dsimp only;exists 2,c,0 +↥i,J;let p:=Ce c<|0 +↥i;generalize fG c (0 +↥i)=n at p ⊢;refine aU [t9 c,t8 l,t9<|0 +↥i,t9 n] ?_;dsimp only;let app:∀x:Z4,0≤x/\x≤1000000000000->∃(g a:nt V)(h:fy Z4),[t9 c,t8 l,t9 (0 +↥i),t9 n]=[t9 c,t8 l,g,a]/\Z9 H1 l (.lst (ns.map Z8++[.int x])) l=some (.lst (h.map Z8))/\h.length=i+1/\(∀ x∈h,0≤x/\x≤1000000000000)/\aj H (Z9 H1 l (.lst (ns.map Z8++[.int x]))):=λx v=>⟨_,_,ns++[x],J,by rw[af,ajb];rfl,by simp[hn],λy m=>by
    rcases ai0.mp m with m|m
    .exact j y m
    .rw[ai7.mp m];exact v,λb o e=>by rw[ak<|ao e r];exact s1 b o e⟩
   refine Gz (λO B z=>{1,3,⟨o5,o5⟩,3,o5,J,1,Ke B z}) ?_ ?_
   .refine{1,.inl {J,_,X0.of h1},1,3,.inl ⟨o6,o6⟩,1,c,(9),J,3,3,3,o5,l,3,h1,aF (by rw[aiE];omega),app _ {?_,?_}}
    .exact aj3 _ o7
    .let:=ajP (n*1048576+fG c 9) (show↥0<1000000000000+1 by decide);omega
   .exact{1,.inl {J,_,X0.of h1},1,3,o5,l,3,h1,aF (by rw[aiE];omega),app _ ⟨o6,o6⟩}
  .rintro σ H1 ⟨g,a,ns,rfl,h1,hn,j,s1⟩;exact C _ _ ⟨g,a,ns,J,h1,hn,j,s1⟩
 rintro σ H1 ⟨g,a,ns,rfl,h1,hn,j,s1⟩
 match ns,hn,h1,j with
 |[r0,r1,r2,r3],_,h1,j=>exact{1,q l r0 r1 r2 r3 H1 h1 r j s1}
include T bz in
theorem vO{f:jl}{fd:q9}(F:Fun K "_law_weights" "_law_weights" jS f fd):⋯ 2 f fd ["_law_cell_here","_law_many"] (lZ):=by
 refine F.okY gI ?_;rintro vs H Q E ⟨c,m,rfl,h7,q⟩;refine⟨J,λa0 A outer s Y=>⟨_,(ai (psS 2 gI.nd<|bI ah)
   (ai (cR ajd J (eK J T.eO<|aa (pv 1) ah) (pgN 3 gI.nd)
   (ai (psS 4 gI.nd<|pcS bz az Y<|aa (pv 0)<|aa (pv 3) ah)
   (ai (aY<|cK ai6 ajf ajg cC (pv 2)<|aa (aQ aT (bI<|aa au<|aa (aB bf au<|aB bW (aB gx (pv 4) au) au)<|aa (aB mJ (iZ (n:=1000000000000))<|aB bW (aB gx (pv 4) au) au) ah) (aB bW (pv 4) au) λ_ _=>rfl) ah)
   (aq<|aW (PW.pt<|pw_and (aE jt (aB bW (pv 0) au) au<|aH _)<|pw_and1<|aE jt (aQ aT (pv 2) (qv mZ au) λ_ _=>rfl) au<|aH _) (aq<|AG au<|A8 (pv 2) (qv mZ au) set_list) aP))))
   (aq<|aJ<|pv 2))),?_⟩⟩
 dsimp only[aX];refine{ajc _,λl p=>?_};let L:aj H (Z9 H l (.lst [])):=aj.new p;let g0:Z9 H l (.lst []) l=some (.lst (([]:fy Z4).map Z8)):=af;refine aU [t9 c,t9 ↥m,t8 l,Z0,Z0] ?_;dsimp only;change oh _ _ _ _ (Z9 H l<|.lst []);generalize Z9 H l (.lst [])=H0 at L g0 ⊢;refine bR (λσ H'=>∃(h g:nt V)(ns:fy Z4),σ=[t9 c,t9 ↥m,t8 l,h,g]/\H' l=some (.lst<|ns.map Z8)/\ns.length=m/\(∀ x∈ns,0≤x/\x≤1000000000000)/\aj H H') (λN hN=>?_) ?_
 .refine{1,↥m,J,o6,o6,fE (lo:=0) (n:=(↥m).toNat) (λi σ H'=>∃(h g:nt V)(ns:fy Z4),σ=[t9 c,t9 ↥m,t8 l,h,g]/\H' l=some (.lst<|ns.map Z8)/\ns.length=i/\(∀ x∈ns,0≤x/\x≤1000000000000)/\aj H H') {Z0,Z0,[],J,g0,J,o8,L} ?_ ?_}
  .rintro i σ H1 hi ⟨h,g,ns,rfl,h1,hn,j,s1⟩;refine aU [t9 c,t9 ↥m,t8 l,t9<|0 +↥i,g] ?_;dsimp only;exists 2,c,0 +↥i,J;let B:=Ce c<|0 +↥i;generalize fG c (0 +↥i)=n at B ⊢;refine aU [t9 c,t9 ↥m,t8 l,t9<|0 +↥i,t9 n] ?_;dsimp only;let⟨z,U,a1⟩:=Io (x:=0) (y:=1+n / 3 % 9) (w:=1000000000000-n / 3 % 2) (k:=n % 3) o6 o6;refine bR (λσ H'=>σ=[t9 c,t9 ↥m,t8 l,t9<|0 +↥i,t9 n]/\H' l=some (.lst<|(ns++[z]).map Z8)/\aj H H') (λN2 r=>?_) ?_
   .refine{1,.inl {J,_,X0.of h1},1,3,⟨o5,o5⟩,3,o5,3,1,3,⟨o5,o5⟩,3,o5,3,E1,λt S=>?_};let h2:=aj.new S (o:=.lst [.int 0,.int<|1+n / 3 % 9,.int<|1000000000000-n / 3 % 2]) _ _ h1;refine{1,3,o5,t,_,n % 3,.int z,J,J,X0.of af,U,l,3,h2,aF (by rw[aiE];omega),r _ _ {J,by rw[af,ajb];rfl,λb o e=>?_}};rw[ak<|ao e p];exact aj.new S _ _<|s1 b o e
   rintro σ H2 ⟨rfl,h2,s2⟩;let v:0≤z/\z≤1000000000000:=by omega
   let u:∀ x∈ns++[z],0≤x/\x≤1000000000000:=λy a=>by
    rcases ai0.mp a with a|a
    .exact j y a
    .rw[ai7.mp a];exact v
   let C:atI ((ns++[z]).map Z8) (-1)=some (.int z):=F5 o8;refine Gz (λQb hT O=>{1,3,o5,3,1,?_}) ?_ ?_
   .by_cases h0:0<c % 4
    .exact dW h0 {2,l,_,-1,.int z,J,J,X0.of h2,C,3,1,Ke hT O}
    .exact cT h0 O
   .exists 2,l,_,_,ns.length,J,J,h2,?_
    .simp[ixN];try omega
    .refine{_,_,ns++[1],J,by rw[af];simp[List.map_append],by simp[hn],λy a=>?_,λb o e=>by rw[ak<|ao e p];exact s2 b o e};rcases ai0.mp a with a|a
     .exact j y a
     .rw[ai7.mp a];omega
   .exact{_,_,ns++[z],J,h2,by simp[hn],u,s2}
  .rintro σ H1 ⟨h,g,ns,rfl,h1,hn,j,s1⟩;exact hN _ _ ⟨h,g,ns,J,h1,o6,j,s1⟩
 rintro σ H1 ⟨h,g,ns,rfl,h1,hn,j,s1⟩;exact{1,q l ns H1 h1 p hn j s1}
include T in
theorem vS{f:jl}{fd:q9}(F:Fun K "_law_allowed" "_law_allowed" jV f fd):⋯ 1 f fd ["_law_choices","_law_weights_here"] (mL K):=by
 refine F.okY jg ?_;rintro vs H Q E ⟨c,m,ws,C0,i,rfl,n,h10,r,y,t,q⟩;refine⟨J,λS A outer s hr=>⟨_,(ai (psS 2 jg.nd<|bI<|aa aN ah)
   (ai (aW (aE bL (aQ aT (pv 1) (aL aK o9 T.bE aiT<|aa (pv 0) ah) λ_ _=>rfl) au<|aH _) (aq<|psS 2 jg.nd<|bI<|aa aN<|aa aN ah) aP)
   (ai (aW (aE kH aN (pv 0) (by with_unfolding_all rfl)) (aq<|aY<|cK ai6 ajf ajg cC (pv 2)<|aa aN ah) aP)
   (ai (aW (PW.pt<|pw_or (aE kH aN (pv 0) (by with_unfolding_all rfl))<|pw_or (aE kH aN (pv 0) (by with_unfolding_all rfl))<|pw_or1<|aE kH aN (pv 0) (by with_unfolding_all rfl)) (aq<|aY<|cK ai6 ajf ajg cC (pv 2)<|aa aN ah) aP)
   (aq<|aJ<|pv 2))))),?_⟩⟩
 dsimp only[aX];let a0:=(aiH.mp t).1;refine{v8,λl0 p=>?_};let j:aj H (Z9 H l0 (.lst [.str wW])):=aj.new p;let g0:Z9 H l0 (.lst [.str wW]) l0=some (.lst [.str wW]):=af;refine aU [t8 c,t8 m,t8 l0] ?_;dsimp only;change oh _ _ _ _ (Z9 H l0<|.lst [.str wW]);generalize Z9 H l0 (.lst [.str wW])=H0 at j g0 ⊢;refine bR (λσ H'=>∃l,σ=[t8 c,t8 m,t8 l]/\H' l=some (.lst<|(if i=0 then [wN,wW] else [wW]).map V.str)/\H l=Z0/\aj H H') (λN g=>?_) ?_
 .refine kJ (decide (i=0)) (λH'=>H'=H0) (λB a=>?_) (λh H' e=>?_) (λh H' e=>?_)
  .exists 2,c,1,.inl<|j.seq n,m,_,_,.int i,J,J,X0.of<|j _ _ y,?_,J,1
   .rw[aiE];exact bx (by rw[aiR,t];rfl)
   .rw[show decide (V.int i=V.int 0)=decide (i=0) by simp];exact a _ J
  .subst e;refine{v9,λl C=>?_};refine aU [t8 c,t8 m,t8 l]<|g _ _ {l,J,by rw[aiN<|ajn h];exact af,j.free C,j.trans<|aj.new C}
  .subst e;exact g _ _ {l0,J,by rw[aiJ<|akL h];exact g0,p,j}
 rintro σ H1 ⟨l,rfl,h1,u,s1⟩;generalize hxs:(if i=0 then [wN,wW] else [wW]:fy Z6)=xs at h1;let U:xs.length≤2:=by rw[←hxs];split <;> decide
 let L:∀{O:Hp}{o:HO},aj H O->aj H (Z9 O l o):=λs b o e=>by rw[ak<|ao e u];exact s b o e
 refine bR (λσ H'=>σ=[t8 c,t8 m,t8 l]/\H' l=some (.lst<|(xs ++(if br isW ws=Z0 then [] else [wS])).map V.str)/\aj H H') (λN g=>?_) ?_
 .refine kJ (decide (wW∈ws)) (λH'=>H'=H1) (λB a=>?_) (λh H' e=>?_) (λh H' e=>?_)
  .exact{1,c,1,.inl<|s1.seq n,J,kE ws,1,by rw[sR];exact a _ J}
  .subst e;refine{1,.inl {J,_,X0.of h1},l,3,h1,aF (by rw[aiE];omega),g _ _ {J,?_,L s1}};rw[af,aiJ<|Dn.mp<|ajn h,ajb];rfl
  .subst e;refine g _ _ {J,?_,s1};rwa[aiN (aj5 λz=>akL h<|Dn.mpr z),akr]
 rintro σ H2 ⟨rfl,h2,s2⟩;generalize hys:(xs ++(if br isW ws=Z0 then [] else [wS]):fy Z6)=ys at h2;let Y:ys.length≤3:=by rw[←hys,aji];split <;> simp <;> omega
 refine bR (λσ H'=>σ=[t8 c,t8 m,t8 l]/\H' l=some (.lst<|(ys ++(if br isK ws=Z0 then [] else [wL])).map V.str)/\aj H H') (λN g=>?_) ?_
 .refine kJ (decide (wW∈ws∨wS∈ws∨wL∈ws)) (λH'=>H'=H2) (λB a=>?_) (λh H' e=>?_) (λh H' e=>?_)
  .exists 1,c,1,.inl<|s2.seq n,J,kE ws,1;rw[sR];by_cases x:wW∈ws
   .rw[aiS (show wW∈ws∨wS∈ws∨wL∈ws from .inl x)] at a;rw[aiS x];exact fS<|a _ J
   rw[aiX x];refine fR ?_;exists 1,c,1,.inl<|s2.seq n,J,kE ws,1;rw[sR];by_cases v:wS∈ws
   .rw[aiS (show wW∈ws∨wS∈ws∨wL∈ws from .inr<|.inl v)] at a;rw[aiS v];exact fS<|a _ J
   rw[aiX v];refine fR ?_;exists 1,c,1,.inl<|s2.seq n,J,kE ws,1;rw[sR,show decide (wL∈ws)=decide (wW∈ws∨wS∈ws∨wL∈ws) by simp[x,v]];exact a _ J
  .subst e;refine{1,.inl {J,_,X0.of h2},l,3,h2,aF (by rw[aiE];omega),g _ _ {J,?_,L s2}};rw[af,aiJ<|(Cu r).mp<|ajn h,ajb];rfl
  .subst e;refine g _ _ {J,?_,s2};rwa[aiN (aj5 λz=>akL h<|(Cu r).mpr z),akr]
 rintro σ H3 ⟨rfl,h3,s3⟩;refine{1,q l H3 ?_ u s3};rwa[←hys,←hxs,aky] at h3
variable(jd:bh "_law_block" 2 ["_law_cell_here","_law_k"] ug)
include T bz jd in
theorem wz{f:jl}{fd:q9}(F:Fun K "_law_changes" "_law_changes" jT f fd):⋯ 3 f fd ["_law_cell_here","_law_wide"] (mQ):=by
 refine F.okY vP ?_;rintro vs H Q E ⟨c,wd,rfl,B,L,q⟩;refine{J,λY A outer s u=>{_,(aq<|aJ<|dg (N:=["_law_k","_law_wide","_law_cell_here"]) (k:=1) (cap:=[1,0]) J J (eK J T.eO<|aa (aB bW (pcS bz az u<|aa (pv 0)<|aa au ah) au) ah) (λ_ _ _ _=>(pgN 0 (show(["_law_k","_law_wide","_law_cell_here"]:fy Z6).Nodup from by decide +kernel)<|.inr J)) (λ_ _ _ _=>cg) λ_ _ _ _=>(fh<|aa (aB bW (pcS bz az u<|aa (pv 2)<|aa (aB bf au<|pv 0) ah)<|pv 1)<|aa (pcS jd az u<|aa (pv 2)<|aa (pv 0) ah) ah)),?_}};obtain⟨m,S,O⟩:∃m:Z5,fG c 69 % 4 =↥m/\m≤3:={(fG c 69 % 4).toNat,o6,o6};refine{1,c,(69),J,3,o5,↥m,by rw[←S],o6,o6,λD r=>?_};rw[show(↥m).toNat=m by omega];refine lz (lo:=0) (n:=m) D (λi σ H2 ys=>∃(v:nt V)(a:fy (Z4×Z4)),σ=[v,t9 ↥wd,t9 c]/\aj H H2/\H2 D=some (.lst ys)/\fZ H2 ys a/\a.length=i/\∀ x∈a,0≤x.1/\x.1 <↥wd/\0≤x.2/\x.2<18446744073709551616) {Z0,[],J,aj.new r,af,fZ.nil,J,λx h=>by cases h} ?_ ?_
 .rintro i σ H2 ys hi ⟨v,a,rfl,s2,h2,g,hn,j⟩;refine{2,3,c,2,3,o6,2,c,1,v9,λt p=>?_};let C:=aj3 (fG c<|70 +(0 +↥i)) (show↥wd≠0 by omega);let U:=ajP (fG c<|70 +(0 +↥i)) (show↥0<wd by omega);let y:=HF c<|0 +↥i;let a0:=g.len;refine{aj.new p _ _ h2,aF o6,_,a++[(fG c (70 +(0 +↥i)) % ↥wd,fK c<|0 +↥i)],J,λb o e=>?_,af,(g.mono λt' xs e=>?_).snoc ?_,by simp[hn],λx l=>?_}
  .rw[ak<|ao e r];exact aj.new p _ _<|s2 b _ e
  .rw[ak<|bU e h2 nofun];exact aj.new p _ _ e
  .rw[ak (ao h2 p).symm,af]
  .rcases ai0.mp l with l|l
   .exact j x l
   .rw[ai7.mp l];exact{C,U,y.1,by let:=y.2;show fK c (0 +↥i)<_;omega}
 .rintro σ H2 ys ⟨v,a,rfl,s2,h2,g,hn,j⟩;exact q D ys a H2 h2 r g ⟨o6,j⟩ o6 s2
include T in
theorem Bf{f:jl}{fd:q9}(F:Fun K "_law_size" "_law_size" nY f fd):⋯ 1 f fd ["_law_changes_here","_law_wide","_law_base_here","_law_day"] (su):=by
 refine F.okY gV ?_;rintro vs H Q E ⟨cl,wd,bv,d,c,rfl,hC,a3,al,hw,hq⟩;refine⟨J,λar A outer s hr=>⟨_,(ai (aW (aE oH (pv 2) dN<|aH _) (aq<|aJ<|pv 1) aP)
   (ai (psS 4 gV.nd uv)
   (ai (cR ajd J (ck<|d7 fY (pv 0) (dD<|pv 2)<|dD<|pv 3) (pgN 5 gV.nd)
   (aq (cR ajd J (ck<|pv 5) (lY J<|bS (pgN 6 gV.nd)<|bS (pgN 7 gV.nd) gD)
   (aq<|oG (kh hr) (pv 4) (pv 6) nh J))))
   (aq<|aJ<|aL Fi o9 T.bE aiT<|aa (pv 4) ah)))),?_⟩⟩
 dsimp only[aX];rcases hq with⟨rfl,q⟩|⟨b,e,rfl,rfl,am,ag,q⟩
 .exact gz (λQb hq=>{1,J,1,by rwa[aiS rfl]}) {1,q}
 refine gK (λQb hq=>{1,J,1,hq}) ?_;unfold p8;dsimp only;let⟨p,a7,an,a4⟩:=hC.ex;intro he m;refine aU [t8 cl,t9 ↥wd,t9 ↥b,t9 ↥e,t8 he,Z0,Z0,Z0] ?_;dsimp only;refine bR (λσ' H'=>∃(O l h:nt V)(g:fy (Key×V)),σ'=[t8 cl,t9 ↥wd,t9 ↥b,t9 ↥e,t8 he,O,l,h]/\aj H H'/\H' he=some (.dK g)/\cz g (λk=>iF (cP c) ↥b ↥e k)) (λN hN=>?_) ?_
 .let s0:aj H (Z9 H he<|.dK []):=aj.new m;let g0:Z9 H he (.dK []) he=some (.dK []):=af;generalize Z9 H he (.dK [])=H0 at s0 g0 ⊢;refine{2,2,1,cl,1,X0.of<|s0 _ _ a7,λC B=>?_};let a1:cS (p.map V.ref) (some ↥b) (some ↥e) =((p.drop b).take (e-b)).map V.ref:=by unfold cS;rw[HT.gZ,HT.gZ,aiE,show min b p.length=b by omega,show min e p.length=e by omega,anf,List.map_drop]
  rw[a1];let s1:aj H0 (Z9 H0 C (.lst (((p.drop b).take (e-b)).map V.ref))):=aj.new B;let g1:Z9 H0 C (.lst (((p.drop b).take (e-b)).map V.ref)) C=some (.lst (((p.drop b).take (e-b)).map V.ref)):=af;let a2:=s1 _ _ g0;let ab:C≠he:=λz=>by rw[z,g0] at B;cases B
  let n:=s0.trans s1;generalize Z9 H0 C (.lst (((p.drop b).take (e-b)).map V.ref))=H1 at s1 g1 a2 n ⊢;refine{C,J,{_,X0.of g1},gw (K:=K) (a:=C) (xs:=((p.drop b).take (e-b)).map V.ref) (λi σ' H'=>∃(O l h:nt V)(g:fy (Key×V)),σ'=[t8 cl,t9 ↥wd,t9 ↥b,t9 ↥e,t8 he,O,l,h]/\aV [he] H1 H'/\H' he=some (.dK g)/\cz g (λk=>iF (cP c) ↥b ((b+i:Z5):Z4) k)) {Z0,Z0,Z0,[],J,aV.refl,a2,cz.iff cz.nil λk=>{λz=>z.elim,λ⟨dd,_,h1,h2,_⟩=>by omega}} (λ i σ' H' _ ⟨_,_,_,_,_,k,_⟩=>X0.of<|k _ _ g1 (⇑ab)) ?_ ?_}
  .rintro i v σ' H2 hi ⟨O,l,h,g,rfl,k2,h2,Y⟩;rw[aiR] at hi;let⟨pa,S,rfl⟩:=aja.mp hi;let a6:i<e-b:=by let:=(aiH.mp S).1;rw[aiV] at this;omega
   rw[anD,aiN a6,alb] at S;obtain⟨cs,U⟩:∃cs,c[b+i]?=some cs:={_,aiG o6};let⟨L,hL,a0⟩:=a4 _ _ _ S U;let ac:=k2 _ _ (n _ _ hL) (λz=>by rw[ai7.mp z,m] at hL;cases hL);let y:=a3 cs<|aiQ U;let a5:(cP c)[b+1+i]?=some (cs.map Prod.fst):=by unfold cP;rw[show b+1+i =(b+i)+1 by omega,amA,aiR,U];rfl
   refine aU [t8 cl,t9 ↥wd,t9 ↥b,t9 ↥e,t8 he,t8 pa,l,h] ?_;dsimp only;refine{1,pa,J,{_,X0.of ac},gw (K:=K) (a:=pa) (xs:=L) (λj σ' H'=>∃(l h:nt V)(g:fy (Key×V)),σ'=[t8 cl,t9 ↥wd,t9 ↥b,t9 ↥e,t8 he,t8 pa,l,h]/\aV [he] H1 H'/\H' he=some (.dK g)/\cz g (λk=>iF (cP c) ↥b ((b+i:Z5):Z4) k∨k∈(cs.take j).map Prod.fst)) {l,h,g,J,k2,h2,cz.iff Y λk=>by simp} (λ j σ' H' _ ⟨_,_,_,_,k,_⟩=>X0.of<|k _ _ (n _ _ hL) λz=>by rw[ai7.mp z,m] at hL;cases hL) ?_ ?_}
   .rintro j v σ' H3 hj ⟨l,h,g,rfl,k3,h3,SB⟩;let⟨t,r,rfl,e2,e3⟩:=a0.get j v hj;let a9:=k3 _ _ (n _ _ e3) (λz=>by rw[ai7.mp z,m] at e3;cases e3);let hr:=y.2 r<|aiQ e2;let ae:=QF SB (wd:=wd) λx u=>by
     rcases u with u|u
     .exact CJ (QE hw a3) u
     .let⟨r',h1,rfl⟩:=aje.mp u;let:=y.2 r'<|am9 h1;exact⟨this.1,this.2.1⟩
    exists t,1,X3.of a9,J,_,1,3;exists 2,he,1,jO.k (k:=Sum.inl r.1) h3<|aF o6;refine{_,_,1,λx o ex u=>by rw[ak (⇑u)];exact k3 x o ex u,af,cz.iff (cz.put SB r.1<|.bl Z1) λk=>?_};rw[ai1,e2];simp[or_assoc]
   .rintro σ' H3 ⟨l,h,g,rfl,k3,h3,SB⟩;refine{_,l,h,g,J,k3,h3,cz.iff SB λk=>?_};rw[a0.len,ai8,IG a5 k]
  .rintro σ' H2 ⟨O,l,h,g,rfl,k2,h2,Y⟩;rw[aiE,aiV,alC,show b+min (e-b) (p.length-b)=e by omega] at Y;refine hN _ _ {O,l,h,g,J,λx o ex=>k2 _ _ (n _ _ ex) (λz=>by rw[ai7.mp z,m] at ex;cases ex),h2,Y}
 rintro σ H1 ⟨O,l,h,g,rfl,s1,a8,Y⟩;exact{1,he,g,J,a8,q _ _ (cz.wr Y) s1}
include T in
theorem Ae{f:jl}{fd:q9}(F:Fun K "_law_base" "_law_base" nG f fd):⋯ 1 f fd ["_law_choices","_law_head"] (sj K):=by
 refine F.okY jj ?_;rintro vs H Q E ⟨c,ws,w,rfl,p,h10,q⟩;refine⟨J,λB A outer s L=>⟨_,(ai (psS 2 jj.nd dN)
   (ai (cR ajd J (eK J T.eO<|aa (aL aK o9 T.bE aiT<|aa (pv 0) ah) ah) (pgN 3 jj.nd)
   (aq<|aW (PW.pt<|pw_or (PW.pt<|pw_and (aE bL (pv 1) aN<|aH _)<|pw_and1<|aE bL (aQ aT (pv 0) (pv 3) λ_ _=>rfl) aN<|aH _)<|pw_or1<|PW.pt<|pw_and (aE bL (pv 1) aN<|aH _)<|pw_and1<|aE pL (aQ aT (pv 0) (pv 3) λ_ _=>rfl) aN<|aH _) (aq<|psS 2 jj.nd<|pv 3) aP))
   (aq<|aJ<|pv 2))),?_⟩⟩
 dsimp only[aX];refine aU [t8 c,some<|.str w,some .non,Z0] ?_;dsimp only;refine bR (λσ H'=>∃l,σ=[t8 c,some<|.str w,some<|gJ ws w,l]/\H'=H) (λN y=>?_) ?_
 .refine{1,c,1,.inl p,↥ws.length,by rw[aiE],o6,o6,fE (lo:=0) (n:=(↥ws.length).toNat) (λi σ H'=>∃l,σ=[t8 c,some<|.str w,some<|gJ (ws.take i) w,l]/\H'=H) {Z0,by unfold gJ;split <;>(try split) <;> rfl,J} ?_ ?_}
  .rintro i σ H1 hi ⟨l,rfl,rfl⟩;let o:i<ws.length:=by omega
   let e:ws[i]?=some ws[i]:=aiG o;generalize ws[i]=x at e;refine aU [t8 c,some<|.str w,some<|gJ (ws.take i) w,t9<|0 +↥i] ?_;rw[amw];dsimp only;let m:atI (ws.map V.str) ↥i=some (V.str x):=bx (by rw[aiR,e];rfl);let u:ws.take (i+1)=ws.take i++[x]:=by rw[ai1,e];rfl
   let t:(ws.take i).length=i:=by rw[aiV];omega
   refine kJ (decide ((w=wS/\x=wW)∨(w=wL/\x≠wN))) (λH'=>H'=H1) (λC g=>?_) (λh H' r=>?_) λh H' r=>?_
   .exists 1,J,1;let b:wS≠wL:=by decide +kernel
    by_cases j:w=wS
    .rw[aiS (show V.str w=V.str wS by rw[j])];refine fS ?_;exists 2,c,_,↥i,.str x,J,J,p,m,J,1;by_cases a:x=wW
     .rw[aiS (show V.str x=V.str wW by rw[a])];rw[aiS<|.inl ⟨j,a⟩] at g;exact fS<|g _ J
     .rw[aiX (show ¬V.str x=V.str wW from λz=>a<|V.str.inj z)];rw[aiX λz=>by rcases z with z|z;exact a z.2;exact b<|j.symm.trans z.1] at g;refine fR ?_;exists 1,J,1;rw[aiX (show ¬V.str w=V.str wL from λz=>b<|j.symm.trans<|V.str.inj z)];exact fR<|g _ J
    .rw[aiX (show ¬V.str w=V.str wS from λz=>j<|V.str.inj z)];refine fR ?_;show if Z2=Z1 then _ else _
     refine fR ?_;exists 1,J,1;by_cases a:w=wL
     .rw[aiS (show V.str w=V.str wL by rw[a])];refine fS ?_;exists 2,c,_,↥i,.str x,J,J,p,m,J,1;let v:(!decide (V.str x=V.str wN))=decide ((w=wS/\x=wW)∨(w=wL/\x≠wN)):=by simp[j,a,b.symm]
      rw[v];exact g _ J
     .rw[aiX (show ¬V.str w=V.str wL from λz=>a<|V.str.inj z)];rw[aiX λz=>by rcases z with z|z;exact j z.1;exact a z.1] at g;exact fR<|g _ J
   .subst r;exists 1;refine aU [t8 c,some<|.str w,t9 ↥i,t9 ↥i] ?_;refine{some<|.int ↥i,?_,J};rw[u,wK,aiN<|ajn h,t]
   .subst r;refine{some<|.int ↥i,?_,J};rw[u,wK,aiJ<|akL h]
  .rintro σ H1 ⟨l,rfl,rfl⟩;rw[show(↥ws.length).toNat=ws.length by omega,ai8];exact y _ _ ⟨l,J,J⟩
 rintro σ H1 ⟨l,rfl,rfl⟩;exact{1,q}
variable(j6:bh "_law_base" 1 ["_law_choices","_law_head"] (sj K))
variable(kj:bh "_law_size" 1 ["_law_changes_here","_law_wide","_law_base_here","_law_day"] su)
include T j6 kj in
theorem A3{f:jl}{fd:q9}(F:Fun K "_law_cost" "_law_cost" nM f fd):⋯ 2 f fd ["_law_changes_here","_law_wide","_law_begin","_law_choices","_law_weights_here","_law_rates_here"] (qH K):=by
 refine F.okY bX ?_;rintro vs H Q E ⟨cl,c,m,j,wd,C6,v,ws,C1,C0,r0,r1,r2,r3,rfl,hC,as,a9,hw,U,hV,hl,hb,ab,r,L,hz,q⟩;refine⟨J,λaw A outer s hr=>⟨_,(ai (psS 6 bX.nd au)
   (ai (psS 7 bX.nd<|bI ah)
   (ai (cR ajd J (eK J T.eO<|aa (aL aK o9 T.bE aiT<|aa (pv 3) ah) ah) (pgN 8 bX.nd)
   (ai (psS 9 bX.nd au)
   (ai (aW (aE pL (aQ aT (pv 3) (pv 8) λ_ _=>rfl) aN<|aH _) (ai (psS 10 bX.nd<|pcS j6 az hr<|aa (d7 fY (pv 3) ig<|dD<|pv 8)<|aa (aQ aT (pv 3) (pv 8) λ_ _=>rfl) ah)
   (ai (aW (aE oH (pv 10) dN<|aH _) (aq<|psS 11 bX.nd<|pv 1) (ai (psS 11 bX.nd<|pcS kj az hr<|aa (pv 0)<|aa (pv 1)<|aa (aB bf (pv 2)<|pv 10)<|aa (aB bf (pv 2)<|pv 8) ah)
   (aq<|psS 9 bX.nd<|aQ aT (pv 7) (pv 10) λ_ _=>rfl)))
   (ai (psS 9 bX.nd<|aB bf (aB bf (pv 9)<|aQ aT (pv 5) au λ_ _=>rfl)<|aB eX (aQ aT (pv 5) au λ_ _=>rfl)<|pv 11)
   (ai (psS 6 bX.nd<|aB bf (pv 6)<|aB eX (aB bf (aQ aT (pv 5) au λ_ _=>rfl)<|aB eX (aQ aT (pv 5) au λ_ _=>rfl)<|aB mJ (aL aK o9 T.bE aiT<|aa (pv 3) ah)<|pv 8)<|pv 11)
   (aq<|psS 6 bX.nd<|aB bf (pv 6)<|aB eX (aQ aT (pv 4) (pv 8) λ_ _=>rfl)<|pv 9))))) aP)
   (aq<|aY<|cK ai6 ajf ajg cC (pv 7)<|aa (pv 9) ah))))
   (aq<|aJ<|pv 6)))),?_⟩⟩
 dsimp only[aX];let n7:=L.n7;let aS:=L.nw;refine aU [t8 cl,t9 ↥wd,t9 ↥C6,t8 c,t8 m,t8 j,t9 0,Z0,Z0,Z0,Z0,Z0] ?_;dsimp only;refine{ajc _,λl a2=>?_};let s0:aj H (Z9 H l (.lst [])):=aj.new a2;let g0:Z9 H l (.lst []) l=some (.lst []):=af;refine aU [t8 cl,t9 ↥wd,t9 ↥C6,t8 c,t8 m,t8 j,t9 0,t8 l,Z0,Z0,Z0,Z0] ?_;dsimp only;change oh _ _ _ _ (Z9 H l<|.lst []);generalize Z9 H l (.lst [])=H0 at s0 g0 ⊢;refine bR (λσ H'=>∃(a:Z4)(C u h g:nt V),σ=[t8 cl,t9 ↥wd,t9 ↥C6,t8 c,t8 m,t8 j,t9 a,t8 l,C,u,h,g]/\a=sumTo (bA C1 C0 r0 r1 r2 r3 ws) ws.length/\H' l=some (.lst<|((List.range ws.length).map<|wyC C1 r2 r3 ws).map Z8)/\aj H H') (λN hN=>?_) ?_
 .refine{1,c,1,.inl<|s0.seq U,↥ws.length,by rw[aiE],o6,o6,fE (lo:=0) (n:=(↥ws.length).toNat) (λi σ H'=>∃(a:Z4)(C u h g:nt V),σ=[t8 cl,t9 ↥wd,t9 ↥C6,t8 c,t8 m,t8 j,t9 a,t8 l,C,u,h,g]/\a=sumTo (bA C1 C0 r0 r1 r2 r3 ws) i/\H' l=some (.lst<|((List.range i).map<|wyC C1 r2 r3 ws).map Z8)/\aj H H') {(0),Z0,Z0,Z0,Z0,J,J,g0,s0} ?_ ?_}
  .rintro i σ H1 hi ⟨a,C,u,h,g,rfl,a5,h1,s1⟩;let al:i<ws.length:=by omega
   let e:ws[i]?=some ws[i]:=aiG al;generalize ws[i]=x at e;let S:atI (ws.map V.str) ↥i=some (V.str x):=bx (by rw[aiR,e];rfl);refine aU [t8 cl,t9 ↥wd,t9 ↥C6,t8 c,t8 m,t8 j,t9 a,t8 l,t9<|0 +↥i,u,h,g] ?_;rw[amw];dsimp only;refine aU [t8 cl,t9 ↥wd,t9 ↥C6,t8 c,t8 m,t8 j,t9 a,t8 l,t9 ↥i,t9 0,h,g] ?_;dsimp only;refine bR (λσ H'=>∃(h g:nt V),σ=[t8 cl,t9 ↥wd,t9 ↥C6,t8 c,t8 m,t8 j,t9<|sumTo (bA C1 C0 r0 r1 r2 r3 ws) (i+1),t8 l,t9 ↥i,t9<|wyC C1 r2 r3 ws i,h,g]/\H' l=H1 l/\aj H H') (λN2 a0=>?_) ?_
   .by_cases B:x=wN
    .let w0:wyC C1 r2 r3 ws i=0:=by unfold wyC;rw[e,aiN (by rw[B])]
     let c0:bA C1 C0 r0 r1 r2 r3 ws i=0:=by unfold bA;rw[e,aiN (by rw[B])]
     refine gK (λQb y=>{2,c,_,↥i,.str x,J,J,s1.seq U,S,J,1,by rw[aiS (show V.str x=V.str wN by rw[B])];exact y}) ?_;exact a0 _ _ {h,g,by rw[w0,show sumTo (bA C1 C0 r0 r1 r2 r3 ws) (i+1)=a by rw[a5];show _+bA _ _ _ _ _ _ _ i=_;rw[c0];omega],J,s1}
    .refine gz (λQb y=>{2,c,_,↥i,.str x,J,J,s1.seq U,S,J,1,by rwa[aiX (show ¬V.str x=V.str wN from λz=>B<|V.str.inj z)]}) ?_;refine{2,1,c,1,s1.seq U,λt O=>?_};let a4:cS (ws.map V.str) Z0 (some ↥i) =(ws.take i).map V.str:=by unfold cS;simp[HT.gZ,HT.jY,show min i ws.length=i by omega,List.map_take]
     rw[a4];let s2:=s1.trans<|aj.new O (o:=.lst<|(ws.take i).map V.str);let e2:Z9 H1 t (.lst ((ws.take i).map V.str)) t=some (.lst ((ws.take i).map V.str)):=af;let e3:=aj.new O (o:=.lst<|(ws.take i).map V.str) _ _ h1;generalize Z9 H1 t (.lst ((ws.take i).map V.str))=H2 at s2 e2 e3 ⊢;exists 2,c,_,↥i,.str x,J,J,s2.seq U,S,t,ws.take i,x,J,X0.of e2,(by rw[aiV];omega);let a8:=Ii hV e B;generalize gJ (ws.take i) x=Y at a8 ⊢;refine aU [t8 cl,t9 ↥wd,t9 ↥C6,t8 c,t8 m,t8 j,t9 a,t8 l,t9 ↥i,t9 0,some Y,g] ?_;dsimp only;let hd:i<C1.length:=by omega
     refine bR (λσ H'=>σ=[t8 cl,t9 ↥wd,t9 ↥C6,t8 c,t8 m,t8 j,t9 a,t8 l,t9 ↥i,t9<|gm C1 r2 r3 ws<|bB ws i,some Y,t9<|szD C1 ws i]/\aj H2 H') (λN3 a6=>?_) ?_
     .rcases a8 with⟨rfl,p⟩|⟨k,rfl,p,ac⟩
      .refine gz (λQb y=>{1,J,1,by rwa[aiS rfl]}) ?_;refine{1,aU [t8 cl,t9 ↥wd,t9 ↥C6,t8 c,t8 m,t8 j,t9 a,t8 l,t9 ↥i,t9 0,some .non,t9 ↥wd]<|a6 _ _ {?_,aj.refl _}};rw[p,yp,K1 hz hd (n:=wd) {λ_=>rfl,λz=>absurd p z}]
      .refine gK (λQb y=>{1,J,1,y}) ?_;let ag:Kept ws k:=by
        rcases iG ws i with z|⟨k',z1,_,z2⟩
        .omega
        .let:k'=k:=by omega
         rwa[←this]
       refine{2,2,3,2,3,cl,wd,_,_,v,J,hC.same s2,as,a9,hw,.inr {C6+k,C6+i,by rw[akM],by rw[akM],o6,o6,λn H3 hn s3=>?_}};refine aU [t8 cl,t9 ↥wd,t9 ↥C6,t8 c,t8 m,t8 j,t9 a,t8 l,t9 ↥i,t9 0,t9 ↥k,t9 ↥n] ?_;dsimp only;let am:WC wd (cP v) ↥C6 (bB ws i) i n:={λz=>by omega,λ_=>by rw[p];rwa[akM,akM] at hn};let hsz:=K1 hz hd am;exists 2,l,_,↥k,.int<|wyC C1 r2 r3 ws k,J,J,X0.of<|s3 _ _ e3,bx (by rw[aiR,aiR,ank ac];rfl);refine aU [t8 cl,t9 ↥wd,t9 ↥C6,t8 c,t8 m,t8 j,t9 a,t8 l,t9 ↥i,t9<|wyC C1 r2 r3 ws k,t9 ↥k,t9 ↥n]<|a6 _ _ {?_,s3};let⟨w,w1,w2⟩:=ag;rw[hsz,p,m7,show wyC C1 r2 r3 ws k=cI C1 r2 r3 ws k by unfold wyC;rw[w1,aiJ λz=>w2<|aiY z]]
     rintro σ H3 ⟨rfl,s3⟩;let s4:=s2.trans s3;let a1:=L.b3 r1 o8;let a3:=L.b3 r3 o8;let z0:=L.sz0 ws i;let z1:=L.sz1 ws i;let a7:C0[i]?=some (C0.getD i 0):=by rw[ai2,aiG o6];rfl
     let ax:=L.b2 _<|aiQ a7;exists 2,j,_,(2),.int r2,J,J,X0.of<|s4 _ _ r,J,3,1,j,_,(3),.int r3,J,J,X0.of<|s4 _ _ r,J,1,3,.inl ⟨o6,o6⟩,3;let an:gm C1 r2 r3 ws (bB ws i)+r2+r3*szD C1 ws i=cI C1 r2 r3 ws i:=by rw[ym];omega
     rw[an];refine aU [t8 cl,t9 ↥wd,t9 ↥C6,t8 c,t8 m,t8 j,t9 a,t8 l,t9 ↥i,t9<|cI C1 r2 r3 ws i,some Y,t9<|szD C1 ws i] ?_;dsimp only;exists 2,j,_,(0),.int r0,J,J,X0.of<|s4 _ _ r,J,1,j,_,(1),.int r1,J,J,X0.of<|s4 _ _ r,J,1,c,1,.inl<|s4.seq U,1,3,3,.inl ⟨o6,o6⟩,3,1,3,.inr ⟨o6,o6⟩,3;rw[aiE];refine aU [t8 cl,t9 ↥wd,t9 ↥C6,t8 c,t8 m,t8 j,some<|.int<|a +(r0+r1*(↥ws.length -↥i))*szD C1 ws i,t8 l,t9 ↥i,t9<|cI C1 r2 r3 ws i,some Y,t9<|szD C1 ws i] ?_;dsimp only;exists 2,1,m,_,↥i,.int<|C0.getD i 0,J,J,X0.of<|s4 _ _ ab,bx (by rw[aiR,a7];rfl),1,3,.inl ⟨o6,o6⟩,3;refine aU [t8 cl,t9 ↥wd,t9 ↥C6,t8 c,t8 m,t8 j,some<|.int<|a +(r0+r1*(↥ws.length -↥i))*szD C1 ws i+C0.getD i 0*cI C1 r2 r3 ws i,t8 l,t9 ↥i,t9<|cI C1 r2 r3 ws i,some Y,t9<|szD C1 ws i] ?_;let ae:bA C1 C0 r0 r1 r2 r3 ws i =(r0+r1*(↥ws.length -↥i))*szD C1 ws i+C0.getD i 0*cI C1 r2 r3 ws i:=by unfold bA;rw[e,aiJ λz=>B<|aiY z,hl]
     let ar:wyC C1 r2 r3 ws i=cI C1 r2 r3 ws i:=by unfold wyC;rw[e,aiJ λz=>B<|aiY z]
     refine a0 _ _ {some Y,t9<|szD C1 ws i,?_,?_,s4}
     .rw[ar,show sumTo (bA C1 C0 r0 r1 r2 r3 ws) (i+1)=a +(r0+r1*(↥ws.length -↥i))*szD C1 ws i+C0.getD i 0*cI C1 r2 r3 ws i by rw[a5];show _+bA _ _ _ _ _ _ _ i=_;rw[ae];omega]
     .rw[s3 _ _ e3,h1]
   rintro σ H2 ⟨h,g,rfl,h2,s2⟩;rw[h1] at h2;exists 1,.inl {J,_,X0.of h2},1,l,3,h2,aF (by rw[aiE,aiE,amd];omega);refine{_,_,_,3,?_,λb o ex=>by rw[ak<|ao ex a2];exact s2 b o ex};rw[af,akK,ajb,ajb];rfl
  .rintro σ H1 ⟨a,C,u,h,g,rfl,O,h1,s1⟩;rw[show(↥ws.length).toNat=ws.length by omega] at O h1;exact hN _ _ ⟨a,C,u,h,g,J,O,h1,s1⟩
 rintro σ H1 ⟨a,C,u,h,g,rfl,O,h1,s1⟩;rw[O];exact{1,q _ s1}
variable(dF:bh "_law_allowed" 1 ["_law_choices","_law_weights_here"] (mL K))
include T dF in
theorem AX{f:jl}{fd:q9}(F:Fun K "_law_read" "_law_read" nR f fd):⋯ 2 f fd ["_law_told","_law_weights_here"] (rP):=by
 refine F.okY gT ?_;rintro vs H Q E ⟨a,C0,x,rfl,r,hl,n1,n7,hx,O,g,q⟩;refine⟨J,λab A outer s hr=>⟨_,(ai (aW (mP<|oU<|aL oj o9 T.AS PyProof.Rows.boot_isinstance<|aa (pv 0)<|aa (Qe (v:=.ty "str") J T.m8 ajK J) ah) (aq<|aJ dN) aP)
   (ai (psS 2 gT.nd<|cK ajG aki akj mK (pv 0)<|aa aN ah)
   (ai (psS 3 gT.nd<|aQ aT (pv 2) (qv mZ au) λ_ _=>rfl)
   (ai (aW (PW.pt<|pw_or (aE pL (aL aK o9 T.bE aiT<|aa (pv 2) ah) (aB bf (aL aK o9 T.bE aiT<|aa (pv 1) ah) au)<|aH _)<|pw_or1<|mP<|HW vR vR au (aL m6 o9 T.bE aiT<|aa (pv 3) ah) au) (aq<|aJ dN) aP)
   (ai (cR ajd J (Gx<|pv 3) (pgN 4 gT.nd)
   (aq<|aW (aE zN (pv 4) aN (by with_unfolding_all rfl)) (aq<|aJ dN) aP))
   (ai (aW (aE pL (bF eZ o9 T.m8 ajK<|aa (bF gP o9 T.vN akv<|aa (pv 3) ah) ah) (pv 3)<|aH _) (aq<|aJ dN) aP)
   (ai (cR ajd J (eK J T.eO<|aa (aL aK o9 T.bE aiT<|aa (pv 1) ah) ah) (pgN 5 gT.nd)
   (aq<|aW (aE AW (aQ aT (pv 2) (pv 5) λ_ _=>rfl) (pcS dF az hr<|aa (d7 fY (pv 2) ig<|dD<|pv 5)<|aa (pv 1) ah) (by with_unfolding_all rfl)) (aq<|aJ dN) aP))
   (aq<|aJ<|fh<|aa (d7 fY (pv 2) ig<|dD<|qv mZ au)<|aa (bF gP o9 T.vN akv<|aa (pv 3) ah) ah)))))))),?_⟩⟩
 dsimp only[aX];let B:=hx.wd;obtain⟨z,hz⟩:∃z,dI x=z:={1};obtain⟨f,S⟩:∃f,bG x.2=f:={1};let a9:Txt.split z (Str.ofString " ")=x.1++[f]:=by rw[←hz,←S];exact DZ B O
 let a7:z.length≤100000:=by rw[←hz];exact HQ B o6 O g
 let ac:1≤f.length:=by rw[←S];exact qd O
 let a1:f.length≤60:=by rw[←S];exact aj6 O o7 g
 let a5:∀ c∈f.cps.toList,48≤c/\c≤57:=by rw[←S];exact jB O
 let a4:intText? f=some x.2:=by rw[←S];exact EC O g
 rw[hz];refine gK (λU j=>{1,_,_,_,_,Z1,J,J,.str _,J,1,j}) ?_;unfold p8;dsimp only;refine{1,J,z,Str.ofString " ",J,J,o4,a7,λp hp=>?_};rw[a9];let Y:aj H (Z9 H p (.lst ((x.1++[f]).map V.str))):=aj.new hp;let g0:Z9 H p (.lst ((x.1++[f]).map V.str)) p=some (.lst ((x.1++[f]).map V.str)):=af;generalize Z9 H p (.lst ((x.1++[f]).map V.str))=H0 at Y g0 ⊢;refine aU [some<|.str z,t8 a,t8 p,Z0,Z0,Z0] ?_;dsimp only;exists 2,p,_,-1,.str f,J,J,X0.of g0,F5 o8;refine aU [some<|.str z,t8 a,t8 p,some<|.str f,Z0,Z0] ?_;dsimp only;refine bR (λσ H'=>σ=[some<|.str z,t8 a,t8 p,some<|.str f,Z0,Z0]/\H'=H0) (λN u=>?_) ?_
 .refine kJ Z2 (λH'=>H'=H0) (λU j=>?_) nofun (λ_ H' s=>u _ _ ⟨J,s⟩);exists 1,p,1,.inl<|X0.of g0,1,a,1,.inl<|X0.of<|Y _ _ r,3,J,1;rw[aiS (show V.int (((x.1++[f]).map V.str).length:Z4)=V.int (((C0.map Z8).length:Z4)+1) by rw[aiE,aiE,aji,hl];rfl)];refine fR ?_;refine{1,f,J,ai9 a1 o7,3,1,dW o6 {3,1,?_}};rw[aiS (show↥f.length≤60 by omega)];exact j _ J
 rintro σ H1 ⟨rfl,rfl⟩;refine bR (λσ H'=>∃m,σ=[some<|.str z,t8 a,t8 p,some<|.str f,m,Z0]/\H'=H1) (λN u=>?_) ?_
 .refine{1,f,J,QK (x:=f) (λi σ H'=>∃m,σ=[some<|.str z,t8 a,t8 p,some<|.str f,m,Z0]/\H'=H1) ⟨Z0,J,J⟩ ?_ ?_}
  .rintro i c σ H2 hi ⟨v,rfl,rfl⟩;let a6:f.cps.toList[i]?=some c:=⇑hi
   let hc:=a5 c<|aiQ a6;refine gK (λU j=>{1,3,1,?_}) {1,J};show U (!nQ c) H2;rwa[CI hc]
  .rintro σ H2 ⟨v,rfl,rfl⟩;exact u _ _ ⟨v,J,J⟩
 rintro σ H2 ⟨m,rfl,rfl⟩;refine bR (λσ H'=>σ=[some<|.str z,t8 a,t8 p,some<|.str f,m,Z0]/\H'=H2) (λN u=>?_) ?_
 .refine kJ Z2 (λH'=>H'=H2) (λU j=>?_) nofun (λ_ H' s=>u _ _ ⟨J,s⟩);exists 1,f,x.2,J,a4,o6,x.2,J,LZ O g,1,J,1;rw[aiS (show V.str (toString x.2)=V.str f by rw[←S];rfl)];exact j _ J
 rintro σ H3 ⟨rfl,rfl⟩;refine bR (λσ H'=>∃C,σ=[some<|.str z,t8 a,t8 p,some<|.str f,m,C]/\aj H3 H') (λN u=>?_) ?_
 .refine{1,a,1,.inl<|X0.of<|Y _ _ r,↥C0.length,by rw[aiE],o6,o6,fE (lo:=0) (n:=(↥C0.length).toNat) (λi σ H'=>∃C,σ=[some<|.str z,t8 a,t8 p,some<|.str f,m,C]/\aj H3 H') {Z0,J,aj.refl _} ?_ ?_}
  .rintro i σ L hi ⟨C,rfl,s4⟩;let a2:i<x.1.length:=by omega
   let e:x.1[i]?=some x.1[i]:=aiG a2;generalize x.1[i]=w at e;let e2:(x.1++[f])[i]?=some w:=by rwa[aiM a2]
   let⟨wt,a3,hw⟩:=jr<|hx i w e;rw[aiV,show min i x.1.length=i by omega] at a3;refine aU [some<|.str z,t8 a,t8 p,some<|.str f,m,t9<|0 +↥i] ?_;rw[amw];dsimp only;refine kJ Z2 (λH'=>aj L H') (λU j=>?_) nofun λ_ H' s=>{1,s4.trans s};refine{2,p,_,↥i,.str w,J,J,X0.of<|s4 _ _ g0,bx (by rw[aiR,e2];rfl),2,1,p,1,X0.of<|s4 _ _ g0,λt ht=>?_};let b:cS ((x.1++[f]).map V.str) Z0 (some ↥i) =(x.1.take i).map V.str:=by unfold cS;simp[HT.gZ,HT.jY,show min i (x.1.length+1)=i by omega,List.map_take];rw[ajX (by simp;omega)]
   rw[b];let s5:=aj.new ht (o:=.lst<|(x.1.take i).map V.str);let e5:Z9 L t (.lst ((x.1.take i).map V.str)) t=some (.lst ((x.1.take i).map V.str)):=af;generalize Z9 L t (.lst ((x.1.take i).map V.str))=H5 at s5 e5 ⊢;refine{1,t,a,x.1.take i,C0,wt,J,X0.of e5,by rw[aiV];omega,λy hy=>B y<|am9 hy,s5 _ _<|s4 _ _<|Y _ _ r,by rwa[aiV,show min i x.1.length=i by omega],λl H6 a8 _ s6=>?_};exists l,1,.inl<|X0.of a8,J,kE _,1;rw[aiN J,Cd,aiS hw];exact j _<|s5.trans s6
  .rintro σ L ⟨C,rfl,s4⟩;exact u _ _ ⟨C,J,s4⟩
 rintro σ L ⟨C,rfl,s4⟩;refine{2,1,p,1,X0.of<|s4 _ _ g0,λt ht=>?_};let b:cS ((x.1++[f]).map V.str) Z0 (some (-1))=x.1.map V.str:=by unfold cS;simp[HT.sIx,HT.jY,List.map_append];rw[show(-1 +(↥x.1.length+1)).toNat =(x.1.map V.str).length by rw[aiE];omega,List.take_left]
 rw[b];let s5:=aj.new ht (o:=.lst<|x.1.map V.str);let e5:Z9 L t (.lst (x.1.map V.str)) t=some (.lst (x.1.map V.str)):=af;generalize Z9 L t (.lst (x.1.map V.str))=H5 at s5 e5 ⊢;refine{1,f,x.2,J,a4,o6,v9,λt2 a0=>?_};exact q t2 t _ af (aj.new a0 _ _ e5)<|Y.trans<|s4.trans<|s5.trans<|aj.new a0
include T in
theorem y9{f:jl}{fd:q9}(F:Fun K "_law_ahead" "_law_ahead" mG f fd):⋯ 1 f fd ["_law_choices","_law_others"] (qo K):=by
 refine F.okY iK ?_;rintro vs H Q E ⟨a,c,ws,us,rfl,U,S,hl,h10,hw,hu,q⟩;refine⟨J,λa0 A outer s Y=>⟨_,(ai (qW (i:=2) iK.nd J (Or.inr J)<|bI<|aa aN<|aa aN<|aa aN<|aa aN ah)
   (ai (ia (i:=3) iK.nd J (Or.inl J) (N:=["_law_head","_law_order"]) (k:=1) (cap:=[2]) J J (ck<|pv 0) (λ_ _ _ _=>(pgN 0 (show(["_law_head","_law_order"]:fy Z6).Nodup from by decide +kernel)<|.inr J)) (λ_ _ _ _=>cg) λ_ _ _ _=>(EU (K:=K) J ai6 alo amB yz (pv 1)<|aa (pv 0) ah))
   (ai (ia (i:=4) iK.nd J (Or.inl J) (N:=["_law_head","_law_order"]) (k:=1) (cap:=[2]) J J (ck<|pv 1) (λ_ _ _ _=>(pgN 0 (show(["_law_head","_law_order"]:fy Z6).Nodup from by decide +kernel)<|.inr J)) (λ_ _ _ _=>cg) λ_ _ _ _=>(EU (K:=K) J ai6 alo amB yz (pv 1)<|aa (pv 0) ah))
   (aq<|aJ<|fu (abK<|akl (Nat.le_add_right _ 64) Y.units) (pv 3) (pv 4)<|aH _)))),?_⟩⟩
 dsimp only[aX];refine{(by show 4≤Z7;decide),λl r=>?_};let n:aj H (Z9 H l (.lst [.str wN,.str wW,.str wS,.str wL])):=aj.new r;let g0:Z9 H l (.lst [.str wN,.str wW,.str wS,.str wL]) l=some (.lst (([wN,wW,wS,wL]:fy Z6).map V.str)):=af;refine aU [t8 a,t8 c,t8 l,Z0,Z0] ?_;dsimp only;change oh _ _ _ _ (Z9 H l<|.lst [.str wN,.str wW,.str wS,.str wL]);generalize Z9 H l (.lst [.str wN,.str wW,.str wS,.str wL])=H0 at n g0 ⊢;refine bR (λσ H'=>∃d,σ=[t8 a,t8 c,t8 l,t8 d,Z0]/\H' d=some (.lst<|(ws.map rkW).map Z8)/\aj H0 H') (λN t=>?_) ?_
 .refine{1,a,J,{_,n.seq U},λD p=>?_};refine cQ D (K:=K) (a:=a) (xs:=ws.map V.str) (λi σ h ys=>∃(v:nt V),σ=[v,t8 l]/\aj H0 h/\h D=some (.lst ys)/\ys =((ws.take i).map rkW).map Z8) {Z0,J,aj.new p,af,o8} (λi σ h ys _ u=>by let⟨_,_,s5,_⟩:=u;exact s5.seq<|n.seq U) ?_ ?_
  .rintro i x σ h ys hi ⟨v,rfl,s5,m,rfl⟩;obtain⟨y,g,rfl⟩:∃y,ws[i]?=some y/\V.str y=x:=by rw[aiR] at hi;let⟨c,h1,h2⟩:=aja.mp hi;exact⟨c,h1,h2⟩
   let B:=(aiH.mp g).1;let⟨j,O,L,z⟩:=Ar<|hw y<|aiQ g;exists 1,.inl {J,_,X0.of<|s5 _ _ g0},1,l,_,y,j,J,J,s5 _ _ g0,O,L;exists m,by rw[aiE,aiE,aiV];exact aF o6,1,λb o e=>?_,af
   .rw[ak<|ao e p];exact s5 b _ e
   .rw[ai1,g];simp[z]
  .rintro σ h ys ⟨v,rfl,s5,m,rfl⟩;rw[aiE,ai8] at m;exact aU [t8 a,t8 c,t8 l,t8 D,Z0]<|t _ _ ⟨D,J,m,s5⟩
 rintro σ H1 ⟨d,rfl,hd,s1⟩;refine bR (λσ H'=>∃d2,σ=[t8 a,t8 c,t8 l,t8 d,t8 d2]/\H' d2=some (.lst<|(us.map rkW).map Z8)/\aj H1 H') (λN t=>?_) ?_
 .refine{1,c,J,{_,s1.seq<|n.seq S},λD p=>?_};refine cQ D (K:=K) (a:=c) (xs:=us.map V.str) (λi σ h ys=>∃(v:nt V),σ=[v,t8 l]/\aj H1 h/\h D=some (.lst ys)/\ys =((us.take i).map rkW).map Z8) {Z0,J,aj.new p,af,o8} (λi σ h ys _ u=>by let⟨_,_,s5,_⟩:=u;exact s5.seq<|s1.seq<|n.seq S) ?_ ?_
  .rintro i x σ h ys hi ⟨v,rfl,s5,m,rfl⟩;obtain⟨y,g,rfl⟩:∃y,us[i]?=some y/\V.str y=x:=by rw[aiR] at hi;let⟨c,h1,h2⟩:=aja.mp hi;exact⟨c,h1,h2⟩
   let B:=(aiH.mp g).1;let⟨j,O,L,z⟩:=Ar<|hu y<|aiQ g;exists 1,.inl {J,_,X0.of<|s5 _ _<|s1 _ _ g0},1,l,_,y,j,J,J,s5 _ _<|s1 _ _ g0,O,L;exists m,by rw[aiE,aiE,aiV];exact aF o6,1,λb o e=>?_,af
   .rw[ak<|ao e p];exact s5 b _ e
   .rw[ai1,g];simp[z]
  .rintro σ h ys ⟨v,rfl,s5,m,rfl⟩;rw[aiE,ai8] at m;exact aU [t8 a,t8 c,t8 l,t8 d,t8 D]<|t _ _ ⟨D,J,m,s5⟩
 rintro σ H2 ⟨d2,rfl,C,s2⟩;exact{2,d,d2,3,s2 _ _ hd,C,by rw[aiE,aiE,hl],q _<|n.trans<|s1.trans s2}
variable(cW:bh "_law_cell" 1 ["_law_script","_law_k"] (x8 K))
variable(g8:bh "_law_changes" 3 ["_law_cell_here","_law_wide"] mQ)
variable(wk:kF "Desk" bH 8 ["self","wide","seek","each","rules"] (rG bH av aA aD))
variable(er:dM bH "say" 12 ["self","row"] (jQ bH av aA aD aG aI))
variable(jL:bh "_law_rates" 2 ["_law_cell_here"] pA)
variable(gW:bh "_law_weights" 2 ["_law_cell_here","_law_many"] lZ)
variable(ko:bh "_law_read" 2 ["_law_told","_law_weights_here"] rP)
variable(iE:bh "_law_cost" 2 ["_law_changes_here","_law_wide","_law_begin","_law_choices","_law_weights_here","_law_rates_here"] (qH K))
variable(je:bh "_law_ahead" 1 ["_law_choices","_law_others"] (qo K))
include T bz dF cW g8 wk er jL gW ko iE je in
theorem VT{f:jl}{fd:q9}(F:Fun K "law" "law" kB f fd):⋯ 13 f fd ["_law_script"] (oW K):=by
 refine F.okY cG ?_;rintro vs H Q E ⟨a,ns,rfl,hS,eo,q⟩;refine⟨J,λet A outer s U=>⟨_,(ai (psS 1 cG.nd<|pcS cW az U<|aa (pv 0)<|aa au ah)
   (ai (qW (i:=2) cG.nd J (Or.inr J)<|aB bf au<|aB bW (aB gx (pv 1) au)<|aQ aT (bI<|aa au<|aa au ah) (aB bW (pv 1) au) λ_ _=>rfl)
   (ai (psS 3 cG.nd<|aL (nv J) o9 T.wV aku<|aa au<|aa (aL (qR J) o9 T.zu akU<|aa (aB mJ (aL aK o9 T.bE aiT<|aa (pv 0) ah) au)<|aa au ah) ah)
   (ai (ia (i:=4) cG.nd J (Or.inl J) (N:=["_law_k","_law_wide","_law_script"]) (k:=1) (cap:=[2,0]) J J (eK J T.eO<|aa (pv 3) ah) (λ_ _ _ _=>(pgN 0 (show(["_law_k","_law_wide","_law_script"]:fy Z6).Nodup from by decide +kernel)<|.inr J)) (λ_ _ _ _=>cg) λ_ _ _ _=>(pcS g8 az U<|aa (pcS cW az U<|aa (pv 2)<|aa (aB bf au<|pv 0) ah)<|aa (pv 1) ah))
   (ai (psS 5 cG.nd<|iW wk az (U.mono o7) J<|aa (pv 2)<|aa au<|aa au<|aa aN ah)
   (ai (cR ajd J (ck<|pv 4) (pgN 6 cG.nd)
   (ai (aY<|bM (pv 5) T.iY er az (U.mono o7)<|aa (cK ajG alI alJ x6 aN<|aa (aB oO (bI<|aa aN ah)<|dg (N:=["_law_place","_law_block_here"]) (k:=2) (cap:=[]) J J (ck<|pv 6) (λ_ _ _ _=>(sO (K:=K) (n:=2) J J<|bS (pgN 0 (show(["_law_place","_law_block_here"]:fy Z6).Nodup from by decide +kernel)<|.inr J)<|bS (pgN 1 (show(["_law_place","_law_block_here"]:fy Z6).Nodup from by decide +kernel)<|.inr J) gD)) (λ_ _ _ _=>cg) λ_ _ _ _=>(aB vj (aB vj (bF eZ o9 T.m8 ajK<|aa (pv 0) ah) aN)<|bF eZ o9 T.m8 ajK<|aa (pv 1) ah)) ah) ah)
   (aq<|aW (aE bL (aB bW (aL aK o9 T.bE aiT<|aa (pv 6) ah) au) au<|aH _) (aq<|aY<|bM (pv 5) T.iY er az (U.mono o7)<|aa aN ah) aP)))
   (ai (psS 7 cG.nd<|bM (pv 5) T.iY er az (U.mono o7)<|aa aN ah)
   (ai (psS 8 cG.nd<|aB bf au<|aB bW (pcS cW az U<|aa (pv 0)<|aa au ah)<|aL (qR J) o9 T.zu akU<|aa (aQ aT (bI<|aa au<|aa au<|aa au<|aa au ah) (aB bW (aB gx (pv 1) au) au) λ_ _=>rfl)<|aa (aB bf (pv 3) au) ah)
   (ai (psS 9 cG.nd<|aB bW (aB gx (pcS cW az U<|aa (pv 0)<|aa au ah) au)<|aB mJ (aB bf (pv 3) au)<|pv 8)
   (ai (psS 10 cG.nd<|pcS jL az U<|aa (pcS cW az U<|aa (pv 0)<|aa au ah) ah)
   (ai (psS 11 cG.nd<|pcS gW az U<|aa (pcS cW az U<|aa (pv 0)<|aa au ah)<|aa (pv 8) ah)
   (ai (aW (aE jt (pv 8) au<|aH _) (aq<|ia (i:=11) cG.nd J (Or.inl J) (N:=["_law_weight"]) (k:=1) (cap:=[]) J J (ck<|pv 11) (λ_ _ _ _=>(pgN 0 (show(["_law_weight"]:fy Z6).Nodup from by decide +kernel)<|.inr J)) (λ_ _ _ _=>cg) λ_ _ _ _=>(aL (nv J) o9 T.wV aku<|aa au<|aa (pv 0) ah)) aP)
   (ai (psS 12 cG.nd<|aB oO (aB oO (bI<|aa (pv 9) ah)<|pv 10)<|pv 11)
   (ai (psS 13 cG.nd<|cK ajG alI alJ x6 aN<|aa (aB oO (bI<|aa aN ah)<|dg (N:=["_law_number"]) (k:=1) (cap:=[]) J J (ck<|pv 12) (λ_ _ _ _=>(pgN 0 (show(["_law_number"]:fy Z6).Nodup from by decide +kernel)<|.inr J)) (λ_ _ _ _=>cg) λ_ _ _ _=>(bF eZ o9 T.m8 ajK<|aa (pv 0) ah)) ah)
   (ai (psS 14 cG.nd<|bM (pv 5) T.iY er az (U.mono o7)<|aa (pv 13) ah)
   (ai (psS 15 cG.nd<|pcS ko az U<|aa (pv 14)<|aa (pv 11) ah)
   (ai (aW (aE oH (pv 15) dN<|aH _) (aq<|aJ nh) aP)
   (ai (psS 16 cG.nd<|pcS iE az U<|aa (pv 4)<|aa (pv 2)<|aa (pv 9)<|aa (aQ bY (pv 15) au λ_ _=>rfl)<|aa (pv 11)<|aa (pv 10) ah)
   (ai (aW (aE pL (aQ bY (pv 15) au λ_ _=>rfl) (pv 16)<|aH _) (aq<|aJ nh) aP)
   (ai (psS 17 cG.nd<|bI ah)
   (ai (cR ajd J (eK J T.eO<|aa (pv 8) ah) (pgN 18 cG.nd)
   (ai (psS 19 cG.nd<|pcS dF az U<|aa (pv 17)<|aa (pv 11) ah)
   (aq<|aY<|cK ai6 ajf ajg cC (pv 17)<|aa (aQ aT (pv 19) (aB bW (pcS bz az U<|aa (pcS cW az U<|aa (pv 0)<|aa au ah)<|aa (pv 18) ah)<|aL aK o9 T.bE aiT<|aa (pv 19) ah) λ_ _=>rfl) ah)))
   (ai (psS 16 cG.nd<|pcS iE az U<|aa (pv 4)<|aa (pv 2)<|aa (pv 9)<|aa (pv 17)<|aa (pv 11)<|aa (pv 10) ah)
   (ai (aW (aE j7 (pv 16) (aQ bY (pv 15) au λ_ _=>rfl)<|aH _) (aq<|aJ nh) aP)
   (ai (aW (PW.pt<|pw_and (aE bL (pv 16) (aQ bY (pv 15) au λ_ _=>rfl)<|aH _)<|pw_and1<|mP<|oU<|pcS je az U<|aa (aQ bY (pv 15) au λ_ _=>rfl)<|aa (pv 17) ah) (aq<|aJ nh) aP)
   (aq<|aJ<|vG (fu bL (bM (pv 5) T.iY er az (U.mono o7)<|aa (pv 13) ah) (pv 14)<|aH _)<|r8<|fu bL (bM (pv 5) T.iY er az (U.mono o7)<|aa aN ah) (pv 7)<|aH _))))))))))))))))))))))))),?_⟩⟩
 dsimp only[aX];exists 1,a,ns,(0),J,hS;generalize hc0:gp ns ((0:Z5):Z4)=S;refine aU [t8 a,t9 S,Z0,Z0,Z0,Z0,Z0,Z0,Z0,Z0,Z0,Z0,Z0,Z0,Z0,Z0,Z0,Z0,Z0,Z0] ?_;dsimp only;refine bR (λσ H'=>∃wd:Z5,σ=[t8 a,t9 S,t9 ↥wd,Z0,Z0,Z0,Z0,Z0,Z0,Z0,Z0,Z0,Z0,Z0,Z0,Z0,Z0,Z0,Z0,Z0]/\aj H H'/\1≤wd/\wd≤40) (λN O=>?_) ?_
 .obtain⟨m,hm,du⟩:∃m:Z4,atI [V.int 5,V.int 40] (S % 2)=some (.int m)/\(m=5∨m=40):=by
   rcases(show S % 2=0∨S % 2=1 by omega) with e|e
   .exact{(5),by rw[e];rfl,.inl J}
   .exact{(40),by rw[e];rfl,.inr J}
  obtain⟨wd,de,df⟩:∃wd:Z5,1+S / 2 % m =↥wd/\1≤wd/\wd≤40:=by
   rcases du with rfl|rfl
   .exact{(1+S / 2 % 5).toNat,o6,o6,o6}
   .exact{(1+S / 2 % 40).toNat,o6,o6,o6}
  refine{1,3,⟨o5,o5⟩,v9,λt ht=>?_};exact{1,3,o5,t,_,S % 2,.int m,J,J,X0.of af,hm,3,o6,3,O _ _ {wd,by rw[de];rfl,aj.new ht,df}}
 rintro σ H1 ⟨wd,rfl,s1,dT,be⟩;refine bR (λσ H'=>∃n:Z5,σ=[t8 a,t9 S,t9 ↥wd,t9 ↥n,Z0,Z0,Z0,Z0,Z0,Z0,Z0,Z0,Z0,Z0,Z0,Z0,Z0,Z0,Z0,Z0]/\H1=H'/\2≤n/\n≤8) (λN O=>?_) ?_
 .obtain⟨n,en,hn⟩:∃n:Z5,(if (if ↥8 <((ns.map Z8).length:Z4)-5 then↥8 else((ns.map Z8).length:Z4)-5)>2 then(if ↥8 <((ns.map Z8).length:Z4)-5 then↥8 else((ns.map Z8).length:Z4)-5) else 2) =↥n/\2≤n/\n≤8:=by generalize ((ns.map Z8).length:Z4)-5=y;exists (if (if ↥8<y then↥8 else y)>2 then(if ↥8<y then↥8 else y) else 2).toNat;split <;> split <;> omega
  exact{1,a,1,.inl<|s1.seq hS,3,_,1,_,1,O _ _ {n,by rw[en];rfl,J,hn}}
 rintro σ _ ⟨n,rfl,rfl,dA,e8⟩;refine bR (λσ H'=>∃(cl:jl)(g:fy (fy (Z4×Z4))),σ=[t8 a,t9 S,t9 ↥wd,t9 ↥n,t8 cl,Z0,Z0,Z0,Z0,Z0,Z0,Z0,Z0,Z0,Z0,Z0,Z0,Z0,Z0,Z0]/\aj H1 H'/\xh H' cl g/\g.length=n/\∀ cs∈g,oq wd cs/\cs.length≤3) (λN O=>?_) ?_
 .refine{1,↥n,J,o6,o6,λD hD=>?_};rw[show(↥n).toNat=n by omega];refine lz (lo:=0) (n:=n) D (λi σ H2 ys=>∃(v:nt V)(PL:fy jl)(g:fy (fy (Z4×Z4))),σ=[v,t9 ↥wd,t8 a]/\aj H1 H2/\H2 D=some (.lst ys)/\ys=PL.map V.ref/\PL.length=g.length/\g.length=i/\(∀ cs∈g,oq wd cs/\cs.length≤3)/\D∉PL/\∀(j:Z5)b cs,PL[j]?=some b->g[j]?=some cs->∃L,H2 b=some (.lst L)/\fZ H2 L cs) {Z0,[],[],J,aj.new hD,af,J,J,J,o8,o8,o8} ?_ ?_
  .rintro i σ H2 ys hi ⟨v,PL,g,rfl,s2,h2,rfl,hpl,ar,am,c3,cc⟩;let e5:↥5 +(0 +↥i) =((5+i:Z5):Z4):=by omega
   refine{2,3,a,ns,5+i,by rw[←e5],s2.seq<|s1.seq hS,1,_,wd,J,dT,be,λl L cs H3 hl nl hc bn h3 s3=>?_};let cf:l≠D:=λz=>by rw[z,h2] at nl;cases nl
   let cx:=s3 _ _ h2;let kT:∀{b:jl}{L:fy V}{cs:fy (Z4×Z4)},b≠D->H3 b=some (.lst L)->fZ H3 L cs->∃L,(Z9 H3 D (.lst (PL.map V.ref++[.ref l]))) b=some (.lst L)/\fZ (Z9 H3 D (.lst (PL.map V.ref++[.ref l]))) L cs:=λhb hL hC=>{_,by rwa[ak hb],hC.mono λt' xs e=>by rwa[ak<|bU e cx nofun]}
   refine{cx,by rw[aiE];exact aF o6,_,PL++[l],g++[cs],J,λb o e=>?_,af,o8,by simp[hpl],by simp[ar],λc bc=>?_,λz=>?_,λj b dq e1 e2=>?_}
   .rw[ak<|ao e hD];exact s3 _ _<|s2 b _ e
   .rcases ai0.mp bc with bc|bc
    .exact am c bc
    .rw[ai7.mp bc];exact⟨bn,h3⟩
   .rcases ai0.mp z with z|z
    .exact c3 z
    .exact cf (ai7.mp z).symm
   .rcases amu j PL.length with hj|hj
    .rw[aiM hj] at e1;rw[aiM o6] at e2;let⟨L',h4,h5⟩:=cc j b dq e1 e2;exact kT (λz=>c3<|z ▸ aiQ e1) (s3 _ _ h4) (h5.mono λt' xs e=>s3 _ _ e)
    .rw[aiO hj] at e1;rw[aiO o6,←hpl] at e2;let e4:j-PL.length=0:=by let:=(aiH.mp e1).1;simp at this;omega
     rw[e4] at e1 e2;cases e1;cases e2;exact kT cf hl hc
  .rintro σ H2 ys ⟨v,PL,g,rfl,s2,h2,rfl,hpl,ar,am,c3,cc⟩;exact O _ _ {D,g,J,s2,⟨⟨PL,h2,hpl,cc⟩⟩,ar,am}
 rintro σ B ⟨cl,g,rfl,s2,hC,ar,am⟩;let e6:=s2.seq<|s1.seq hS;clear hS s1 s2 hc0;refine bR (λσ H'=>∃(k:jl)(A:SAd),σ=[t8 a,t9 S,t9 ↥wd,t9 ↥n,t8 cl,t8 k,Z0,Z0,Z0,Z0,Z0,Z0,Z0,Z0,Z0,Z0,Z0,Z0,Z0,Z0]/\Dy9 bH av aA aD aG B H' k A wd [List.replicate wd 0] (cP []) [] (λ_ _=>Z0)) (λN O=>?_) ?_
 .refine{1,λk dx hx dV e9=>{k,dx,↥wd,.int 3,.int 5,J,af,⟨o6,o6⟩,λA H4 hk hn bl cd kk=>{J,O _ _ {k,A,J,?_}}}};let bl:=bl aG;rw[show(↥wd).toNat=wd by omega] at bl;refine{⟨dx,hk⟩,bl,hn 0,λz=>?_,eF hx dV kk,λx di=>(aR (aR<|cd x di).1).1};let:=cd k z;rw[af] at this;cases this
 rintro σ H4 ⟨k,A,rfl,hI⟩;refine bR (λσ H'=>∃(v6:nt V)(A:SAd)(C2:fy (fy Z4))(us:fy PcU)(M:Z5->c5),σ=[t8 a,t9 S,t9 ↥wd,t9 ↥n,t8 cl,t8 k,v6,Z0,Z0,Z0,Z0,Z0,Z0,Z0,Z0,Z0,Z0,Z0,Z0,Z0]/\Dy9 bH av aA aD aG B H' k A wd C2 (cP g) us M/\C2.length=n+1) (λN O=>?_) ?_
 .let⟨PL,ch,dL,dR⟩:=hC.ex;refine{1,cl,J,{_,X0.of<|hI.sb _ _ ch},gw (K:=K) (a:=cl) (xs:=PL.map V.ref) (λi σ H'=>∃(v6:nt V)(A:SAd)(C2:fy (fy Z4))(us:fy PcU)(M:Z5->c5),σ=[t8 a,t9 S,t9 ↥wd,t9 ↥n,t8 cl,t8 k,v6,Z0,Z0,Z0,Z0,Z0,Z0,Z0,Z0,Z0,Z0,Z0,Z0,Z0]/\Dy9 bH av aA aD aG B H' k A wd C2 (cP<|g.take i) us M/\C2.length=i+1/\us.length≤i) {Z0,A,_,[],1,hI,J,aiL _} (λi σ H' _ z0=>by let⟨_,_,_,_,_,_,i',_⟩:=z0;exact X0.of<|i'.sb _ _ ch) ?_ ?_}
  .rintro i v σ H5 hi ⟨v6,A5,C2,us,M,rfl,h5,ct,dt⟩;obtain⟨b,hb,rfl⟩:∃b,PL[i]?=some b/\V.ref b=v:=by rw[aiR] at hi;let⟨c,h1,h2⟩:=aja.mp hi;exact⟨c,h1,h2⟩
   let ca:i<g.length:=by let:=(aiH.mp hb).1;omega
   obtain⟨cs,bQ⟩:∃cs,g[i]?=some cs:={_,aiG ca};let⟨L,hL,cp⟩:=dR i b cs hb bQ;let⟨bn,h3⟩:=am cs<|aiQ bQ;let hg:∀ c∈cs,jH c:=λc hc=>Cn be<|bn.2 c hc
   refine aU [t8 a,t9 S,t9 ↥wd,t9 ↥n,t8 cl,t8 k,t8 b,Z0,Z0,Z0,Z0,Z0,Z0,Z0,Z0,Z0,Z0,Z0,Z0,Z0] ?_;dsimp only;refine bR (λσ H'=>∃(A:SAd)(a1:fy (fy Z4)),σ=[t8 a,t9 S,t9 ↥wd,t9 ↥n,t8 cl,t8 k,t8 b,Z0,Z0,Z0,Z0,Z0,Z0,Z0,Z0,Z0,Z0,Z0,Z0,Z0]/\Dy9 bH av aA aD aG B H' k A wd a1 (cP<|g.take (i+1)) us M/\a1.length=i+2) (λN2 dy=>?_) ?_
   .let⟨a6,g2⟩:=id h5.dk;refine{1,k,a6,1,g2,J,J,v8,λl1 ab=>?_};let s6:aj H5 (Z9 H5 l1 (.lst [.str "day"])):=aj.new ab;let g6:Z9 H5 l1 (.lst [.str "day"]) l1=some (.lst [.str "day"]):=af;let h6:=h5.same s6;generalize Z9 H5 l1 (.lst [.str "day"])=H6 at s6 g6 h6 ⊢;refine{1,b,J,{_,X0.of<|h6.sb _ _ hL},λD hD=>?_};refine cQ D (K:=K) (a:=b) (xs:=L) (λj σ H7 ys=>∃(v0 v1:nt V),σ=[v0,v1]/\aj H6 H7/\H7 D=some (.lst ys)/\ys =((cs.take j).map wordOf).map V.str) {Z0,Z0,J,aj.new hD,af,o8} (λj σ H7 ys _ z0=>by let⟨_,_,_,s7,_⟩:=z0;exact X0.of<|s7 _ _<|h6.sb _ _ hL) ?_ ?_
    .rintro j v σ H7 ys hj ⟨v0,v1,rfl,s7,hy,rfl⟩;let⟨t,r,rfl,e2,e3⟩:=cp.get j v hj;let U:=hg r<|aiQ e2;let hwl:=lB U;let ep:=gn U.1.1 U.1.2;let dA:=gn U.2.1 U.2.2;exists t,1,X3.of<|s7 _ _<|h6.sb _ _ e3,J,_,1,3;exists 1,r.1,J,wR U.1.1 U.1.2,3,ai9 (show(bG r.1).length+1≤40 by omega) o7,1,r.2,J,wR U.2.1 U.2.2,3,ai9 (show(bG r.1++Str.ofString "=").length +(bG r.2).length≤80 by let e:(bG r.1++Str.ofString "=").length =(bG r.1).length+1:=(Str.length_append _ _);omega) o7;exists hy,by rw[aiE,aiE,aiV];exact aF o6,_,1,λb o e=>?_,af
     .rw[ak<|ao e hD];exact s7 b _ e
     .rw[ai1,e2];simp[←adQ]
    .rintro σ H7 ys ⟨v0,v1,rfl,s7,hy,rfl⟩;rw[cp.len,ai8] at hy;refine{l1,D,3,s7 _ _ g6,hy,ai9 (show 1 +((cs.map wordOf).map V.str).length≤40 by rw[aiE,aiE];omega) o7,λp hp=>?_};let h8:=(h6.same s7).same<|aj.new hp (o:=.lst<|(Str.ofString "day" :: cs.map wordOf).map V.str);exists Str.ofString " ",p,Str.ofString "day" :: cs.map wordOf,J,J,X0.of af,?_
     .let:=lX (ws:=Str.ofString "day" :: cs.map wordOf) (n:=41) λw hw=>by
       rcases aiU.mp hw with rfl|hw
       .decide +kernel
       .let⟨c,hc,rfl⟩:=aje.mp hw;exact lB<|hg c hc
      let e:(Str.ofString " ":Str).length=1:=by decide +kernel
      rw[e];rw[ajp,aiE] at this ⊢;omega
     .refine Dy9.day h8 J bn h3 o6 λs A' a1 H' h9 el=>dy _ _ {A',a1,J,?_,o6}
      rw[ai1,bQ];show Dy9 bH av aA aD aG B H' k A' wd a1 (cP<|g.take i++[cs]) us M;rwa[EL]
   rintro σ H6 ⟨A6,aS,rfl,h6,co⟩;refine kJ (decide (V.int (↥L.length % 2)=V.int 1)) (λH'=>H'=H6) (λQb hq=>?_) (λ_ H' e=>?_) λ_ H' e=>?_
   .exact{1,b,1,.inl<|X0.of<|h6.sb _ _ hL,3,o5,J,1,hq _ J}
   .subst e;let⟨a6,g2⟩:=id h6.dk;exact{1,k,a6,1,g2,J,Dy9.keep h6 o6 λs A' u M' H' h9=>{_,A',aS,_,M',J,h9,co,by simp;omega}}
   .subst e;exact{_,A6,aS,us,M,J,h6,co,o6}
  .rintro σ H5 ⟨v6,A5,C2,us,M,rfl,h5,ct,dt⟩;rw[aiE,dL,ai8,ar] at *;exact O _ _ ⟨v6,A5,C2,us,M,J,h5,ct⟩
 clear hI;rintro σ H5 ⟨v6,A5,C2,us,M,rfl,hI,ej⟩;obtain⟨mk,cn⟩:∃mk,Str.join (Str.ofString " ") (((l3 λi=>(A5.n i:Z4)).map Z8).map shT)=mk:={1};refine bR (λσ H'=>σ=[t8 a,t9 S,t9 ↥wd,t9 ↥n,t8 cl,t8 k,v6,some<|.str mk,Z0,Z0,Z0,Z0,Z0,Z0,Z0,Z0,Z0,Z0,Z0,Z0]/\Dy9 bH av aA aD aG B H' k A5 wd C2 (cP g) us M) (λN O=>?_) ?_
 .let⟨a6,g2⟩:=id hI.dk;exact{1,k,a6,1,g2,J,Dy9.marks hI λH6 s6=>O _ _ {by rw[←cn];rfl,hI.same s6}}
 clear hI;rintro σ H6 ⟨rfl,hI⟩;let bj:=hI.sb.seq e6;refine bR (λσ H'=>∃m:Z5,σ=[t8 a,t9 S,t9 ↥wd,t9 ↥n,t8 cl,t8 k,v6,some<|.str mk,t9 ↥m,Z0,Z0,Z0,Z0,Z0,Z0,Z0,Z0,Z0,Z0,Z0]/\aj H6 H'/\1≤m/\m≤7/\m≤n+1) (λN O=>?_) ?_
 .obtain⟨q4,dm,ed⟩:∃q4:Z4,atI [V.int 4,V.int 4,V.int 4,V.int 7] (S / 160 % 4)=some (.int q4)/\(q4=4∨q4=7):=by
   rcases(show S / 160 % 4=0∨S / 160 % 4=1∨S / 160 % 4=2∨S / 160 % 4=3 by omega) with e|e|e|e
   .exact{(4),by rw[e];rfl,.inl J}
   .exact{(4),by rw[e];rfl,.inl J}
   .exact{(4),by rw[e];rfl,.inl J}
   .exact{(7),by rw[e];rfl,.inr J}
  obtain⟨y,hy,eu⟩:∃y:Z4,(if ↥n+1<q4 then↥n+1 else q4)=y/\1≤y/\y≤7/\y≤n+1:={1,by split <;> omega};let z1:=aj3 (gp ns ((1:Z5):Z4)) (show y≠0 by omega);let z2:=ajP (gp ns ((1:Z5):Z4)) (show↥0<y by omega);obtain⟨m,em,hm⟩:∃m:Z5,1+gp ns ((1:Z5):Z4) % y =↥m/\1≤m/\m≤7/\m≤n+1:={(1+gp ns ((1:Z5):Z4) % y).toNat,o6,o6,o6,o6};refine{1,a,ns,(1),J,bj,(by show 4≤Z7;decide),λt ht=>?_};exists 1,3,⟨o5,o5⟩,3,o5,t,_,S / 160 % 4,.int q4,J,J,X0.of af,dm,1,3,_,1;rw[hy];exact{3,o6,3,O _ _ {m,by rw[em];rfl,aj.new ht,hm}}
 rintro σ H7 ⟨m,rfl,s7,ek,eh,ef⟩;replace hI:=hI.same s7;refine bR (λσ H'=>∃bg:Z5,σ=[t8 a,t9 S,t9 ↥wd,t9 ↥n,t8 cl,t8 k,v6,some<|.str mk,t9 ↥m,t9 ↥bg,Z0,Z0,Z0,Z0,Z0,Z0,Z0,Z0,Z0,Z0]/\H7=H'/\bg+m≤n+1) (λN O=>?_) ?_
 .let z1:=aj3 (gp ns ((1:Z5):Z4) / 28) (show↥n+2 -↥m≠0 by omega);let z2:=ajP (gp ns ((1:Z5):Z4) / 28) (show↥0 <↥n+2 -↥m by omega);obtain⟨bg,eb,hb⟩:∃bg:Z5,gp ns ((1:Z5):Z4) / 28 % (↥n+2 -↥m) =↥bg/\bg+m≤n+1:={(gp ns ((1:Z5):Z4) / 28 % (↥n+2 -↥m)).toNat,o6,o6};exact{1,a,ns,(1),J,s7.seq bj,3,⟨o5,o5⟩,1,3,1,3,3,o6,O _ _ {bg,by rw[eb];rfl,J,hb}}
 rintro σ _ ⟨bg,rfl,rfl,ea⟩;let c7:=s7.seq bj;refine bR (λσ H'=>∃(rl:jl)(r0 r1 r2 r3:Z4),σ=[t8 a,t9 S,t9 ↥wd,t9 ↥n,t8 cl,t8 k,v6,some<|.str mk,t9 ↥m,t9 ↥bg,t8 rl,Z0,Z0,Z0,Z0,Z0,Z0,Z0,Z0,Z0]/\aj H7 H'/\H' rl=some (.lst [.int r0,.int r1,.int r2,.int r3])/\∀ x∈[r0,r1,r2,r3],0≤x/\x≤1000000000000) (λN O=>?_) ?_
 .exact{1,a,ns,(2),J,c7,1,λrl r0 r1 r2 r3 H8 hrl e7 U s8=>O _ _ ⟨rl,r0,r1,r2,r3,J,s8,hrl,U⟩}
 rintro σ H8 ⟨rl,r0,r1,r2,r3,rfl,s8,hrl,U⟩;replace hI:=hI.same s8;let c8:=s8.seq c7;refine bR (λσ H'=>∃(Y:jl)(ws:fy Z4),σ=[t8 a,t9 S,t9 ↥wd,t9 ↥n,t8 cl,t8 k,v6,some<|.str mk,t9 ↥m,t9 ↥bg,t8 rl,t8 Y,Z0,Z0,Z0,Z0,Z0,Z0,Z0,Z0]/\aj H8 H'/\H' Y=some (.lst<|ws.map Z8)/\ws.length=m/\∀ x∈ws,↥0≤x/\x≤1000000000000) (λN O=>?_) ?_
 .exact{1,a,ns,(3),J,c8,1,_,m,J,o6,λY ws H9 hwl ez c1 bd s9=>O _ _ ⟨Y,ws,J,s9,hwl,c1,bd⟩}
 rintro σ H9 ⟨Y,bo,rfl,s9,ae,bu,bb⟩;refine bR (λσ H'=>∃(Y:jl)(ws:fy Z4),σ=[t8 a,t9 S,t9 ↥wd,t9 ↥n,t8 cl,t8 k,v6,some<|.str mk,t9 ↥m,t9 ↥bg,t8 rl,t8 Y,Z0,Z0,Z0,Z0,Z0,Z0,Z0,Z0]/\aj H8 H'/\H' Y=some (.lst<|ws.map Z8)/\ws.length=m/\∀ x∈ws,↥0≤x/\x≤1000000000000) (λN O=>?_) ?_
 .refine kJ (decide (↥4 <↥m)) (λH'=>H9=H') (λQb hq=>?_) (λ_ H' e=>?_) (λ_ H' e=>?_)
  .exact{1,3,1,hq _ J}
  .subst e;refine{1,Y,J,{_,X0.of ae},λD hD=>?_};refine cQ D (K:=K) (a:=Y) (xs:=bo.map Z8) (λj σ a2 ys=>∃(v:nt V)(zs:fy Z4),σ=[v]/\aj H9 a2/\a2 D=some (.lst ys)/\ys=zs.map Z8/\zs.length=j/\∀ x∈zs,↥0≤x/\x≤1000000000000) {Z0,[],J,aj.new hD,af,J,J,o8} (λj σ a2 ys _ z0=>by let⟨_,_,_,a4,_⟩:=z0;exact X0.of<|a4 _ _ ae) ?_ ?_
   .rintro j v σ a2 ys hj ⟨v0,zs,rfl,a4,hy,rfl,c4,bN⟩;obtain⟨w,hw,rfl⟩:∃w,bo[j]?=some w/\V.int w=v:=by rw[aiR] at hj;let⟨c,h1,h2⟩:=aja.mp hj;exact⟨c,h1,h2⟩
    let ev:=(aiH.mp hw).1;let bd:=bb w<|aiQ hw;exists 1,(1),w,J;let hb:0≤(if w>1 then w else 1)/\(if w>1 then w else 1)≤1000000000000:=by split <;> omega
    generalize (if w>1 then w else 1)=y at hb ⊢;refine{hy,by rw[aiE];exact aF o6,_,zs++[y],J,λb o e=>?_,af,o8,by simp[c4],λx hx=>?_}
    .rw[ak<|ao e hD];exact a4 b _ e
    .rcases ai0.mp hx with hx|hx
     .exact bN x hx
     .rw[ai7.mp hx];exact hb
   .rintro σ a2 ys ⟨v0,zs,rfl,a4,hy,rfl,c4,bN⟩;rw[aiE] at c4;exact O _ _ {D,zs,J,s9.trans a4,hy,o6,bN}
  .subst e;exact O _ _ ⟨Y,bo,J,s9,ae,bu,bb⟩
 clear ae bu bb s9 H9 Y bo;rintro σ H9 ⟨Y,ws,rfl,s9,hwl,c1,bd⟩;replace hI:=hI.same s9;let dv:=s9.seq c8;replace hrl:=s9 _ _ hrl;clear s7 s8 s9 bj c7 c8;let aw:∀ x∈r0::r1::r2::r3::ws,0≤x/\x≤1000000000000:=λx hx=>by
  simp only[List.mem_cons] at hx;rcases hx with h|h|h|h|h
  .exact U x (by simp[h])
  .exact U x (by simp[h])
  .exact U x (by simp[h])
  .exact U x (by simp[h])
  .exact bd x h
 let an:∀ x∈(bg:Z4)::r0::r1::r2::r3::ws,0≤x/\x≤1000000000000:=λx hx=>by
  rcases aiU.mp hx with rfl|hx
  .omega
  .exact aw x hx
 obtain⟨nms,ac⟩:∃nms,↥bg::r0::r1::r2::r3::ws=nms:={1};rw[ac] at an;let es:nms.length=m+5:=by rw[←ac];simp[c1]
 refine bR (λσ H'=>∃nl:jl,σ=[t8 a,t9 S,t9 ↥wd,t9 ↥n,t8 cl,t8 k,v6,some<|.str mk,t9 ↥m,t9 ↥bg,t8 rl,t8 Y,t8 nl,Z0,Z0,Z0,Z0,Z0,Z0,Z0]/\aj H9 H'/\H' nl=some (.lst<|nms.map Z8)) (λN O=>?_) ?_
 .refine{1,v8,λl1 ab=>{1,l1,rl,3,af,aj.new ab _ _ hrl,(by show 5≤Z7;decide),λl2 d1=>{1,l2,Y,3,af,aj.new d1 _ _<|aj.new ab _ _ hwl,ai9 (show 5 +(ws.map Z8).length≤12 by rw[aiE];omega) o7,λl3 e0=>O _ _ {l3,J,((aj.new ab).trans<|aj.new d1).trans<|aj.new e0,?_}}}};rw[af,←ac];rfl
 rintro σ a2 ⟨nl,rfl,a4,bv⟩;refine bR (λσ H'=>∃z:Z6,σ=[t8 a,t9 S,t9 ↥wd,t9 ↥n,t8 cl,t8 k,v6,some<|.str mk,t9 ↥m,t9 ↥bg,t8 rl,t8 Y,t8 nl,some<|.str z,Z0,Z0,Z0,Z0,Z0,Z0]/\aj a2 H'/\z=Str.join (Str.ofString " ") (Str.ofString "plan" :: nms.map bG)) (λN O=>?_) ?_
 .refine{J,v8,λl1 ab=>?_};let s6:aj a2 (Z9 a2 l1 (.lst [.str "plan"])):=aj.new ab;let g6:Z9 a2 l1 (.lst [.str "plan"]) l1=some (.lst [.str "plan"]):=af;generalize Z9 a2 l1 (.lst [.str "plan"])=G6 at s6 g6 ⊢;refine{1,nl,J,{_,X0.of<|s6 _ _ bv},λD hD=>?_};refine cQ D (K:=K) (a:=nl) (xs:=nms.map Z8) (λj σ H7 ys=>∃(v0:nt V),σ=[v0]/\aj G6 H7/\H7 D=some (.lst ys)/\ys =((nms.take j).map bG).map V.str) {Z0,J,aj.new hD,af,o8} (λj σ H7 ys _ z0=>by let⟨_,_,s7,_⟩:=z0;exact X0.of<|s7 _ _<|s6 _ _ bv) ?_ ?_
  .rintro j v σ H7 ys hj ⟨v0,rfl,s7,hy,rfl⟩;obtain⟨w,hw,rfl⟩:∃w,nms[j]?=some w/\V.int w=v:=by rw[aiR] at hj;let⟨c,h1,h2⟩:=aja.mp hj;exact⟨c,h1,h2⟩
   let hb:=an w<|aiQ hw;exists 1,w,J,wR hb.1 o6;exists hy,by rw[aiE,aiE,aiV];exact aF o6,1,λb o e=>?_,af
   .rw[ak<|ao e hD];exact s7 b _ e
   .rw[ai1,hw];simp;rfl
  .rintro σ H7 ys ⟨v0,rfl,s7,hy,rfl⟩;rw[aiE,ai8] at hy;refine{l1,D,3,s7 _ _ g6,hy,ai9 (show 1 +((nms.map bG).map V.str).length≤40 by rw[aiE,aiE];omega) o7,λp hp=>?_};refine{Str.ofString " ",p,Str.ofString "plan" :: nms.map bG,J,J,X0.of af,?_,O _ _ {1,s6.trans<|s7.trans<|aj.new hp,J}};let:=lX (ws:=Str.ofString "plan" :: nms.map bG) (n:=20) λw hw=>by
    rcases aiU.mp hw with rfl|hw
    .decide +kernel
    .let⟨c,hc,rfl⟩:=aje.mp hw;let hb:=an c hc;exact gn hb.1 o6
   let e:(Str.ofString " ":Str).length=1:=by decide +kernel
   rw[e];rw[ajp,aiE] at this ⊢;omega
 rintro σ dz ⟨z,rfl,bm,hz⟩;replace hI:=(hI.same a4).same bm;let ce:=bm.seq<|a4.seq dv;replace hrl:=bm _ _<|a4 _ _ hrl;replace hwl:=bm _ _<|a4 _ _ hwl;rw[←ac] at hz;refine bR (λσ H'=>∃x:Lf,σ=[t8 a,t9 S,t9 ↥wd,t9 ↥n,t8 cl,t8 k,v6,some<|.str mk,t9 ↥m,t9 ↥bg,t8 rl,t8 Y,t8 nl,some<|.str z,some<|.str<|dI x,Z0,Z0,Z0,Z0,Z0]/\aj dz H'/\vX wd (cP g) ↥bg ws r0 r1 r2 r3 x) (λN O=>?_) ?_
 .let⟨a6,g2⟩:=id hI.dk;exact{1,k,a6,1,g2,J,1,Dy9.plan hI hz o6 o6 o6 o6 aw λx H' hp s=>O _ _ ⟨x,J,s,hp⟩}
 rintro σ dr ⟨x,rfl,bi,hP⟩;replace hI:=hI.same bi;let db:=bi.seq ce;replace hrl:=bi _ _ hrl;replace hwl:=bi _ _ hwl;let⟨C1,lv,F,ee,d6,hv⟩:=id hP;let hB:=Ds F hv;let eg:=hB.len;let bt:∀ cs∈g,oq wd cs:=λcs h=>(am cs h).1
 refine bR (λσ H'=>∃pl pw:jl,σ=[t8 a,t9 S,t9 ↥wd,t9 ↥n,t8 cl,t8 k,v6,some<|.str mk,t9 ↥m,t9 ↥bg,t8 rl,t8 Y,t8 nl,some<|.str z,some<|.str<|dI x,t8 pl,Z0,Z0,Z0,Z0]/\aj dr H'/\H' pl=some (.tup [.ref pw,.int x.2])/\H' pw=some (.lst<|x.1.map V.str)) (λN O=>?_) ?_
 .exact{2,Y,ws,x,J,hwl,hB.len,o6,o6,hB.nx,hB.n0,hB.n60,λpl pw H' hpl hpw s=>O _ _ ⟨pl,pw,J,s,hpl,hpw⟩}
 rintro σ cJ ⟨pl,pw,rfl,bp,hpl,hpw⟩;replace hI:=hI.same bp;let ci:=bp.seq db;replace hrl:=bp _ _ hrl;replace hwl:=bp _ _ hwl;refine bR (λσ H'=>σ=[t8 a,t9 S,t9 ↥wd,t9 ↥n,t8 cl,t8 k,v6,some<|.str mk,t9 ↥m,t9 ↥bg,t8 rl,t8 Y,t8 nl,some<|.str z,some<|.str<|dI x,t8 pl,Z0,Z0,Z0,Z0]/\cJ=H') (λN O=>?_) ?_
 .exact gK (λQb hq=>{1,J,1,hq}) (O _ _ ⟨J,J⟩)
 rintro σ _ ⟨rfl,rfl⟩;refine bR (λσ H'=>σ=[t8 a,t9 S,t9 ↥wd,t9 ↥n,t8 cl,t8 k,v6,some<|.str mk,t9 ↥m,t9 ↥bg,t8 rl,t8 Y,t8 nl,some<|.str z,some<|.str<|dI x,t8 pl,t9 x.2,Z0,Z0,Z0]/\aj cJ H') (λN O=>?_) ?_
 .refine{2,2,pl,_,(0),.ref pw,J,J,X3.of hpl,J,2,cl,pw,Y,rl,wd,bg,g,x.1,C1,ws,r0,r1,r2,r3,J,hC.same hI.sb,bt,o6,be,X0.of hpw,hB.nx.vw,o6,o6,hwl,hrl,F,d6,λH' s=>O _ _ {?_,s}};rw[←hB.val];rfl
 rintro σ a7 ⟨rfl,al⟩;replace hI:=hI.same al;let cq:=al.seq ci;replace hrl:=al _ _ hrl;replace hwl:=al _ _ hwl;replace hpl:=al _ _ hpl;replace hpw:=al _ _ hpw;refine bR (λσ H'=>σ=[t8 a,t9 S,t9 ↥wd,t9 ↥n,t8 cl,t8 k,v6,some<|.str mk,t9 ↥m,t9 ↥bg,t8 rl,t8 Y,t8 nl,some<|.str z,some<|.str<|dI x,t8 pl,t9 x.2,Z0,Z0,Z0]/\a7=H') (λN O=>?_) ?_
 .refine kJ Z2 (λH'=>a7=H') (λQb hq=>?_) nofun (λ_ H' e=>O _ _ ⟨J,e⟩);exists 1,pl,_,(1),.int x.2,J,J,X3.of hpl,J,1,J,1;rw[aiS rfl];exact hq _ J
 rintro σ _ ⟨rfl,rfl⟩;refine{ajc _,λol cr=>?_};let s0:aj a7 (Z9 a7 ol (.lst [])):=aj.new cr;let g0:Z9 a7 ol (.lst []) ol=some (.lst (([]:fy Z6).map V.str)):=af;refine aU [t8 a,t9 S,t9 ↥wd,t9 ↥n,t8 cl,t8 k,v6,some<|.str mk,t9 ↥m,t9 ↥bg,t8 rl,t8 Y,t8 nl,some<|.str z,some<|.str<|dI x,t8 pl,t9 x.2,t8 ol,Z0,Z0] ?_;dsimp only;change oh _ _ _ _ (Z9 a7 ol<|.lst []);generalize Z9 a7 ol (.lst [])=cw at s0 g0 ⊢;refine bR (λσ H'=>∃(a3 a0:nt V)(us:fy Z6),σ=[t8 a,t9 S,t9 ↥wd,t9 ↥n,t8 cl,t8 k,v6,some<|.str mk,t9 ↥m,t9 ↥bg,t8 rl,t8 Y,t8 nl,some<|.str z,some<|.str<|dI x,t8 pl,t9 x.2,t8 ol,a3,a0]/\aj a7 H'/\H' ol=some (.lst<|us.map V.str)/\us.length=m/\gH ws us) (λN O=>?_) ?_
 .refine{1,↥m,J,o6,o6,fE (lo:=0) (n:=(↥m).toNat) (λi σ H'=>∃(a3 a0:nt V)(us:fy Z6),σ=[t8 a,t9 S,t9 ↥wd,t9 ↥n,t8 cl,t8 k,v6,some<|.str mk,t9 ↥m,t9 ↥bg,t8 rl,t8 Y,t8 nl,some<|.str z,some<|.str<|dI x,t8 pl,t9 x.2,t8 ol,a3,a0]/\aj a7 H'/\H' ol=some (.lst<|us.map V.str)/\us.length=i/\gH ws us) {Z0,Z0,[],J,s0,g0,J,λk w e=>by simp at e} ?_ ?_}
  .rintro i σ ag hi ⟨a3,a0,us,rfl,a5,a8,bw,a9⟩;let ca:us.length<ws.length:=by omega
   let c2:ws[us.length]?=some ws[us.length]:=aiG ca;generalize ws[us.length]=wt at c2;refine aU [t8 a,t9 S,t9 ↥wd,t9 ↥n,t8 cl,t8 k,v6,some<|.str mk,t9 ↥m,t9 ↥bg,t8 rl,t8 Y,t8 nl,some<|.str z,some<|.str<|dI x,t8 pl,t9 x.2,t8 ol,t9<|0 +↥i,a0] ?_;dsimp only;refine{2,ol,Y,us,ws,wt,J,X0.of a8,o6,a9.wd,a5 _ _ hwl,c2,λl ds hl _ as=>?_};refine aU [t8 a,t9 S,t9 ↥wd,t9 ↥n,t8 cl,t8 k,v6,some<|.str mk,t9 ↥m,t9 ↥bg,t8 rl,t8 Y,t8 nl,some<|.str z,some<|.str<|dI x,t8 pl,t9 x.2,t8 ol,t9<|0 +↥i,t8 l] ?_;dsimp only;let ba:=as _ _ a8;let⟨h0,w,hw,dC⟩:=Hv wt us<|fG (gp ns ((4:Z5):Z4))<|0 +↥i;exists 1,.inl {J,_,X0.of ba},2,a,ns,(4),J,as.seq<|a5.seq cq,1,_,2,l,1,.inl<|X0.of hl,3,o6,l,_,_,.str w,J,J,X0.of hl,hw,ol,3,ba,aF (by rw[aiE];omega);refine{_,_,us++[w],J,λb o e=>by rw[ak<|ao e cr];exact as _ _<|a5 b o e,by rw[af,ajb];rfl,by simp[bw],a9.snoc ?_};unfold bP;rwa[c2]
  .rintro σ ag ⟨a3,a0,us,rfl,a5,a8,bw,a9⟩;exact O _ _ ⟨a3,a0,us,J,a5,a8,o6,a9⟩
 clear s0 g0;rintro σ cw ⟨a3,a0,us,rfl,ax,hol',bw,a9⟩;replace hI:=hI.same ax;replace hrl:=ax _ _ hrl;replace hwl:=ax _ _ hwl;replace hpl:=ax _ _ hpl;replace hpw:=ax _ _ hpw;obtain⟨C,da⟩:∃C,sumTo (bA C1 ws r0 r1 r2 r3 us) us.length=C:={1};let⟨dp,cm⟩:=hB.opt us a9 o6;rw[da] at dp cm;refine bR (λσ H'=>σ=[t8 a,t9 S,t9 ↥wd,t9 ↥n,t8 cl,t8 k,v6,some<|.str mk,t9 ↥m,t9 ↥bg,t8 rl,t8 Y,t8 nl,some<|.str z,some<|.str<|dI x,t8 pl,t9 C,t8 ol,a3,a0]/\aj cw H') (λN O=>?_) ?_
 .refine{2,2,2,cl,ol,Y,rl,wd,bg,g,us,C1,ws,r0,r1,r2,r3,J,hC.same hI.sb,bt,o6,be,X0.of hol',a9.vw,o6,o6,hwl,hrl,F,d6,λH' s=>O _ _ {?_,s}};rw[da];rfl
 rintro σ ag ⟨rfl,a5⟩;replace hI:=hI.same a5;replace hpl:=a5 _ _ hpl;replace hpw:=a5 _ _ hpw;replace hol':=a5 _ _ hol';refine bR (λσ H'=>σ=[t8 a,t9 S,t9 ↥wd,t9 ↥n,t8 cl,t8 k,v6,some<|.str mk,t9 ↥m,t9 ↥bg,t8 rl,t8 Y,t8 nl,some<|.str z,some<|.str<|dI x,t8 pl,t9 C,t8 ol,a3,a0]/\ag=H') (λN O=>?_) ?_
 .refine kJ Z2 (λH'=>ag=H') (λQb hq=>?_) nofun (λ_ H' e=>O _ _ ⟨J,e⟩);exists 2,pl,_,(1),.int x.2,J,J,X3.of hpl,J,3,1;rw[aiX (show ¬C<x.2 by omega)];exact hq _ J
 rintro σ _ ⟨rfl,rfl⟩;refine bR (λσ H'=>σ=[t8 a,t9 S,t9 ↥wd,t9 ↥n,t8 cl,t8 k,v6,some<|.str mk,t9 ↥m,t9 ↥bg,t8 rl,t8 Y,t8 nl,some<|.str z,some<|.str<|dI x,t8 pl,t9 C,t8 ol,a3,a0]/\aj ag H') (λN O=>?_) ?_
 .refine kJ Z2 (λH'=>aj ag H') (λQb hq=>?_) nofun (λ_ H' e=>O _ _ ⟨J,e⟩);exists 2,pl,_,(1),.int x.2,J,J,X3.of hpl,J,J,1;by_cases hE:C=x.2
  .rw[aiS (show V.int C=V.int x.2 by rw[hE])];refine fS ?_;refine{1,pl,_,(0),.ref pw,J,J,X3.of hpl,J,1,pw,ol,x.1,us,J,X0.of hpw,X0.of hol',o6,o6,hB.nx.wd,a9.wd,λH' s=>{1,?_}};rw[show HT.lexLt (us.map rkW) (x.1.map rkW)=Z2 from cm hE.symm];exact hq _ s
  .rw[aiX (show ¬V.int C=V.int x.2 by intro z;cases z;exact hE J)];exact fR<|hq _<|aj.refl _
 rintro σ ds ⟨rfl,as⟩;replace hI:=hI.same as;let⟨a6,g2⟩:=id hI.dk;refine{1,k,a6,1,g2,J,1,Dy9.plan hI hz o6 o6 o6 o6 aw λx' ey hp dc=>?_};let dK:=Hj hP hp;subst dK;replace hI:=hI.same dc;let⟨dH,g3⟩:=id hI.dk;refine{1,J,Z1,by rw[aiS rfl],fS ?_};refine{1,k,dH,1,g3,J,Dy9.marks hI λei ew=>{1,J,?_}};rw[cn,aiS rfl];exact q _
end
def QS:Go g0:=by
 rintro⟨X,G,dz,zf,xY,yf,BQ,EJ,wF,GH,Dl,xx,CV,FE,yt,Dg,Cy,FY,Gg,Qt,Yc,CC,iB,dH,fB,ef,lT,om,lV,kP,mR,A2,gY,c8,Dq,c7,eU,eY,vQ,jN,Av,kW,Ai,eW,mS,mW,lP,dR,gA,gg,kK,Dm,jG,l0,l1,l2,l3,l4,l5,l6,l7,l8,a9,l9,da,d6,l10,ee,k10,db,l11,l12,l13,l14,l15,l16,l17,l18,l19,l20,ea,ey,eg,e1,ed,et,du,dx,ek,eO,ev,en,ew,eJ,ex,ez,df,dc,dT,ep,ei,e2,dy,eo,dv,dA,dC,de,eh,e0,eM,eC,dp,eI,dL,eb,e6,ej,e3,e5,e4,dV,el,es,eA,e9,dm,e7,eu,HX,HJ,tE,Zn,dq,Ax,Wd,Qa,QT,e8,eD,GV,eH,By,dr,dk,dt,dK,DS,D8,aS,ba,C,y,H,S,a1,a3,ar,a5,L,x,p,g,a,t,j,cs,ct,bN,ch,cc,c0,c2,cr,ce,ca,bl,c3,aw,bb,bg⟩ f fd F;rename_i f9 fg f4 ff f3 fc f7 f8 fe fb fa f5 eP eR eQ eS a6 O ae al u a4 a7 U v a2 m l s e b ag as an B A ac am a8 ab a0 q o c r i cx bw cm co bn bo cd cl cp ci c1 bc bd ax bE bu bm bt cq cn bv c4 cf bp bi be bj d1;let jz:GDF P w K mg cB gj:=abH [((PySem.Str.ofString "day"),a6,.ref ag),((PySem.Str.ofString "keep"),O,.ref as),((PySem.Str.ofString "seal"),ae,.ref an),((PySem.Str.ofString "tidy"),al,.ref B),((PySem.Str.ofString "carry"),u,.ref A),((PySem.Str.ofString "harm"),a4,.ref ac),((PySem.Str.ofString "heal"),a7,.ref am),((PySem.Str.ofString "marks"),U,.ref a8),((PySem.Str.ofString "lies"),v,.ref ab),((PySem.Str.ofString "line"),a2,.ref a0),((PySem.Str.ofString "reach"),m,.ref q),((PySem.Str.ofString "fetch"),l,.ref o),((PySem.Str.ofString "price"),s,.ref c),((PySem.Str.ofString "way"),e,.ref r),((PySem.Str.ofString "plan"),b,.ref i)] _ aS ba J o4<|ajr.mpr {ai5 X G C,ajr.mpr {ai5 X G y,ajr.mpr {ai5 X G H,ajr.mpr {ai5 X G S,ajr.mpr {ai5 X G a1,ajr.mpr {ai5 X G a3,ajr.mpr {ai5 X G ar,ajr.mpr {ai5 X G a5,ajr.mpr {ai5 X G L,ajr.mpr {ai5 X G x,ajr.mpr {ai5 X G p,ajr.mpr {ai5 X G g,ajr.mpr {ai5 X G a,ajr.mpr {ai5 X G t,ajr.mpr {ai5 X G j,J}}}}}}}}}}}}}}};let ju:GDT P w K c9 vz:=abg [((PySem.Str.ofString "seal"),bw,.ref bE),((PySem.Str.ofString "tidy"),cm,.ref bu),((PySem.Str.ofString "carry"),co,.ref bm),((PySem.Str.ofString "harm"),bn,.ref bt),((PySem.Str.ofString "heal"),bo,.ref cq),((PySem.Str.ofString "marks"),cd,.ref cn),((PySem.Str.ofString "lies"),cl,.ref bv),((PySem.Str.ofString "line"),cp,.ref c4),((PySem.Str.ofString "reach"),ci,.ref cf),((PySem.Str.ofString "fetch"),c1,.ref bp),((PySem.Str.ofString "price"),bc,.ref bi),((PySem.Str.ofString "way"),bd,.ref be),((PySem.Str.ofString "plan"),ax,.ref bj)] _ cs ct J o4<|ajo.mpr {{1,bN},(ajo.mpr {{1,ch},(ajo.mpr {{1,cc},(ajo.mpr {{1,c0},(ajo.mpr {{1,c2},(ajo.mpr {{1,cr},(ajo.mpr {{1,ce},(ajo.mpr {{1,ca},(ajo.mpr {{1,bl},(ajo.mpr {{1,c3},(ajo.mpr {{1,aw},(ajo.mpr {{1,bb},(ajo.mpr {{1,bg},(λ_ h=>by cases h)})})})})})})})})})})})})};let T:Txt:={ai5 X G dz,ai5 X G zf,ai5 X G xY,ai5 X G yf,ai5 X G BQ,ai5 X G EJ,ai5 X G wF,ai5 X G GH,CC.1,iB,dH,fB,ef,ai5 X G Dl,ai5 X G xx,lT.1,om,lV,kP,mR,ai5 X G CV,A2.1,gY,c8,ai5 X G FE,Dq.1,c7,eU,eY,ai5 X G yt,vQ.1,jN,ai5 X G Dg,Av.1,kW,ai5 X G Cy,Ai.1,eW,mS,mW,lP,dR,gA,gg,kK,ai5 X G FY,Dm.1,jG,ai5 X G Gg,ai5 X G Qt,ai5 X G Yc,ajm X G Zn,ajm X G dq,ajm X G Ax,ajm X G Wd,ajm X G Qa,ajm X G QT,ajm X G e8,ajm X G eD,ajm X G GV,ajm X G eH,ajm X G By,ajm X G dr,ajm X G dk,ajm X G dt,ajm X G dK,ajm X G DS,D8};let cw:=Ql (st:=dw) l10 ee k10;let b10:=cw.binds (ps:=["self","day","rows","check"]) (ds:=[]) db J λ_ _ _ _ _ _ us hl=>ln4 us hl λ_ _ _ _=>{1,J}
 let qF:=cw.binds (ps:=["self","day","rows","check"]) (ds:=[Value.none]) db J λ_ _ _ _ _ _ us hl=>ln3 us (⇑hl) λ_ _ _=>{1,J}
 let Y:Bs P w K mg base:={_,X,G};let gy:=l6.d Y λF=>BS T F
 let vo:=l0.mk1 GH CC Y λF=>ud T gy F
 let fW:=l4.d Y λF=>rJ T F
 let iJ:=l1.d Y λF=>xS T fW F
 let bQ:=l5.d Y λF=>wc T F
 let jc:=l2.d Y λF=>ze T bQ F
 let ie:=l3.d Y λF=>wj T bQ F
 let qw:=l7.d Y λF=>ER T F
 let lI:=l8.d Y λF=>Bp T qw F
 let eV:Kg "Piece" cO "__init__" 3 ["self","start","day","rows","check"] (qh K):=by let⟨_,_,F⟩:=l9;exact{_,_,Y.at_ Dl,⟨HX,HJ,tE,F.kp⟩,sY T lI F,F.binds λ_ _ _ _ _ _ us hl=>ln5 us hl λ_ _ _ _ _=>rfl}
 let fi:kF "Whole" aG 4 ["self","day","rows","check"] (lO aG aG):={_,_,Y.at_ xx,⟨lT.2.1,da,d6,lT.2.2⟩,kZ T eV cw,b10};let lC:CZ "Whole" aG 4 ["self","day","rows","check"] [Value.none] (lO aG aG):={_,_,Y.at_ xx,⟨lT.2.1,da,d6,lT.2.2⟩,kZ T eV cw,qF};let lH:=l11.d Y λF=>Bq T lC jc F
 let cJ:=l12.d Y λF=>uU T F
 let fM:=l13.d Y λF=>A7 T cJ F
 let kr:=l14.d Y λF=>zO T cJ F
 let lM:=l15.mk1 CV A2 Y λF=>sZ T F
 let kg:=l17.d Y λF=>Aq T F
 let kq:=l16.d Y λF=>AZ T kg F
 let fV:=l18.d Y λF=>rL T F
 let gv:=l20.d Y λF=>B6 T F
 let vU:=l19.mk1 FE Dq Y λF=>uL T gv F
 let di:=ey.d Y λF=>vq T F
 let ni:=ea.d Y λF=>DJ T di F
 let lE:=eg.d Y λF=>B5 T di F
 let gk:=et.d Y λF=>BL T F
 let gq:=du.d Y λF=>BZ T F
 let lJ:=ed.d Y λF=>BF T lE gk gq F
 let nj:=e1.d Y λF=>Ec T lJ F
 let lF:=dx.d Y λF=>BW T gk gq nj F
 let j8:=ek.d Y λF=>zX T lF ni F
 let lA:=ev.d Y λF=>Bv T ie F
 let nu:=eO.d Y λF=>Ef T bQ gv vU lA F
 let ir:=eJ.d Y λF=>BN T F
 let jC:=ex.d Y λF=>zk T F
 let ku:=ez.d Y λF=>Ak T F
 let iM:=ew.d Y λF=>xN T kr ir jC ju fM ku F
 let lG:=en.d Y λF=>BJ T iM F
 let nk:=df.mk1 yt vQ Y λF=>qE T F
 let oA:=dc.mk1 Dg Av Y λF=>tD T F
 let ic:=ep.d Y λF=>wm T fM nk F
 let m9:=dT.d Y λF=>DQ T oA ic F
 let sN:=ei.mk1 Cy Ai Y λF=>sX T vo lM F
 let gX:=e2.d Y λF=>wA T iJ F
 let iP:=dy.d Y λF=>xB T F
 let fT:=de.d Y λF=>rW T lH iP F
 let fU:=dC.d Y λF=>rN T F
 let ny:=e0.d Y λF=>DB T kq F
 let iN:=dv.d Y λF=>xO T fU ny F
 let jI:=eh.d Y λF=>zh T iN F
 let jv:=eo.d Y λF=>zm T fT fV jI F
 let iO:=dA.d Y λF=>xy T F
 let iV:=eM.d Y λF=>EN T F
 let Ho:=eC.d Y λF=>Gw T gX F
 let Gj:=dp.d Y λF=>EA T jv F
 let EH:=eI.d Y λF=>BG T iV iO F
 let Gm:=dL.d Y λF=>Em T iV nu j8 F
 let wk:=eb.mk1 FY Dm Y λF=>tZ T gy sN m9 F
 let jK:∀z,KnR z->∃n ps,(z,n)∈gj/\bh n 11 ps (kX av aA aD aG aI z):=ZS Ho Gj EH Gm;let er:=e6.d Y λF=>BH T lG jz jK F
 let cW:=ej.d Y λF=>A0 T F
 let bz:=e3.d Y λF=>AL T F
 let jd:=e5.d Y λF=>zo T bz F
 let g8:=e4.d Y λF=>wz T bz jd F
 let dF:=dV.d Y λF=>vS T F
 let kj:=el.d Y λF=>Bf T F
 let j6:=es.d Y λF=>Ae T F
 let iE:=eA.d Y λF=>A3 T j6 kj F
 let ko:=e9.d Y λF=>AX T dF F
 let je:=dm.d Y λF=>y9 T F
 let jL:=e7.d Y λF=>zl T bz F
 let gW:=eu.d Y λF=>vO T bz F
 exact VT T bz dF cW g8 wk er jL gW ko iE je F
def all(c:Gc):Go c:=aj5 λn=>Classical.epsilon_spec (p:=λc=>¬Go c) ⟨c,n⟩ QS
def all_mk{l:OpenLaw}{w:t7}{K:Frag}{h:Heap}{mg:Z6->nt mu}{y:jl}(X:K.In h)(G:h.Ns mainGlobals mg)(t:mg "law" = some (.ref y)){t_W:Tok}{cD:Tok}{cj:Tok}{bZ:Tok}{cV:Tok}{eE:Tok}{bT:Tok}{aA:jl}{cO:jl}{aG:jl}{aD:jl}{aI:jl}{bO:jl}{cF:jl}{av:jl}{bH:jl}{cB:jl}{c9:jl}{fF:jl}{j:jl}{n g:nt jl}{m:sA (nt mu)}{o b f c a i:mu}(q:GA K "law" j)(p:K.lookup j=some {o,n,.func (fnOf "law" "law" (fz kB) (dj kB) (ay kB) .none b f c g a i),m})(x:codeIn K a "law" = Z1)(u:keepIn K (.ref j)=Z1)(z:Hy w K mg t_W cD cj bZ cV eE bT aA cO aG aD aI bO cF av bH cB c9 fF)
  :∃fd:q9,(∀(s:q8)(v:mu),BindsTo s fd {[v],[]} [("_law_script",v)])/\∀base:Heap,K.In base->base.Ns mainGlobals mg->aM l.prog w K mg base (CXx l.prog w) 13 y fd ["_law_script"] (oW K):=by
 let e:=t.symm.trans<|ai5 X G q;cases e;let r:=abI (st:=kB) p x u;refine{fnOf "law" "law" (fz kB) (dj kB) (ay kB) .none b f c g a i,λs v=>.of_eq J,λbase _ _=>all ⟨l.prog,w,K,mg,base,t_W,cD,cj,bZ,cV,eE,bT,aA,cO,aG,aD,aI,bO,cF,av,bH,cB,c9,fF⟩ z r}
def walk{l:OpenLaw}{q:t6}{b:fy Z6}{j:(Z6->nt mu)->Heap->Z3}{e:t7->Heap->Z3}{d:DefRec}{K:Params->Frag}(hn:l.most=some 63)(c:d.params.defaults=[])(i:∀(w:t7)(h:Heap),e w h->(K w.params).In h)(F:∀(w:t7)(mg:Z6->nt mu)(g:jl)(h:Heap),(K w.params).In h->h.Ns mainGlobals mg->mg d.name=some (.ref g) →
   ∃fd:q9,(∀(s:q8)(u:mu),BindsTo s fd {[u],[]} [("_law_script",u)])/\∀base:Heap,(K w.params).In base->base.Ns mainGlobals mg->aM l.prog w (K w.params) mg base (CXx l.prog w) 13 g fd ["_law_script"] (oW (K w.params))) :
  WalkO q b j e l.row.toRowW d [] (λf vs=>PySem.call f vs):=
 L2.QD (n:=63) (k:=13) (x:="_law_script") (CX:=λw=>CXx l.prog w) (sp:=λw=>oW<|K w.params) hn o7 c ⟨J,o7,o7⟩ i F (λ_ _ a ns m _ o=>{a,ns,J,o,m,λ_=>rfl}) λ_ _ _ _ _ z=>L2.ac3 z
end Mine
open PySem PySem.W PyProof.Rows
noncomputable def PySem.W.Fast.tw16938663180696802899:PySem.Program:=PySem.Challenge.pw_keepsakes_k89_plans_at_the_desk
def PySem.W.Fast.te16938663180696802899:PySem.Challenge.pw_keepsakes_k89_plans_at_the_desk=PySem.W.Fast.tw16938663180696802899:=rfl
namespace Hd
noncomputable section
open PySem
structure Sc where
 (a b c d e f g h i j k l m n o p q r s t u v w x y:Str)
abbrev h0:Sc:=Sc.mk "<module>" "/claim/cut.py" "__main__" "__name__" "keepsakes.errors" "__doc__" "__package__" "__loader__" "__spec__" "__annotations__" "__builtins__" "__file__" "__cached__" "_wall" "W" "MOST_BLOCKS" "MOST_FIGURES" "MOST_PLANNED" "MOST_RATE" "KeepError" "k" "__module__" "__qualname__" "__firstlineno__" "__static_attributes__"
abbrev h1:Sc:=Sc.mk "__weakref__" "NoWord" "__init__" "self" "word" "NoWord.__init__" "NoTable" "wide" "NoTable.__init__" "NoPlace" "place" "NoPlace.__init__" "NoBlock" "block" "NoBlock.__init__" "NoDay" "day" "NoDay.__init__" "NoBase" "base" "NoBase.__init__" "NoPiece" "number" "NoPiece.__init__" "NoWay"
abbrev h2:Sc:=Sc.mk "at" "NoWay.__init__" "BadPiece" "BadPiece.__init__" "NoItem" "NoRule" "found" "NoRule.__init__" "NoMerge" "NoMerge.__init__" "Lost" "cuts" "Lost.__init__" "NoPlan" "many" "NoPlan.__init__" "NoShelf" "shelf" "NoShelf.__init__" "keepsakes.days" "NoRow" "line" "NoRow.__init__" "Days" "passes"
abbrev h3:Sc:=Sc.mk "table" "written" "ask_change" "ask_day" "Days.__init__" "Days.passes" "Days.table" "one" "other" "places" "Days.written" "Days.ask_change" "Days.ask_day" "last" "set_places" "tables" "__dict__" "keepsakes.heaps" "ask_wide" "Heap" "add" "least" "take" "size" "lying"
abbrev h4:Sc:=Sc.mk "lift" "sink" "lesser_below" "swap" "Heap.__init__" "item" "Heap.add" "Heap.least" "Heap.take" "Heap.size" "Heap.lying" "low" "Heap.lift" "high" "Heap.sink" "Heap.lesser_below" "Heap.swap" "row" "keepsakes.pieces" "rate" "legs_of" "prices" "last_legs" "way_of" "legs_by_start"
abbrev h5:Sc:=Sc.mk "price_at" "price_over" "turned" "check_of" "seek" "each" "cost" "keepsakes.least" "legs" "piece" "starting" "priced" "heap" "leg" "start" "price" "keepsakes.checks" "rows" "numbers" "check" "Piece" "is_good" "harmed" "Piece.__init__" "Piece.size"
abbrev h6:Sc:=Sc.mk "Piece.is_good" "bits" "Piece.harmed" "fits" "Whole" "kind" "laid" "with_rows" "Whole.__init__" "Whole.start" "Whole.kind" "Whole.laid" "Whole.with_rows" "Gain" "Gain.__init__" "Gain.start" "Gain.kind" "blocks" "Gain.laid" "Gain.with_rows" "keepsakes.shelves" "whole_of" "gain_of" "FIGURES" "0123456789"
abbrev h7:Sc:=Sc.mk "writes_number" "number_of" "change_of" "text_of" "CHECK_FIGURES" "line_of" "days" "keepsakes.words" "parts" "keepsakes.lines" "Shelf" "put" "lay" "drop" "following" "copied" "last_whole" "Shelf.__init__" "Shelf.put" "Shelf.lay" "Shelf.piece" "Shelf.drop" "Shelf.numbers" "Shelf.following" "Shelf.copied"
abbrev h8:Sc:=Sc.mk "Shelf.last_whole" "follows" "pieces" "keepsakes.tasks" "fetched" "reached" "last_pieces" "numbers_by_start" "cut_at" "answer" "joined" "healed" "has_good" "rescued" "way" "keepsakes.ways" "good" "met" "further" "keepsakes.mending" "shelves" "together" "mended" "replaced" "told"
abbrev h9:Sc:=Sc.mk "Task" "ask_many" "allowed" "bases_behind" "bases_of" "cost_of" "costs_of" "Task.__init__" "rates" "sizes" "weights" "choices" "bases" "task" "ways" "keepsakes.rows" "leg_cost" "day_cost" "bound_of" "best_plan" "task_of" "sizes_of" "held" "bound" "keepsakes.plans"
abbrev h10:Sc:=Sc.mk "FORMS" "KEPT" "read_row" "told_behind" "ask_form" "is_as_many" "is_within" "seal" "tidy" "carry" "harm" "heal" "marks" "lies" "reach" "fetch" "plan" "whole" "since" "words" "form" "keepsakes.rules" "Rule" "picks" "Rule.picks"
abbrev h11:Sc:=Sc.mk "LastFew" "LastFew.__init__" "LastFew.picks" "OneOfEach" "step" "OneOfEach.__init__" "firsts" "OneOfEach.picks" "Apart" "gap" "Apart.__init__" "picked" "Apart.picks" "Sealed" "Sealed.__init__" "Sealed.picks" "sealed_days" "keepsakes.merging" "AnyOf" "last_of" "rule_of" "rule_of_part" "merged" "rules" "AnyOf.__init__"
abbrev h12:Sc:=Sc.mk "AnyOf.picks" "keepsakes.ruletexts" "keepsakes.stores" "folded" "ready_days" "is_one_good" "fold_at" "needed" "tidied" "wanted" "left" "folds" "keepsakes.tidy" "rule" "staying" "thrown" "Store" "today" "keep" "deeds" "ask_shelf" "cost_of_pieces" "new_piece" "base_for" "note"
abbrev h13:Sc:=Sc.mk "fold" "Store.__init__" "changes" "Store.passes" "Store.today" "Store.keep" "Store.seal" "new" "Store.tidy" "mark" "next_ones" "deed" "Store.carry" "Store.deeds" "Store.marks" "Store.numbers" "Store.piece" "harmed_piece" "Store.harm" "Store.heal" "Store.reach" "some" "Store.legs" "Store.fetch" "Store.ask_shelf"
abbrev h14:Sc:=Sc.mk "Store.cost_of_pieces" "Store.new_piece" "Store.base_for" "Store.note" "Store.fold" "Store.together" "done" "noted" "seals" "keepsakes.desk" "do_deed" "listed" "some_of" "on_day" "on_keep" "on_seal" "on_tidy" "on_carry" "on_harm" "on_heal" "on_marks" "on_lies" "on_line" "store" "on_reach"
abbrev h15:Sc:=Sc.mk "on_fetch" "on_price" "on_way" "on_plan" "ANSWERS" "law_keepsakes_k89_plans_at_the_desk" "Desk" "_law_cell" "_law_stir" "_law_block" "_law_changes" "say" "Desk.__init__" "Desk.say" "_law_script" "_law_k" "_law_cell_here" "_law_number" "_law_allowed" "_law_size" "_law_base" "_law_cost" "_law_read" "_law_ahead" "_law_rates"
abbrev h16:Sc:=Sc.mk "_law_weights" "law" "_law_choices" "_law_weights_here" "_law_some" "_law_changes_here" "_law_wide" "_law_base_here" "_law_day" "_law_places" "_law_row" "_law_place" "_law_block_here" "_law_head" "_law_begin" "_law_rates_here" "_law_total" "_law_ways" "_law_way" "_law_size_here" "_law_told" "_law_words" "_law_figures" "_law_sign" "_law_many"
abbrev h17:=((((("tuple","code"),"frame"),(("dict","__main__.__loader__#opaque"),"function")),((("ValueError","builtin_function_or_method"),"type.__prepare__"),("type","Exception"))),(((("BaseException","object"),"ValueError.__new__"),("getset_descriptor","ExceptionGroup.__weakref__")),((("super","object.__init_subclass__"),"object.__new__"),("function.__dict__","function.__dict__#set"))))
abbrev X:Type:=(((((Sc×Sc)×Sc)×(Sc×Sc))×(((Sc×Sc)×Sc)×(Sc×Sc)))×((((Sc×Sc)×Sc)×(Sc×Sc))×((Sc×Sc)×((((((String×String)×String)×((String×String)×String))×(((String×String)×String)×(String×String)))×((((String×String)×String)×(String×String))×(((String×String)×String)×(String×String))))×Program))))×Params
noncomputable abbrev hs:=(((((h0,h1),h2),(h3,h4)),(((h5,h6),h7),(h8,h9))),((((h10,h11),h12),(h13,h14)),((h15,h16),(h17,PySem.Challenge.pw_keepsakes_k89_plans_at_the_desk))))
lay_quick h0 h1 h2 h3 h4 h5 h6 h7 h8 h9 h10 h11 h12 h13 h14 h15 h16 h17 PySem.Challenge.pw_keepsakes_k89_plans_at_the_desk
lay_quick hs
abbrev X.l0(x:X):=x.1.2.2.2.1.1.1.1.1.1
abbrev X.l1(x:X):=x.1.2.2.2.1.1.1.1.1.2
abbrev X.l2(x:X):=x.1.2.2.2.1.1.1.1.2
abbrev X.l3(x:X):=x.1.2.2.2.1.1.1.2.1.1
abbrev X.l4(x:X):=x.1.2.2.2.1.1.1.2.1.2
abbrev X.l5(x:X):=x.1.2.2.2.1.1.1.2.2
abbrev X.l6(x:X):=x.1.2.2.2.1.1.2.1.1.1
abbrev X.l7(x:X):=x.1.2.2.2.1.1.2.1.1.2
abbrev X.l8(x:X):=x.1.2.2.2.1.1.2.1.2
abbrev X.l9(x:X):=x.1.2.2.2.1.1.2.2.1
abbrev X.l10(x:X):=x.1.2.2.2.1.1.2.2.2
abbrev X.l11(x:X):=x.1.2.2.2.1.2.1.1.1.1
abbrev X.l12(x:X):=x.1.2.2.2.1.2.1.1.1.2
abbrev X.l13(x:X):=x.1.2.2.2.1.2.1.1.2
abbrev X.l14(x:X):=x.1.2.2.2.1.2.1.2.1
abbrev X.l15(x:X):=x.1.2.2.2.1.2.1.2.2
abbrev X.l16(x:X):=x.1.2.2.2.1.2.2.1.1.1
abbrev X.l17(x:X):=x.1.2.2.2.1.2.2.1.1.2
abbrev X.l18(x:X):=x.1.2.2.2.1.2.2.1.2
abbrev X.l19(x:X):=x.1.2.2.2.1.2.2.2.1
abbrev X.l20(x:X):=x.1.2.2.2.1.2.2.2.2
abbrev X.a(x:X):=x.1.1.1.1.1.1
abbrev X.b(x:X):=x.1.1.1.1.1.2
abbrev X.c(x:X):=x.1.1.1.1.2
abbrev X.d(x:X):=x.1.1.1.2.1
abbrev X.e(x:X):=x.1.1.1.2.2
abbrev X.f(x:X):=x.1.1.2.1.1.1
abbrev X.g(x:X):=x.1.1.2.1.1.2
abbrev X.h(x:X):=x.1.1.2.1.2
abbrev X.i(x:X):=x.1.1.2.2.1
abbrev X.j(x:X):=x.1.1.2.2.2
abbrev X.k(x:X):=x.1.2.1.1.1.1
abbrev X.l(x:X):=x.1.2.1.1.1.2
abbrev X.m(x:X):=x.1.2.1.1.2
abbrev X.n(x:X):=x.1.2.1.2.1
abbrev X.o(x:X):=x.1.2.1.2.2
abbrev X.p(x:X):=x.1.2.2.1.1
abbrev X.q(x:X):=x.1.2.2.1.2
abbrev b0(x:X):=PySem.W.boot_o_0 x.2
abbrev b1(x:X):=PySem.W.boot_o_1 x.2
abbrev b2(x:X):=PySem.W.boot_o_2 x.2
abbrev b3(x:X):=PySem.W.boot_o_3 x.2
abbrev b4(x:X):=PySem.W.boot_o_4 x.2
abbrev b5(x:X):=PySem.W.boot_o_5 x.2
abbrev b6(x:X):=PySem.W.boot_o_6 x.2
abbrev b7(x:X):=PySem.W.boot_o_7 x.2
abbrev b8(x:X):=PySem.W.boot_o_8 x.2
abbrev b9(x:X):=PySem.W.boot_o_9 x.2
abbrev b10(x:X):=PySem.W.boot_o_10 x.2
abbrev pg(x:X):Program:=x.1.2.2.2.2
def nth:List Stmt->Nat->Stmt:=λl=>@List.rec Stmt (λ_=>Nat->Stmt) (λ_=>.Pass ⟨0,0,0,0⟩) (λa _ ih n=>@Nat.rec (λ_=>Stmt) a (λm _=>ih m) n) l
abbrev st(x:X)(k:Nat):Stmt:=nth (pg x).main.body k
def cb:Stmt->List Stmt|.ClassDef _ _ _ y _ _ _ _ _ _ _=>y|_=>[]
abbrev sm(x:X)(k m:Nat):Stmt:=nth (cb (st x k)) m
def f0:Stmt->Str|.FunctionDef y _ _ _ _ _ _ _ _ _=>y|_=>default
def f1:Stmt->Arguments|.FunctionDef _ y _ _ _ _ _ _ _ _=>y|_=>default
def f2:Stmt->List Stmt|.FunctionDef _ _ y _ _ _ _ _ _ _=>y|_=>[]
def f6:Stmt->Scope|.FunctionDef _ _ _ _ _ _ y _ _ _=>y|_=>default
noncomputable abbrev u0:=@Obj.mk
abbrev u1:=@Value.type
abbrev u2:=@Option.none.{0} (@Nat)
abbrev u3:=@Data.seq
abbrev u4:=@List.toArray.{0} Value
abbrev u5:=@List.nil.{0} Value
abbrev u6:=@List.toArray.{0} (Option Value)
abbrev u7:=@List.nil.{0} (Option Value)
abbrev u8:=@Value.none
abbrev u9:=@Data.fields
abbrev u10:=@List.cons.{0} Value
noncomputable abbrev u11:=@Value.str
noncomputable abbrev u12:=@Value.int
noncomputable abbrev u13:=@Value.ref
abbrev u14:=@Value.bool
abbrev u15:=@Bool.false
abbrev u16:=@Data.plain
abbrev u17:=@List.cons.{0} (Option Value)
noncomputable abbrev u18:=@Option.some.{0} Value
abbrev u19:=@Option.none.{0} Value
abbrev u20:=@Data.dict
abbrev u21:=@List.toArray.{0} DictEntry
abbrev u22:=@List.cons.{0} DictEntry
abbrev u23:=@DictEntry.mk
abbrev u24:=@PyData.keyHash
abbrev u25:=@Value.builtin
abbrev u26:=@List.nil.{0} DictEntry
abbrev u27:=@Data.func
abbrev u28:=@FuncData.mk
abbrev u29:=@FuncBody.stmts
abbrev u30:=@List.nil.{0} (@Prod.{0,0} (@Str) (@Nat))
abbrev u31:=@Bool.true
abbrev u32:=@Data.cls
abbrev u33:=@ClassData.mk
abbrev u34:=@List.nil.{0} (@Str)
abbrev u35:=@Option.none.{0} (@Bool)
abbrev u36:=@List.cons.{0} (@Prod.{0,0} (@Nat) (@Obj))
abbrev u37:=@Prod.mk.{0,0} (@Nat) (@Obj)
abbrev u38:=@List.nil.{0} (@Prod.{0,0} (@Nat) (@Obj))
abbrev u39:=@Heap.mk
abbrev u40:=@Array.mk.{0} (@Obj)
abbrev u41:=@List.cons.{0} (@Obj)
abbrev u42:=@List.nil.{0} (@Obj)
abbrev u43:=@Life.mk
abbrev u44:=@List.nil.{0} (@Nat)
abbrev u45:=@List.nil.{0} (@Prod.{0,0} (@Nat) (@Nat))
abbrev u46:=@List.toArray.{0} (@Nat)
abbrev u47:=@List.cons.{0} (@Int)
abbrev u48:=@List.nil.{0} (@Int)
abbrev u49:=@PySem.W.BT.node
abbrev u50:=@PySem.W.BT.nil
noncomputable abbrev M(c:Value)(d:Data):Obj:=Obj.mk c none d #[]
noncomputable abbrev E(x:X)(s:Str)(n:Nat)(v:Value):DictEntry:=⟨PyData.keyHash x.2 s,.str s n,v⟩
abbrev N(o:X->Obj)(l r:X->PySem.W.BT):X->PySem.W.BT:=λx=>.node (o x) (l x) (r x)
abbrev Z:X->PySem.W.BT:=λ_=>.nil
abbrev Q(o:X->Obj)(l:X->List Obj):X->List Obj:=λx=>o x::l x
abbrev R:X->List Obj:=λ_=>[]
abbrev J(k:Nat)(o:X->Obj)(l:X->List (Nat×Obj)):X->List (Nat×Obj):=λx=>(k,o x)::l x
abbrev I:X->List (Nat×Obj):=λ_=>[]
def inz:PySem.W.BT->Nat->Obj->PySem.W.BT
 |.nil,_,o=>.node o .nil .nil
 |.node v l r,i,o=>if i=0 then .node o l r else if i % 2=1 then .node v (inz l (i / 2) o) r else .node v l (inz r (i / 2-1) o)
def gi:List (X->Obj)->Nat->X->PySem.W.BT->PySem.W.BT
 |[],_,_,t=>t
 |o::l,k,x,t=>gi l (k+1) x (inz t k (o x))
def G(t:X->PySem.W.BT)(k:Nat)(l:List (X->Obj)):X->PySem.W.BT:=λx=>gi l k x (t x)
def ap{α:Type}:List α->List α->List α
 |[],l=>l
 |a::k,l=>a::ap k l
def sz{α:Type}:List α->Nat->α->List α
 |[],_,_=>[]
 |_::l,0,b=>b::l
 |a::l,i+1,b=>a::sz l i b
def mp(x:X):List (X->Obj)->List Obj
 |[]=>[]
 |o::l=>o x::mp x l
def il{α:Type}:List α->List α->List α
 |[],l=>l
 |a::k,[]=>a::k
 |a::k,b::m=>a::b::il k m
def fl:PySem.W.BT->List Obj
 |.nil=>[]
 |.node o l r=>o::il (fl l) (fl r)
def pj:List Obj->Nat->List Nat->List (Nat×Obj)
 |o::l,k,a::m=>if k=a then(a,o)::pj l (k+1) m else pj l (k+1) (a::m)
 |_,_,_=>[]
structure Nf{α:Type}(e:α) where
 v:α
 h:v=e
noncomputable abbrev nf{α:Type}(e:α)(t:Nf e:=by refine' ⟨_,?_⟩;rotate_left;dsimp[G,gi,inz,ap,sz,mp,il,fl,pj];rfl):α:=t.v
def k0(x:X):Obj:=M (u1 x.l0) (u3 (u4 u5) 0)
def k1(x:X)(a0:Str)(a1 a2 a3:Nat)(a4:Int)(a5 a6:Nat)(a7:Int)(a8:Nat):Obj:=M (u1 x.l1) (u9 (u4 [u11 a0 a1,u11 a0 a2,u11 x.a.b a3,u12 a4 0,u12 0 0,u12 0 0,u12 0 0,u12 0 0,u13 a5,u14 u15,u12 181 0,u13 a6,u8,u8,u8,u8,u12 a7 0,u12 a4 0,u11 x.a.b a8]))
def k2(x:X)(a0 a1:Nat)(a2:Str)(a3:Nat):Obj:=u0 (u1 x.l2) u2 u16 (u6 [u18 (u13 a0),u18 (u13 3),u18 (u13 a1),u19,u18 (u11 a2 a3),u19,u18 (u13 0)])
def k3(x:X)(a0 a1:Int)(a2:Nat)(a3:Int)(a4:Nat):Obj:=M u8 (u9 (u4 [u12 a0 0,u12 a1 0,u13 a2,u12 a3 0,u12 a1 0,u13 a4]))
def k4(x:X)(a0:Str)(a1:Nat):Obj:=M (u1 x.l0) (u3 (u4 [u11 a0 a1]) 0)
def k5(x:X)(a0:Str)(a1 a2:Stmt):Obj:=M u8 (u27 (u28 a0 a0 (f1 a1) (u29 (f2 a1)) (f6 a2) 0 u30 u8 u8 u8 u8 u2 u8 u8 0))
def k6(x:X)(a0:Str)(a1:Nat)(a2:Str)(a3 a4:Nat)(a5 a6:Int)(a7 a8 a9 a10 a11:Nat)(a12:Int)(a13:Nat):Obj:=M (u1 x.l1) (u9 (u4 [u11 a0 a1,u11 a2 a3,u11 x.a.b a4,u12 a5 0,u12 a6 0,u12 0 0,u12 0 0,u12 3 0,u13 a7,u14 u31,u12 181 0,u13 a8,u8,u13 a9,u13 a10,u13 a11,u12 a12 0,u12 a5 0,u11 x.a.b a13]))
def k7(x:X)(a0:Str)(a1 a2:Stmt)(a3:Str)(a4 a5:Nat):Obj:=M (u1 x.l5) (u27 (u28 a0 a0 (f1 a1) (u29 (f2 a1)) (f6 a2) 3 u30 u8 u8 u8 (u11 a3 a4) u2 (u13 a5) u8 0))
def k8(x:X):Obj:=M (u1 x.l7) (u9 (u4 [u25 x.l8,u1 x.l9]))
def k9(x:X)(a0 a1:Nat)(a2:Int)(a3:Nat)(a4:Str)(a5 a6:Nat)(a7:Str)(a8 a9 a10 a11:Nat):Obj:=M (u1 x.l3) (u20 (u21 [E x x.a.v a0 (u11 x.a.e 204),E x x.a.x a1 (u12 a2 a3),E x a4 a5 (u13 a6),E x a7 a8 (u13 a9),E x x.a.f a10 u8]) a11)
def k10(x:X)(a0 a1:Nat):Obj:=M (u1 x.l14) (u9 (u4 [u11 x.b.a a0,u13 a1,u25 x.l15,u8]))
def k11(x:X)(a0:Nat):Obj:=M (u1 x.l16) (u9 (u4 [u13 a0,u13 a0,u13 a0]))
def k12(x:X)(a0:Nat):Obj:=M (u1 x.l7) (u9 (u4 [u25 x.l17,u13 a0]))
def k13(x:X)(a0:Nat):Obj:=M (u1 x.l0) (u3 (u4 [u13 a0]) 0)
def k14(x:X)(a0:Nat)(a1:Str)(a2 a3:Nat)(a4:Str)(a5 a6:Nat)(a7:Int)(a8:Nat)(a9:Str)(a10 a11 a12 a13:Nat):Obj:=M (u1 x.l3) (u20 (u21 [E x x.a.v a0 (u11 a1 a2),E x x.a.w a3 (u11 a4 a5),E x x.a.x a6 (u12 a7 a8),E x a9 a10 (u13 a11),E x x.a.y a12 (u13 a13)]) 5)
def k15(x:X)(a0:Int)(a1:Nat):Obj:=M u8 (u9 (u4 [u12 a0 0,u12 4 0,u13 a1]))
def k16(x:X)(a0:Str)(a1:Nat)(a2:Str)(a3:Nat):Obj:=M (u1 x.l0) (u3 (u4 [u11 a0 a1,u11 a2 a3]) 0)
def k17(x:X)(a0 a1:Str)(a2 a3:Stmt):Obj:=M u8 (u27 (u28 a0 a1 (f1 a2) (u29 (f2 a2)) (f6 a3) 0 u30 u8 u8 u8 u8 u2 u8 u8 0))
def k18(x:X)(a0 a1:Str)(a2 a3:Stmt)(a4:Str)(a5 a6:Nat):Obj:=M (u1 x.l5) (u27 (u28 a0 a1 (f1 a2) (u29 (f2 a2)) (f6 a3) 3 u30 u8 u8 u8 (u11 a4 a5) u2 (u13 a6) u8 0))
def k19(x:X)(a0:Str)(a1 a2 a3 a4 a5:Nat):Obj:=u0 (u1 x.l9) u2 (u32 (u33 a0 [u13 31] [u13 a1,u13 31,u1 x.l6,u1 x.l10,u1 x.l11,u1 x.l12] a2 a0 u31 u34 u5 u15 u35 u15)) (u6 [u18 (u13 a3),u19,u18 (u11 a0 a4),u18 (u11 a0 a5),u18 (u25 x.l13),u18 (u14 u31)])
def k20(x:X)(a0 a1:Int)(a2:Nat)(a3:Int)(a4:Nat)(a5:Int)(a6:Nat)(a7:Int)(a8:Nat)(a9:Int)(a10:Nat):Obj:=M u8 (u9 (u4 [u12 a0 0,u12 a1 0,u13 a2,u12 a3 0,u12 a1 0,u13 a4,u12 a5 0,u12 a1 0,u13 a6,u12 a7 0,u12 a1 0,u13 a8,u12 a9 0,u12 a1 0,u13 a10]))
def k21(x:X)(a0:Str)(a1:Nat)(a2:Str)(a3:Nat)(a4:Str)(a5:Nat):Obj:=M (u1 x.l0) (u3 (u4 [u11 a0 a1,u11 a2 a3,u11 a4 a5]) 0)
def k22(x:X)(a0:Str)(a1:Nat)(a2:Str)(a3 a4:Nat)(a5 a6:Int)(a7 a8 a9:Nat)(a10:Int)(a11:Nat):Obj:=M (u1 x.l1) (u9 (u4 [u11 a0 a1,u11 a2 a3,u11 x.a.b a4,u12 a5 0,u12 a6 0,u12 0 0,u12 0 0,u12 3 0,u13 a7,u14 u31,u12 181 0,u13 a8,u8,u8,u8,u13 a9,u12 a10 0,u12 a5 0,u11 x.a.b a11]))
def k23(x:X)(a0:Str)(a1:Nat)(a2:Str)(a3:Nat)(a4:Str)(a5:Nat)(a6:Str)(a7:Nat)(a8:Str)(a9:Nat):Obj:=M (u1 x.l0) (u3 (u4 [u11 a0 a1,u11 a2 a3,u11 a4 a5,u11 a6 a7,u11 a8 a9]) 0)
def k24(x:X)(a0:Str)(a1:Nat)(a2:Str)(a3:Nat)(a4:Str)(a5:Nat)(a6:Str)(a7:Nat):Obj:=M (u1 x.l0) (u3 (u4 [u11 a0 a1,u11 a2 a3,u11 a4 a5,u11 a6 a7]) 0)
def k25(x:X)(a0:Str)(a1 a2 a3 a4:Nat):Obj:=u0 (u1 x.l9) u2 (u32 (u33 a0 [u1 x.l12] [u13 a1,u1 x.l12] a2 a0 u31 u34 u5 u15 u35 u15)) (u6 [u19,u19,u18 (u11 a0 a3),u18 (u11 a0 a4),u18 (u25 x.l18),u18 (u14 u31)])
def k26(x:X)(a0 a1:Nat):Obj:=M (u1 x.l14) (u9 (u4 [u11 x.d.q a0,u13 a1,u25 x.l19,u25 x.l20]))
def k27(x:X)(a0:Str)(a1:Nat)(a2:Str)(a3:Nat)(a4:Str)(a5:Nat)(a6:Str)(a7:Nat)(a8:Str)(a9:Nat)(a10:Str)(a11:Nat):Obj:=M (u1 x.l0) (u3 (u4 [u11 a0 a1,u11 a2 a3,u11 a4 a5,u11 a6 a7,u11 a8 a9,u11 a10 a11]) 0)
def k28(x:X)(a0:Stmt):Obj:=M u8 (u27 (u28 (f0 a0) (f0 a0) (f1 a0) (u29 (f2 a0)) (f6 a0) 0 u30 u8 u8 u8 u8 u2 u8 u8 0))
def k29(x:X)(a0:Stmt)(a1:Str)(a2 a3:Nat):Obj:=M (u1 x.l5) (u27 (u28 (f0 a0) (f0 a0) (f1 a0) (u29 (f2 a0)) (f6 a0) 3 u30 u8 u8 u8 (u11 a1 a2) u2 (u13 a3) u8 0))
def k30(x:X)(a0:Str)(a1:Nat)(a2:Str)(a3:Nat)(a4:Str)(a5:Nat)(a6:Str)(a7:Nat)(a8:Str)(a9:Nat)(a10:Str)(a11:Nat)(a12:Str)(a13:Nat)(a14:Str)(a15:Nat):Obj:=M (u1 x.l0) (u3 (u4 [u11 a0 a1,u11 a2 a3,u11 a4 a5,u11 a6 a7,u11 a8 a9,u11 a10 a11,u11 a12 a13,u11 a14 a15]) 0)
def k31(x:X):Obj:=M (u1 x.l0) (u3 (u4 [u8]) 0)
def k32(x:X)(a0 a1:Str)(a2:Stmt)(a3:Nat)(a4:Str)(a5 a6:Nat):Obj:=M (u1 x.l5) (u27 (u28 a0 a1 (f1 a2) (u29 (f2 a2)) (f6 a2) 3 u30 (u13 a3) u8 u8 (u11 a4 a5) u2 (u13 a6) u8 0))
def k33(x:X)(a0:Str)(a1 a2 a3 a4 a5 a6:Nat):Obj:=u0 (u1 x.l9) u2 (u32 (u33 a0 [u13 a1] [u13 a2,u13 a1,u1 x.l12] a3 a0 u31 u34 u5 u15 u35 u15)) (u6 [u18 (u13 a4),u19,u18 (u11 a0 a5),u18 (u11 a0 a6),u18 (u25 x.l18),u18 (u14 u31)])
def k34(x:X)(a0:Int)(a1 a2:Nat):Obj:=M (u1 x.l0) (u3 (u4 [u12 a0 a1,u12 a0 a2]) 0)
def k35(x:X)(a0:Int)(a1:Nat):Obj:=M (u1 x.l0) (u3 (u4 [u12 a0 a1,u8]) 0)
def k36(x:X)(a0:Nat)(a1:Str)(a2 a3:Nat)(a4:Str)(a5 a6:Nat)(a7:Int)(a8 a9 a10:Nat)(a11:Str)(a12 a13 a14 a15:Nat):Obj:=M (u1 x.l3) (u20 (u21 [E x x.a.v a0 (u11 a1 a2),E x x.a.w a3 (u11 a4 a5),E x x.a.x a6 (u12 a7 a8),E x x.b.c a9 (u13 a10),E x a11 a12 (u13 a13),E x x.a.y a14 (u13 a15)]) 6)
def k37(x:X)(a0 a1:Nat)(a2:Int)(a3 a4 a5 a6 a7 a8 a9 a10:Nat):Obj:=M (u1 x.l3) (u20 (u21 [E x x.a.v a0 (u11 x.k.v 1574),E x x.a.x a1 (u12 a2 a3),E x x.b.c a4 (u13 a5),E x x.k.x a6 (u13 a7),E x x.a.y a8 (u13 a9),E x x.a.f a10 u8]) 2)
variable(x:X)
def o43:=k0 x
def o44(x:X):Obj:=M u8 (u9 (u4 u5))
def o45:=k1 x x.a.a 182 183 184 1 11 12 185 186
def o46:=k2 x 13 3 x.a.c 164
abbrev d0:List DictEntry:=[E x x.a.d 165 (u11 x.a.e 204),E x x.a.f 166 u8,E x x.a.g 167 u8,E x x.a.h 168 (u25 x.l4),E x x.a.i 169 u8,E x x.a.j 170 (u13 6),E x x.a.k 171 (u13 4),E x x.a.l 173 (u11 x.a.b 172),E x x.a.m 174 u8,E x x.a.n 193 (u13 21),E x x.a.o 195 (u12 18446744073709551615 194),E x x.a.p 197 (u12 40 196),E x x.a.q 199 (u12 20 198),E x x.a.r 201 (u12 7 200),E x x.a.s 203 (u12 1000000000000 202),E x x.a.t 223 (u13 31)]
def o49:=M (u1 x.l3) (u20 (u21 (d0 x)) 16)
def o50:=k3 x 1 0 20 10 27
def o53:=k4 x x.a.u 190
def o55:=k5 x x.a.n (st x 0) (st x 0)
def o56:=k6 x x.a.n 187 x.a.n 188 189 1 1 15 16 17 18 19 191 192
def o57:=k7 x x.a.n (st x 0) (st x 0) x.a.c 164 20
def o58:=M (u1 x.l0) (u3 (u4 [u1 x.l6]) 0)
def o59:=k8 x
def o60:=M (u1 x.l3) (u20 (u21 [E x x.a.v 213 (u11 x.a.e 204),E x x.a.w 215 (u11 x.a.t 214),E x x.a.x 217 (u12 10 216),E x x.a.y 218 (u13 29)]) 4)
def o63:=k1 x x.a.t 208 209 210 10 25 26 211 212
def o64:=k2 x 27 24 x.a.e 204
def o66:=k9 x 213 217 10 216 x.a.y 218 29 x.b.a 220 32 221 3
abbrev d2:List Value:=[u13 31,u1 x.l6,u1 x.l10,u1 x.l11,u1 x.l12]
abbrev d3:List (Option Value):=[u18 (u13 22),u19,u18 (u11 x.a.t 206),u18 (u11 x.a.t 214),u18 (u25 x.l13),u18 (u14 u31)]
def o67:=u0 (u1 x.l9) u2 (u32 (u33 x.a.t [u1 x.l6] (d2 x) 30 x.a.t u31 u34 u5 u15 u35 u15)) (u6 (d3 x))
def o68:=k10 x 219 31
def o69:=k11 x 31
def o70:=k12 x 31
abbrev d4:List DictEntry:=nf (ap (d0 x) [E x x.b.b 248 (u13 51)])
def o71:=M (u1 x.l3) (u20 (u21 (d4 x)) 17)
abbrev d5(x:X):List Value:=[u12 1 0,u12 0 0,u13 20,u12 10 0,u12 0 0,u13 27,u12 12 0,u12 0 0,u13 40]
def o72:=M u8 (u9 (u4 (d5 x)))
def o73:=u0 (u1 x.l9) u2 (u32 (u33 x.a.t [u1 x.l6] (d2 x) 30 x.a.t u31 u34 [u13 51] u15 u35 u15)) (u6 (d3 x))
def o74:=k13 x 31
def o76:=k14 x 231 x.a.e 204 233 x.b.b 232 235 12 234 x.b.c 243 48 245 49
def o78:=k15 x 14 47
def o79:=k1 x x.b.b 226 227 228 12 38 39 229 230
def o80:=k2 x 40 37 x.a.e 204
def o83:=k16 x x.b.d 239 x.b.e 240
def o85:=k17 x x.b.c x.b.f (sm x 8 0) (sm x 8 0)
def o86:=k6 x x.b.c 236 x.b.f 237 238 14 2 42 43 44 45 46 241 242
def o87:=k18 x x.b.c x.b.f (sm x 8 0) (sm x 8 0) x.a.e 204 47
def o88:=k4 x x.b.e 244
def o89:=k9 x 231 235 12 234 x.b.c 243 48 x.a.y 245 49 246 2
def o90:=k19 x x.b.b 51 50 35 224 232
def o91:=k11 x 51
def o92:=k12 x 51
abbrev d8:List DictEntry:=nf (ap (d4 x) [E x x.b.g 273 (u13 70)])
def o93:=M (u1 x.l3) (u20 (u21 (d8 x)) 18)
abbrev d9:List Value:=nf (ap (d5 x) [u12 16 0,u12 0 0,u13 59])
def o94:=M u8 (u9 (u4 (d9 x)))
def o95:=u0 (u1 x.l9) u2 (u32 (u33 x.a.t [u1 x.l6] (d2 x) 30 x.a.t u31 u34 [u13 51,u13 70] u15 u35 u15)) (u6 (d3 x))
def o98:=k14 x 256 x.a.e 204 258 x.b.g 257 260 16 259 x.b.c 268 67 270 68
def aau:=k15 x 18 66
def RY:=k1 x x.b.g 251 252 253 16 57 58 254 255
def Rn:=k2 x 59 56 x.a.e 204
def aaV:=k16 x x.b.d 264 x.b.h 265
def RW:=k17 x x.b.c x.b.i (sm x 9 0) (sm x 9 0)
def ZC:=k6 x x.b.c 261 x.b.i 262 263 18 2 61 62 63 64 65 266 267
def UQ:=k18 x x.b.c x.b.i (sm x 9 0) (sm x 9 0) x.a.e 204 66
def WE:=k4 x x.b.h 269
def Wr:=k9 x 256 260 16 259 x.b.c 268 67 x.a.y 270 68 271 2
def Yt:=k19 x x.b.g 70 69 54 249 257
def RU:=k11 x 70
def Um:=k12 x 70
abbrev d12:List DictEntry:=nf (ap (d8 x) [E x x.b.j 298 (u13 89)])
def ag4:=M (u1 x.l3) (u20 (u21 (d12 x)) 19)
def agY:=k20 x 1 0 20 10 27 12 40 16 59 20 78
def ah2:=u0 (u1 x.l9) u2 (u32 (u33 x.a.t [u1 x.l6] (d2 x) 30 x.a.t u31 u34 [u13 51,u13 70,u13 89] u15 u35 u15)) (u6 (d3 x))
def aaJ:=k14 x 281 x.a.e 204 283 x.b.j 282 285 20 284 x.b.c 293 86 295 87
def Rw:=k15 x 22 85
def W7:=k1 x x.b.j 276 277 278 20 76 77 279 280
def abQ:=k2 x 78 75 x.a.e 204
def V4:=k16 x x.b.d 289 x.b.k 290
def RP:=k17 x x.b.c x.b.l (sm x 10 0) (sm x 10 0)
def V8:=k6 x x.b.c 286 x.b.l 287 288 22 2 80 81 82 83 84 291 292
def U6:=k18 x x.b.c x.b.l (sm x 10 0) (sm x 10 0) x.a.e 204 85
def aab:=k4 x x.b.k 294
def VB:=k9 x 281 285 20 284 x.b.c 293 86 x.a.y 295 87 296 2
def Zi:=k19 x x.b.j 89 88 73 274 282
def WD:=k11 x 89
def Xa:=k12 x 89
abbrev d15:List DictEntry:=nf (ap (d12 x) [E x x.b.m 323 (u13 108)])
def ahR:=M (u1 x.l3) (u20 (u21 (d15 x)) 20)
abbrev d16:List Value:=nf (ap (d9 x) [u12 20 0,u12 0 0,u13 78,u12 24 0,u12 0 0,u13 97])
def ahQ:=M u8 (u9 (u4 (d16 x)))
abbrev d18(x:X):List Value:=[u13 51,u13 70,u13 89,u13 108]
def ahh:=u0 (u1 x.l9) u2 (u32 (u33 x.a.t [u1 x.l6] (d2 x) 30 x.a.t u31 u34 (d18 x) u15 u35 u15)) (u6 (d3 x))
def aae:=k14 x 306 x.a.e 204 308 x.b.m 307 310 24 309 x.b.c 318 105 320 106
def ZK:=k15 x 26 104
def WM:=k1 x x.b.m 301 302 303 24 95 96 304 305
def Wt:=k2 x 97 94 x.a.e 204
def abb:=k16 x x.b.d 314 x.b.n 315
def aa5:=k17 x x.b.c x.b.o (sm x 11 0) (sm x 11 0)
def RN:=k6 x x.b.c 311 x.b.o 312 313 26 2 99 100 101 102 103 316 317
def ac8:=k18 x x.b.c x.b.o (sm x 11 0) (sm x 11 0) x.a.e 204 104
def WQ:=k4 x x.b.n 319
def acS:=k9 x 306 310 24 309 x.b.c 318 105 x.a.y 320 106 321 2
def ZD:=k19 x x.b.m 108 107 92 299 307
def UT:=k11 x 108
def abm:=k12 x 108
abbrev d20:List DictEntry:=nf (ap (d15 x) [E x x.b.p 348 (u13 127)])
def ahm:=M (u1 x.l3) (u20 (u21 (d20 x)) 21)
abbrev d21:List Value:=nf (ap (d16 x) [u12 28 0,u12 0 0,u13 116])
def ag9:=M u8 (u9 (u4 (d21 x)))
abbrev d23:List Value:=nf (ap (d18 x) [u13 127])
def agZ:=u0 (u1 x.l9) u2 (u32 (u33 x.a.t [u1 x.l6] (d2 x) 30 x.a.t u31 u34 (d23 x) u15 u35 u15)) (u6 (d3 x))
def U1:=k14 x 331 x.a.e 204 333 x.b.p 332 335 28 334 x.b.c 343 124 345 125
def Vg:=k15 x 30 123
def VZ:=k1 x x.b.p 326 327 328 28 114 115 329 330
def ZV:=k2 x 116 113 x.a.e 204
def adg:=k16 x x.b.d 339 x.b.q 340
def aa6:=k17 x x.b.c x.b.r (sm x 12 0) (sm x 12 0)
def Y8:=k6 x x.b.c 336 x.b.r 337 338 30 2 118 119 120 121 122 341 342
def Xq:=k18 x x.b.c x.b.r (sm x 12 0) (sm x 12 0) x.a.e 204 123
def Rx:=k4 x x.b.q 344
def abU:=k9 x 331 335 28 334 x.b.c 343 124 x.a.y 345 125 346 2
def V0:=k19 x x.b.p 127 126 111 324 332
def adj:=k11 x 127
def Uh:=k12 x 127
abbrev d25:List DictEntry:=nf (ap (d20 x) [E x x.b.s 375 (u13 146)])
def ahT:=M (u1 x.l3) (u20 (u21 (d25 x)) 22)
abbrev d26:List Value:=nf (ap (d21 x) [u12 32 0,u12 0 0,u13 135])
def ahZ:=M u8 (u9 (u4 (d26 x)))
abbrev d28:List Value:=nf (ap (d23 x) [u13 146])
def ahB:=u0 (u1 x.l9) u2 (u32 (u33 x.a.t [u1 x.l6] (d2 x) 30 x.a.t u31 u34 (d28 x) u15 u35 u15)) (u6 (d3 x))
def Tt:=k14 x 356 x.a.e 204 358 x.b.s 357 360 32 359 x.b.c 369 143 372 144
def Vd:=k15 x 34 142
def U3:=k1 x x.b.s 351 352 353 32 133 134 354 355
def VS:=k2 x 135 132 x.a.e 204
def YI:=k21 x x.b.d 364 x.b.t 365 x.b.q 366
def Uo:=k17 x x.b.c x.b.u (sm x 13 0) (sm x 13 0)
def Tv:=k6 x x.b.c 361 x.b.u 362 363 34 3 137 138 139 140 141 367 368
def Yd:=k18 x x.b.c x.b.u (sm x 13 0) (sm x 13 0) x.a.e 204 142
def ac5:=k16 x x.b.t 370 x.b.q 371
def acK:=k9 x 356 360 32 359 x.b.c 369 143 x.a.y 372 144 373 2
def acq:=k19 x x.b.s 146 145 130 349 357
def acX:=k11 x 146
def abV:=k12 x 146
abbrev d30:List DictEntry:=nf (ap (d25 x) [E x x.b.v 400 (u13 165)])
def ail:=M (u1 x.l3) (u20 (u21 (d30 x)) 23)
abbrev d31:List Value:=nf (ap (d26 x) [u12 37 0,u12 0 0,u13 154])
def agW:=M u8 (u9 (u4 (d31 x)))
abbrev d33:List Value:=nf (ap (d28 x) [u13 165])
def ahb:=u0 (u1 x.l9) u2 (u32 (u33 x.a.t [u1 x.l6] (d2 x) 30 x.a.t u31 u34 (d33 x) u15 u35 u15)) (u6 (d3 x))
def ach:=k14 x 383 x.a.e 204 385 x.b.v 384 387 37 386 x.b.c 395 162 397 163
def YB:=k15 x 39 161
def Sg:=k1 x x.b.v 378 379 380 37 152 153 381 382
def Zo:=k2 x 154 151 x.a.e 204
def Wj:=k16 x x.b.d 391 x.b.w 392
def Xj:=k17 x x.b.c x.b.x (sm x 14 0) (sm x 14 0)
def Xv:=k6 x x.b.c 388 x.b.x 389 390 39 2 156 157 158 159 160 393 394
def UY:=k18 x x.b.c x.b.x (sm x 14 0) (sm x 14 0) x.a.e 204 161
def W9:=k4 x x.b.w 396
def XE:=k9 x 383 387 37 386 x.b.c 395 162 x.a.y 397 163 398 2
def Uw:=k19 x x.b.v 165 164 149 376 384
def Za:=k11 x 165
def Xr:=k12 x 165
abbrev d35:List DictEntry:=nf (ap (d30 x) [E x x.b.y 425 (u13 184)])
def ahO:=M (u1 x.l3) (u20 (u21 (d35 x)) 24)
abbrev d36:List Value:=nf (ap (d31 x) [u12 41 0,u12 0 0,u13 173])
def ahu:=M u8 (u9 (u4 (d36 x)))
abbrev d38:List Value:=nf (ap (d33 x) [u13 184])
def aih:=u0 (u1 x.l9) u2 (u32 (u33 x.a.t [u1 x.l6] (d2 x) 30 x.a.t u31 u34 (d38 x) u15 u35 u15)) (u6 (d3 x))
def Ti:=k14 x 408 x.a.e 204 410 x.b.y 409 412 41 411 x.b.c 420 181 422 182
def Ry:=k15 x 43 180
def Yp:=k1 x x.b.y 403 404 405 41 171 172 406 407
def Vf:=k2 x 173 170 x.a.e 204
def acQ:=k16 x x.b.d 416 x.c.a 417
def Sh:=k17 x x.b.c x.c.b (sm x 15 0) (sm x 15 0)
def aa9:=k6 x x.b.c 413 x.c.b 414 415 43 2 175 176 177 178 179 418 419
def abi:=k18 x x.b.c x.c.b (sm x 15 0) (sm x 15 0) x.a.e 204 180
def SO:=k4 x x.c.a 421
def Tz:=k9 x 408 412 41 411 x.b.c 420 181 x.a.y 422 182 423 2
def aam:=k19 x x.b.y 184 183 168 401 409
def Uc:=k11 x 184
def acF:=k12 x 184
abbrev d40:List DictEntry:=nf (ap (d35 x) [E x x.c.c 450 (u13 203)])
def agV:=M (u1 x.l3) (u20 (u21 (d40 x)) 25)
abbrev d41:List Value:=nf (ap (d36 x) [u12 45 0,u12 0 0,u13 192])
def ahY:=M u8 (u9 (u4 (d41 x)))
abbrev d43:List Value:=nf (ap (d38 x) [u13 203])
def aib:=u0 (u1 x.l9) u2 (u32 (u33 x.a.t [u1 x.l6] (d2 x) 30 x.a.t u31 u34 (d43 x) u15 u35 u15)) (u6 (d3 x))
def RZ:=k14 x 433 x.a.e 204 435 x.c.c 434 437 45 436 x.b.c 445 200 447 201
def Rb:=k15 x 47 199
def Yr:=k1 x x.c.c 428 429 430 45 190 191 431 432
def aap:=k2 x 192 189 x.a.e 204
def TQ:=k16 x x.b.d 441 x.b.q 442
def ZG:=k17 x x.b.c x.c.d (sm x 16 0) (sm x 12 0)
def acg:=k6 x x.b.c 438 x.c.d 439 440 47 2 194 195 196 197 198 443 444
def acA:=k18 x x.b.c x.c.d (sm x 16 0) (sm x 12 0) x.a.e 204 199
def RH:=k4 x x.b.q 446
def Vi:=k9 x 433 437 45 436 x.b.c 445 200 x.a.y 447 201 448 2
def adh:=k19 x x.c.c 203 202 187 426 434
def Zt:=k11 x 203
def RM:=k12 x 203
abbrev d45:List DictEntry:=nf (ap (d40 x) [E x x.c.e 466 (u13 215)])
def air:=M (u1 x.l3) (u20 (u21 (d45 x)) 26)
abbrev d46:List Value:=nf (ap (d41 x) [u12 49 0,u12 0 0,u13 211])
def ahX:=M u8 (u9 (u4 (d46 x)))
abbrev d48:List Value:=nf (ap (d43 x) [u13 215])
def ahe:=u0 (u1 x.l9) u2 (u32 (u33 x.a.t [u1 x.l6] (d2 x) 30 x.a.t u31 u34 (d48 x) u15 u35 u15)) (u6 (d3 x))
def ZM:=M (u1 x.l3) (u20 (u21 [E x x.a.v 458 (u11 x.a.e 204),E x x.a.w 460 (u11 x.c.e 459),E x x.a.x 462 (u12 49 461),E x x.a.y 463 (u13 213)]) 4)
def abv:=k1 x x.c.e 453 454 455 49 209 210 456 457
def XQ:=k2 x 211 208 x.a.e 204
def Uk:=M (u1 x.l3) (u20 (u21 [E x x.a.v 458 (u11 x.a.e 204),E x x.a.x 462 (u12 49 461),E x x.a.y 463 (u13 213),E x x.a.f 464 u8]) 2)
def SJ:=k19 x x.c.e 215 214 206 451 459
def aaq:=k11 x 215
def RO:=k12 x 215
abbrev d52:List DictEntry:=nf (ap (d45 x) [E x x.c.f 491 (u13 234)])
def aif:=M (u1 x.l3) (u20 (u21 (d52 x)) 27)
abbrev d53:List Value:=nf (ap (d46 x) [u12 51 0,u12 0 0,u13 223])
def ahI:=M u8 (u9 (u4 (d53 x)))
abbrev d55:List Value:=nf (ap (d48 x) [u13 234])
def ahN:=u0 (u1 x.l9) u2 (u32 (u33 x.a.t [u1 x.l6] (d2 x) 30 x.a.t u31 u34 (d55 x) u15 u35 u15)) (u6 (d3 x))
def U9:=k14 x 474 x.a.e 204 476 x.c.f 475 478 51 477 x.b.c 486 231 488 232
def VI:=k15 x 53 230
def S9:=k1 x x.c.f 469 470 471 51 221 222 472 473
def Xn:=k2 x 223 220 x.a.e 204
def acn:=k16 x x.b.d 482 x.c.g 483
def aaY:=k17 x x.b.c x.c.h (sm x 18 0) (sm x 18 0)
def Xb:=k6 x x.b.c 479 x.c.h 480 481 53 2 225 226 227 228 229 484 485
def aaE:=k18 x x.b.c x.c.h (sm x 18 0) (sm x 18 0) x.a.e 204 230
def aar:=k4 x x.c.g 487
def Wv:=k9 x 474 478 51 477 x.b.c 486 231 x.a.y 488 232 489 2
def abT:=k19 x x.c.f 234 233 218 467 475
def Rh:=k11 x 234
def abL:=k12 x 234
abbrev d57:List DictEntry:=nf (ap (d52 x) [E x x.c.i 518 (u13 253)])
def aiw:=M (u1 x.l3) (u20 (u21 (d57 x)) 28)
abbrev d58:List Value:=nf (ap (d53 x) [u12 55 0,u12 0 0,u13 242])
def ag6:=M u8 (u9 (u4 (d58 x)))
abbrev d60:List Value:=nf (ap (d55 x) [u13 253])
def ag1:=u0 (u1 x.l9) u2 (u32 (u33 x.a.t [u1 x.l6] (d2 x) 30 x.a.t u31 u34 (d60 x) u15 u35 u15)) (u6 (d3 x))
def VY:=k14 x 499 x.a.e 204 501 x.c.i 500 503 55 502 x.b.c 512 250 515 251
def abD:=k15 x 57 249
def WK:=k1 x x.c.i 494 495 496 55 240 241 497 498
def UN:=k2 x 242 239 x.a.e 204
def YU:=k21 x x.b.d 507 x.b.q 508 x.b.t 509
def V3:=k17 x x.b.c x.c.j (sm x 19 0) (sm x 19 0)
def ZY:=k6 x x.b.c 504 x.c.j 505 506 57 3 244 245 246 247 248 510 511
def YM:=k18 x x.b.c x.c.j (sm x 19 0) (sm x 19 0) x.a.e 204 249
def Ru:=k16 x x.b.t 513 x.b.q 514
def Yl:=k9 x 499 503 55 502 x.b.c 512 250 x.a.y 515 251 516 2
def acH:=k19 x x.c.i 253 252 237 492 500
def Xm:=k11 x 253
def YH:=k12 x 253
abbrev d62:List DictEntry:=nf (ap (d57 x) [E x x.c.k 545 (u13 272)])
def ahP:=M (u1 x.l3) (u20 (u21 (d62 x)) 29)
abbrev d63:List Value:=nf (ap (d58 x) [u12 60 0,u12 0 0,u13 261])
def agX:=M u8 (u9 (u4 (d63 x)))
abbrev d65:List Value:=nf (ap (d60 x) [u13 272])
def ais:=u0 (u1 x.l9) u2 (u32 (u33 x.a.t [u1 x.l6] (d2 x) 30 x.a.t u31 u34 (d65 x) u15 u35 u15)) (u6 (d3 x))
def XR:=k14 x 526 x.a.e 204 528 x.c.k 527 530 60 529 x.b.c 539 269 542 270
def XM:=k15 x 62 268
def aak:=k1 x x.c.k 521 522 523 60 259 260 524 525
def acs:=k2 x 261 258 x.a.e 204
def Ww:=k21 x x.b.d 534 x.b.q 535 x.c.l 536
def aaP:=k17 x x.b.c x.c.m (sm x 20 0) (sm x 20 0)
def Vq:=k6 x x.b.c 531 x.c.m 532 533 62 3 263 264 265 266 267 537 538
def aa0:=k18 x x.b.c x.c.m (sm x 20 0) (sm x 20 0) x.a.e 204 268
def ada:=k16 x x.c.l 540 x.b.q 541
def VE:=k9 x 526 530 60 529 x.b.c 539 269 x.a.y 542 270 543 2
def Ss:=k19 x x.c.k 272 271 256 519 527
def Xg:=k11 x 272
def Uy:=k12 x 272
abbrev d67:List DictEntry:=nf (ap (d62 x) [E x x.c.n 570 (u13 291)])
def aii:=M (u1 x.l3) (u20 (u21 (d67 x)) 30)
abbrev d68:List Value:=nf (ap (d63 x) [u12 65 0,u12 0 0,u13 280])
def aie:=M u8 (u9 (u4 (d68 x)))
abbrev d70:List Value:=nf (ap (d65 x) [u13 291])
def ahJ:=u0 (u1 x.l9) u2 (u32 (u33 x.a.t [u1 x.l6] (d2 x) 30 x.a.t u31 u34 (d70 x) u15 u35 u15)) (u6 (d3 x))
def Xc:=k14 x 553 x.a.e 204 555 x.c.n 554 557 65 556 x.b.c 565 288 567 289
def RE:=k15 x 67 287
def Sy:=k1 x x.c.n 548 549 550 65 278 279 551 552
def Yg:=k2 x 280 277 x.a.e 204
def aaT:=k16 x x.b.d 561 x.c.o 562
def TY:=k17 x x.b.c x.c.p (sm x 21 0) (sm x 21 0)
def SX:=k6 x x.b.c 558 x.c.p 559 560 67 2 282 283 284 285 286 563 564
def Rg:=k18 x x.b.c x.c.p (sm x 21 0) (sm x 21 0) x.a.e 204 287
def aaz:=k4 x x.c.o 566
def aaG:=k9 x 553 557 65 556 x.b.c 565 288 x.a.y 567 289 568 2
def Xf:=k19 x x.c.n 291 290 275 546 554
def Zb:=k11 x 291
def SV:=k12 x 291
abbrev d72:List DictEntry:=nf (ap (d67 x) [E x x.c.q 595 (u13 310)])
def ahp:=M (u1 x.l3) (u20 (u21 (d72 x)) 31)
abbrev d73:List Value:=nf (ap (d68 x) [u12 69 0,u12 0 0,u13 299])
def ahs:=M u8 (u9 (u4 (d73 x)))
abbrev d75:List Value:=nf (ap (d70 x) [u13 310])
def ag3:=u0 (u1 x.l9) u2 (u32 (u33 x.a.t [u1 x.l6] (d2 x) 30 x.a.t u31 u34 (d75 x) u15 u35 u15)) (u6 (d3 x))
def Wk:=k14 x 578 x.a.e 204 580 x.c.q 579 582 69 581 x.b.c 590 307 592 308
def abW:=k15 x 71 306
def acI:=k1 x x.c.q 573 574 575 69 297 298 576 577
def Rj:=k2 x 299 296 x.a.e 204
def Y6:=k16 x x.b.d 586 x.c.r 587
def Vc:=k17 x x.b.c x.c.s (sm x 22 0) (sm x 22 0)
def aaO:=k6 x x.b.c 583 x.c.s 584 585 71 2 301 302 303 304 305 588 589
def VL:=k18 x x.b.c x.c.s (sm x 22 0) (sm x 22 0) x.a.e 204 306
def ZP:=k4 x x.c.r 591
def Ra:=k9 x 578 582 69 581 x.b.c 590 307 x.a.y 592 308 593 2
def Rm:=k19 x x.c.q 310 309 294 571 579
def Zl:=k11 x 310
def ab6:=k12 x 310
abbrev d77:List DictEntry:=nf (ap (sz (d72 x) 0 (E x x.a.d 165 (u11 x.c.t 621))) [E x x.c.u 620 (u13 329)])
def ain:=M (u1 x.l3) (u20 (u21 (d77 x)) 32)
abbrev d78:List Value:=nf (ap (d73 x) [u12 73 0,u12 0 0,u13 318])
def ah0:=M u8 (u9 (u4 (d78 x)))
def ack:=u0 (u1 x.l9) u2 (u32 (u33 x.a.t [u1 x.l6] (d2 x) 30 x.a.t u31 u34 ((nf (ap (d75 x) [u13 329]))) u15 u35 u15)) (u6 (d3 x))
def Ud:=k14 x 603 x.a.e 204 605 x.c.u 604 607 73 606 x.b.c 615 326 617 327
def Ys:=k15 x 75 325
def Y4:=k1 x x.c.u 598 599 600 73 316 317 601 602
def acE:=k2 x 318 315 x.a.e 204
def acV:=k16 x x.b.d 611 x.c.v 612
def UR:=k17 x x.b.c x.c.w (sm x 23 0) (sm x 23 0)
def acG:=k6 x x.b.c 608 x.c.w 609 610 75 2 320 321 322 323 324 613 614
def S7:=k18 x x.b.c x.c.w (sm x 23 0) (sm x 23 0) x.a.e 204 325
def TR:=k4 x x.c.v 616
def ZQ:=k9 x 603 607 73 606 x.b.c 615 326 x.a.y 617 327 618 2
def SG:=k19 x x.c.u 329 328 313 596 604
def Uq:=k11 x 329
def Ux:=k12 x 329
abbrev d82:List DictEntry:=nf (ap (d77 x) [E x x.c.x 696 (u13 381)])
def ahx:=M (u1 x.l3) (u20 (u21 (d82 x)) 33)
abbrev d83:List Value:=nf (ap (d78 x) [u12 78 0,u12 0 0,u13 337])
def agU:=M u8 (u9 (u4 (d83 x)))
def abk:=M (u1 x.l3) (u20 (u21 [E x x.a.v 630 (u11 x.c.t 621),E x x.a.w 632 (u11 x.c.x 631),E x x.a.x 634 (u12 78 633),E x x.b.c 642 (u13 345),E x x.c.y 648 (u13 350),E x x.d.a 656 (u13 357),E x x.d.b 667 (u13 364),E x x.d.c 676 (u13 371),E x x.d.d 684 (u13 378),E x x.a.y 689 (u13 379)]) 10)
def TF(x:X):Obj:=M u8 (u9 (u4 [u12 80 0,u12 4 0,u13 344,u12 87 0,u12 4 0,u13 349,u12 98 0,u12 4 0,u13 356,u12 102 0,u12 4 0,u13 363,u12 110 0,u12 4 0,u13 370,u12 116 0,u12 4 0,u13 377]))
def XU:=k1 x x.c.x 625 626 627 78 335 336 628 629
def acp:=k2 x 337 334 x.c.t 621
def WN:=k16 x x.b.d 638 x.b.h 639
def aad:=k17 x x.b.c x.d.e (sm x 25 0) (sm x 25 0)
def WY:=k6 x x.b.c 635 x.d.e 636 637 80 2 339 340 341 342 343 640 641
def Vs:=k18 x x.b.c x.d.e (sm x 25 0) (sm x 25 0) x.c.t 621 344
def acZ:=k17 x x.c.y x.d.f (sm x 25 1) (sm x 25 1)
def aas:=k22 x x.c.y 643 x.d.f 644 645 87 2 346 347 348 646 647
def TX:=k18 x x.c.y x.d.f (sm x 25 1) (sm x 25 1) x.c.t 621 349
def Xz:=k16 x x.b.d 652 x.b.q 653
def UZ:=k17 x x.d.a x.d.g (sm x 25 2) (sm x 25 2)
def We:=k6 x x.d.a 649 x.d.g 650 651 98 2 351 352 353 354 355 654 655
def RJ:=k18 x x.d.a x.d.g (sm x 25 2) (sm x 25 2) x.c.t 621 356
def R9:=k23 x x.b.d 660 x.d.h 661 x.d.i 662 x.d.j 663 x.b.q 664
def Rq:=k17 x x.d.b x.d.k (sm x 25 3) (sm x 25 3)
def Vr:=k6 x x.d.b 657 x.d.k 658 659 102 3 358 359 360 361 362 665 666
def Zu:=k18 x x.d.b x.d.k (sm x 25 3) (sm x 25 3) x.c.t 621 363
def aaC:=k21 x x.b.d 671 x.b.k 672 x.b.n 673
def aby:=k17 x x.d.c x.d.l (sm x 25 4) (sm x 25 4)
def Y9:=k6 x x.d.c 668 x.d.l 669 670 110 3 365 366 367 368 369 674 675
def ZT:=k18 x x.d.c x.d.l (sm x 25 4) (sm x 25 4) x.c.t 621 370
def abr:=k16 x x.b.d 680 x.b.q 681
def VM:=k17 x x.d.d x.d.m (sm x 25 5) (sm x 25 5)
def S2:=k6 x x.d.d 677 x.d.m 678 679 116 2 372 373 374 375 376 682 683
def ZH:=k18 x x.d.d x.d.m (sm x 25 5) (sm x 25 5) x.c.t 621 377
def aa2:=k24 x x.d.n 685 x.d.o 686 x.d.p 687 x.b.h 688
def acR:=M (u1 x.l3) (u20 (u21 [E x x.a.v 630 (u11 x.c.t 621),E x x.a.x 634 (u12 78 633),E x x.b.c 642 (u13 345),E x x.c.y 648 (u13 350),E x x.d.a 656 (u13 357),E x x.d.b 667 (u13 364),E x x.d.c 676 (u13 371),E x x.d.d 684 (u13 378),E x x.a.y 689 (u13 379),E x x.d.q 691 (u13 382),E x x.b.a 693 (u13 383),E x x.a.f 694 u8]) 4)
def ab4:=k25 x x.c.x 381 380 623 631
def adm:=k26 x 690 381
def aa7:=k10 x 692 381
def Va:=k11 x 381
def aat:=k12 x 381
abbrev d87:List DictEntry:=nf (ap (sz (d82 x) 0 (E x x.a.d 165 (u11 x.d.r 704))) [E x x.d.s 703 (u13 392)])
def aho:=M (u1 x.l3) (u20 (u21 (d87 x)) 34)
abbrev d88:List Value:=nf (ap (d83 x) [u12 119 0,u12 0 0,u13 391])
def ah5:=M u8 (u9 (u4 (d88 x)))
def Ul:=k4 x x.b.h 700
def aa8:=k5 x x.d.s (st x 26) (st x 26)
def abE:=k6 x x.d.s 697 x.d.s 698 699 119 1 386 387 388 389 390 701 702
def acw:=k7 x x.d.s (st x 26) (st x 26) x.c.t 621 391
abbrev d89:List DictEntry:=nf (ap (d87 x) [E x x.d.t 809 (u13 472)])
def ah9:=M (u1 x.l3) (u20 (u21 (d89 x)) 35)
abbrev d90:List Value:=nf (ap (d88 x) [u12 123 0,u12 0 0,u13 398])
def ah8:=M u8 (u9 (u4 (d90 x)))
def Sq:=M (u1 x.l3) (u20 (u21 [E x x.a.v 713 (u11 x.d.r 704),E x x.a.w 715 (u11 x.d.t 714),E x x.a.x 717 (u12 123 716),E x x.b.c 724 (u13 406),E x x.d.u 732 (u13 413),E x x.d.v 739 (u13 420),E x x.d.w 748 (u13 427),E x x.d.x 755 (u13 434),E x x.d.y 762 (u13 441),E x x.e.a 771 (u13 448),E x x.e.b 781 (u13 455),E x x.e.c 790 (u13 462),E x x.e.d 800 (u13 469),E x x.a.y 802 (u13 470)]) 14)
def W2(x:X):Obj:=M u8 (u9 (u4 [u12 125 0,u12 4 0,u13 405,u12 128 0,u12 4 0,u13 412,u12 132 0,u12 4 0,u13 419,u12 137 0,u12 4 0,u13 426,u12 145 0,u12 4 0,u13 433,u12 148 0,u12 4 0,u13 440,u12 151 0,u12 4 0,u13 447,u12 157 0,u12 4 0,u13 454,u12 165 0,u12 4 0,u13 461,u12 171 0,u12 4 0,u13 468]))
def abF:=k1 x x.d.t 708 709 710 123 396 397 711 712
def ZW:=k2 x 398 395 x.d.r 704
def Vv:=k4 x x.b.d 721
def UP:=k17 x x.b.c x.e.e (sm x 28 0) (sm x 28 0)
def Si:=k6 x x.b.c 718 x.e.e 719 720 125 1 400 401 402 403 404 722 723
def RD:=k18 x x.b.c x.e.e (sm x 28 0) (sm x 28 0) x.d.r 704 405
def Ur:=k16 x x.b.d 728 x.e.f 729
def Zj:=k17 x x.d.u x.e.g (sm x 28 1) (sm x 28 1)
def Wn:=k6 x x.d.u 725 x.e.g 726 727 128 2 407 408 409 410 411 730 731
def YK:=k18 x x.d.u x.e.g (sm x 28 1) (sm x 28 1) x.d.r 704 412
def TN:=k4 x x.b.d 736
def Wm:=k17 x x.d.v x.e.h (sm x 28 2) (sm x 28 2)
def Y7:=k6 x x.d.v 733 x.e.h 734 735 132 1 414 415 416 417 418 737 738
def abZ:=k18 x x.d.v x.e.h (sm x 28 2) (sm x 28 2) x.d.r 704 419
def T8:=k21 x x.b.d 743 x.e.f 744 x.d.n 745
def S5:=k17 x x.d.w x.e.i (sm x 28 3) (sm x 28 3)
def ZN:=k6 x x.d.w 740 x.e.i 741 742 137 1 421 422 423 424 425 746 747
def XT:=k18 x x.d.w x.e.i (sm x 28 3) (sm x 28 3) x.d.r 704 426
def aay:=k4 x x.b.d 752
def W4:=k17 x x.d.x x.e.j (sm x 28 4) (sm x 28 4)
def Uj:=k6 x x.d.x 749 x.e.j 750 751 145 1 428 429 430 431 432 753 754
def VC:=k18 x x.d.x x.e.j (sm x 28 4) (sm x 28 4) x.d.r 704 433
def YA:=k4 x x.b.d 759
def W5:=k17 x x.d.y x.e.k (sm x 28 5) (sm x 28 5)
def acu:=k6 x x.d.y 756 x.e.k 757 758 148 1 435 436 437 438 439 760 761
def abx:=k18 x x.d.y x.e.k (sm x 28 5) (sm x 28 5) x.d.r 704 440
def aan:=k21 x x.b.d 766 x.b.k 767 x.e.l 768
def acj:=k17 x x.e.a x.e.m (sm x 28 6) (sm x 28 6)
def WX:=k6 x x.e.a 763 x.e.m 764 765 151 2 442 443 444 445 446 769 770
def abn:=k18 x x.e.a x.e.m (sm x 28 6) (sm x 28 6) x.d.r 704 447
def XW:=k24 x x.b.d 775 x.b.k 776 x.e.n 777 x.e.l 778
def adb:=k17 x x.e.b x.e.o (sm x 28 7) (sm x 28 7)
def Uz:=k6 x x.e.b 772 x.e.o 773 774 157 2 449 450 451 452 453 779 780
def Wz:=k18 x x.e.b x.e.o (sm x 28 7) (sm x 28 7) x.d.r 704 454
def aaZ:=k21 x x.b.d 785 x.b.k 786 x.e.l 787
def W3:=M u8 (u27 (u28 (f0 (sm x 28 8)) x.e.p (f1 (sm x 28 8)) (u29 (f2 (sm x 28 8))) (f6 (sm x 28 8)) 0 u30 u8 u8 u8 u8 u2 u8 u8 0))
def YQ:=k6 x x.e.c 782 x.e.p 783 784 165 2 456 457 458 459 460 788 789
def Yi:=M (u1 x.l5) (u27 (u28 (f0 (sm x 28 8)) x.e.p (f1 (sm x 28 8)) (u29 (f2 (sm x 28 8))) (f6 (sm x 28 8)) 3 u30 u8 u8 u8 (u11 x.d.r 704) u2 (u13 461) u8 0))
def ab5:=k24 x x.b.d 794 x.d.h 795 x.d.i 796 x.e.f 797
def Vj:=k17 x x.e.d x.e.q (sm x 28 9) (sm x 28 9)
def Wu:=k6 x x.e.d 791 x.e.q 792 793 171 3 463 464 465 466 467 798 799
def YR:=k18 x x.e.d x.e.q (sm x 28 9) (sm x 28 9) x.d.r 704 468
def Up:=k4 x x.e.r 801
def Yz:=M (u1 x.l3) (u20 (u21 [E x x.a.v 713 (u11 x.d.r 704),E x x.a.x 717 (u12 123 716),E x x.b.c 724 (u13 406),E x x.d.u 732 (u13 413),E x x.d.v 739 (u13 420),E x x.d.w 748 (u13 427),E x x.d.x 755 (u13 434),E x x.d.y 762 (u13 441),E x x.e.a 771 (u13 448),E x x.e.b 781 (u13 455),E x x.e.c 790 (u13 462),E x x.e.d 800 (u13 469),E x x.a.y 802 (u13 470),E x x.d.q 804 (u13 473),E x x.b.a 806 (u13 474),E x x.a.f 807 u8]) 4)
def Xw:=k25 x x.d.t 472 471 706 714
def YS:=k26 x 803 472
def Vn:=k10 x 805 472
def Yj:=k11 x 472
def Zq:=k12 x 472
abbrev d94:List DictEntry:=nf (ap (sz (d89 x) 0 (E x x.a.d 165 (u11 x.e.s 911))) [E x x.e.t 822 (u13 483),E x x.e.u 833 (u13 490),E x x.e.v 845 (u13 497),E x x.e.w 856 (u13 504),E x x.e.x 862 (u13 509),E x x.e.y 871 (u13 516),E x x.f.a 879 (u13 523),E x x.f.b 887 (u13 530),E x x.f.c 896 (u13 537),E x x.f.d 910 (u13 544)])
def ahA:=M (u1 x.l3) (u20 (u21 (d94 x)) 45)
abbrev d95:List Value:=nf (ap (d90 x) [u12 176 0,u12 0 0,u13 482,u12 181 0,u12 0 0,u13 489,u12 187 0,u12 0 0,u13 496,u12 200 0,u12 0 0,u13 503,u12 208 0,u12 0 0,u13 508,u12 219 0,u12 0 0,u13 515,u12 224 0,u12 0 0,u13 522,u12 226 0,u12 0 0,u13 529,u12 229 0,u12 0 0,u13 536,u12 231 0,u12 0 0,u13 543])
def ahj:=M u8 (u9 (u4 (d95 x)))
def SH:=k21 x x.f.e 815 x.f.f 816 x.f.g 817
def ac1:=k16 x x.f.e 818 x.f.f 819
def U0:=k5 x x.e.t (st x 30) (st x 30)
def R4:=k6 x x.e.t 812 x.e.t 813 814 176 2 477 478 479 480 481 820 821
def Y3:=k7 x x.e.t (st x 30) (st x 30) x.f.h 810 482
def aci:=k23 x x.c.r 826 x.f.g 827 x.f.i 828 x.b.w 829 x.f.j 830
def WL:=k5 x x.e.u (st x 31) (st x 31)
def Wb:=k6 x x.e.u 823 x.e.u 824 825 181 2 484 485 486 487 488 831 832
def aaM:=k7 x x.e.u (st x 31) (st x 31) x.f.h 810 489
def Yu:=k27 x x.f.i 837 x.f.k 838 x.f.l 839 x.f.m 840 x.e.f 841 x.f.n 842
def abh:=k5 x x.e.v (st x 32) (st x 32)
def abe:=k6 x x.e.v 834 x.e.v 835 836 187 1 491 492 493 494 495 843 844
def abA:=k7 x x.e.v (st x 32) (st x 32) x.f.h 810 496
def Xu:=k23 x x.f.i 849 x.f.l 850 x.d.n 851 x.f.n 852 x.f.o 853
def UD:=k5 x x.e.w (st x 33) (st x 33)
def UK:=k6 x x.e.w 846 x.e.w 847 848 200 1 498 499 500 501 502 854 855
def Tp:=k7 x x.e.w (st x 33) (st x 33) x.f.h 810 503
def Tr:=k5 x x.e.x (st x 34) (st x 34)
def Xi:=k22 x x.e.x 857 x.e.x 858 859 208 2 505 506 507 860 861
def YX:=k7 x x.e.x (st x 34) (st x 34) x.f.h 810 508
def WU:=k21 x x.f.i 866 x.f.k 867 x.f.n 868
def Zv:=k28 x (st x 35)
def acz:=k6 x x.e.y 863 x.e.y 864 865 219 1 510 511 512 513 514 869 870
def Wa:=k29 x (st x 35) x.f.h 810 515
def aal:=k16 x x.f.l 875 x.f.o 876
def Sv:=k5 x x.f.a (st x 36) (st x 36)
def XJ:=k6 x x.f.a 872 x.f.a 873 874 224 2 517 518 519 520 521 877 878
def Vl:=k7 x x.f.a (st x 36) (st x 36) x.f.h 810 522
def abR:=k16 x x.f.p 883 x.f.n 884
def Vk:=k5 x x.f.b (st x 37) (st x 37)
def Th:=k6 x x.f.b 880 x.f.b 881 882 226 2 524 525 526 527 528 885 886
def RK:=k7 x x.f.b (st x 37) (st x 37) x.f.h 810 529
def U5:=k4 x x.b.w 893
def Yy:=k5 x x.f.c (st x 39) (st x 39)
def adf:=k6 x x.f.c 890 x.f.c 891 892 229 1 531 532 533 534 535 894 895
def YO:=k7 x x.f.c (st x 39) (st x 39) x.f.q 888 536
def ZL:=k30 x x.f.o 900 x.b.q 901 x.f.r 902 x.f.s 903 x.b.k 904 x.b.n 905 x.f.t 906 x.b.w 907
def TJ:=k5 x x.f.d (st x 40) (st x 40)
def Vh:=k6 x x.f.d 897 x.f.d 898 899 231 3 538 539 540 541 542 908 909
def ZO:=k7 x x.f.d (st x 40) (st x 40) x.f.q 888 543
abbrev d96:List DictEntry:=nf (ap (d94 x) [E x x.f.u 967 (u13 580)])
def aip:=M (u1 x.l3) (u20 (u21 (d96 x)) 46)
abbrev d97:List Value:=nf (ap (d95 x) [u12 240 0,u12 0 0,u13 550])
def ahV:=M u8 (u9 (u4 (d97 x)))
def SN:=M (u1 x.l3) (u20 (u21 [E x x.a.v 920 (u11 x.e.s 911),E x x.a.w 922 (u11 x.f.u 921),E x x.a.x 924 (u12 240 923),E x x.b.c 930 (u13 556),E x x.d.x 937 (u13 563),E x x.f.v 944 (u13 570),E x x.f.w 955 (u13 577),E x x.a.y 960 (u13 578)]) 8)
def Yx(x:X):Obj:=M u8 (u9 (u4 [u12 242 0,u12 4 0,u13 555,u12 249 0,u12 4 0,u13 562,u12 252 0,u12 4 0,u13 569,u12 255 0,u12 4 0,u13 576]))
def YW:=k1 x x.f.u 915 916 917 240 548 549 918 919
def YL:=k2 x 550 547 x.e.s 911
def Wg:=k17 x x.b.c x.f.x (sm x 42 0) (sm x 42 0)
def aaN:=k22 x x.b.c 925 x.f.x 926 927 242 5 552 553 554 928 929
def ab1:=k18 x x.b.c x.f.x (sm x 42 0) (sm x 42 0) x.e.s 911 555
def aaB:=k4 x x.b.d 934
def YE:=k17 x x.d.x x.f.y (sm x 42 1) (sm x 28 4)
def WO:=k6 x x.d.x 931 x.f.y 932 933 249 1 557 558 559 560 561 935 936
def aaX:=k18 x x.d.x x.f.y (sm x 42 1) (sm x 28 4) x.e.s 911 562
def acU:=k4 x x.b.d 941
def UO:=k17 x x.f.v x.g.a (sm x 42 2) (sm x 28 0)
def Yq:=k6 x x.f.v 938 x.g.a 939 940 252 1 564 565 566 567 568 942 943
def acW:=k18 x x.f.v x.g.a (sm x 42 2) (sm x 28 0) x.e.s 911 569
def UU:=k23 x x.b.d 948 x.c.a 949 x.g.b 950 x.f.r 951 x.e.r 952
def Vt:=k17 x x.f.w x.g.c (sm x 42 3) (sm x 42 3)
def abM:=k6 x x.f.w 945 x.g.c 946 947 255 3 571 572 573 574 575 953 954
def W8:=k18 x x.f.w x.g.c (sm x 42 3) (sm x 42 3) x.e.s 911 576
def Ub:=k24 x x.f.t 956 x.b.q 957 x.g.d 958 x.f.r 959
def VX:=M (u1 x.l3) (u20 (u21 [E x x.a.v 920 (u11 x.e.s 911),E x x.a.x 924 (u12 240 923),E x x.b.c 930 (u13 556),E x x.d.x 937 (u13 563),E x x.f.v 944 (u13 570),E x x.f.w 955 (u13 577),E x x.a.y 960 (u13 578),E x x.d.q 962 (u13 581),E x x.b.a 964 (u13 582),E x x.a.f 965 u8]) 4)
def aic:=k25 x x.f.u 580 579 913 921
def aaw:=k26 x 961 580
def RA:=k10 x 963 580
def Xh:=k11 x 580
def WV:=k12 x 580
abbrev Rz:List DictEntry:=nf (ap (d96 x) [E x x.g.e 1021 (u13 628)])
def ahL:=M (u1 x.l3) (u20 (u21 (Rz x)) 47)
abbrev acM:List Value:=nf (ap (d97 x) [u12 262 0,u12 0 0,u13 590])
def ah7:=M u8 (u9 (u4 (acM x)))
abbrev Iw:List (Option Value):=[u19,u19,u18 (u11 x.f.u 913),u18 (u11 x.f.u 921),u18 (u25 x.l18),u18 (u14 u31)]
def ahE:=u0 (u1 x.l9) u2 (u32 (u33 x.f.u [u1 x.l12] [u13 580,u1 x.l12] 579 x.f.u u31 u34 [u13 628] u15 u35 u15)) (u6 (Iw x))
def DN:=k13 x 580
def Rk:=M (u1 x.l3) (u20 (u21 [E x x.a.v 975 (u11 x.e.s 911),E x x.a.w 977 (u11 x.g.e 976),E x x.a.x 979 (u12 262 978),E x x.b.c 989 (u13 599),E x x.f.o 996 (u13 606),E x x.g.f 1003 (u13 613),E x x.g.g 1009 (u13 618),E x x.g.h 1017 (u13 625),E x x.a.y 1018 (u13 626)]) 9)
def VG:=k20 x 264 4 598 267 605 270 612 273 617 276 624
def Yv:=k1 x x.g.e 970 971 972 262 588 589 973 974
def R0:=k2 x 590 587 x.e.s 911
def nA:=k31 x
def adl:=k24 x x.b.d 983 x.b.q 984 x.f.r 985 x.f.t 986
def UG:=k17 x x.b.c x.g.i (sm x 43 0) (sm x 43 0)
def S8:=k6 x x.b.c 980 x.g.i 981 982 264 4 593 594 595 596 597 987 988
def Sk:=k32 x x.b.c x.g.i (sm x 43 0) 592 x.e.s 911 598
def ab0:=k4 x x.b.d 993
def aaA:=k17 x x.f.o x.g.j (sm x 43 1) (sm x 28 0)
def Sj:=k6 x x.f.o 990 x.g.j 991 992 267 1 600 601 602 603 604 994 995
def V6:=k18 x x.f.o x.g.j (sm x 43 1) (sm x 28 0) x.e.s 911 605
def XY:=k4 x x.b.d 1000
def Ze:=k17 x x.g.f x.g.k (sm x 43 2) (sm x 28 0)
def Tq:=k6 x x.g.f 997 x.g.k 998 999 270 1 607 608 609 610 611 1001 1002
def Tu:=k18 x x.g.f x.g.k (sm x 43 2) (sm x 28 0) x.e.s 911 612
def abf:=k17 x x.g.g x.g.l (sm x 43 3) (sm x 43 3)
def Yh:=k22 x x.g.g 1004 x.g.l 1005 1006 273 2 614 615 616 1007 1008
def Sz:=k18 x x.g.g x.g.l (sm x 43 3) (sm x 43 3) x.e.s 911 617
def abc:=k16 x x.b.d 1013 x.f.r 1014
def Yb:=k17 x x.g.h x.g.m (sm x 43 4) (sm x 43 4)
def abl:=k6 x x.g.h 1010 x.g.m 1011 1012 276 2 619 620 621 622 623 1015 1016
def Ym:=k18 x x.g.h x.g.m (sm x 43 4) (sm x 43 4) x.e.s 911 624
def aba:=M (u1 x.l3) (u20 (u21 [E x x.a.v 975 (u11 x.e.s 911),E x x.a.x 979 (u12 262 978),E x x.b.c 989 (u13 599),E x x.f.o 996 (u13 606),E x x.g.f 1003 (u13 613),E x x.g.g 1009 (u13 618),E x x.g.h 1017 (u13 625),E x x.a.y 1018 (u13 626),E x x.a.f 1019 u8]) 2)
def SS:=k33 x x.g.e 580 628 627 585 968 976
def WJ:=k11 x 628
def abz:=k12 x 628
abbrev Xl:List DictEntry:=nf (ap (Rz x) [E x x.g.n 1082 (u13 676)])
def aiu:=M (u1 x.l3) (u20 (u21 (Xl x)) 48)
abbrev Sb:List Value:=nf (ap (acM x) [u12 278 0,u12 0 0,u13 636])
def ahi:=M u8 (u9 (u4 (Sb x)))
def WH:=u0 (u1 x.l9) u2 (u32 (u33 x.f.u [u1 x.l12] [u13 580,u1 x.l12] 579 x.f.u u31 u34 [u13 628,u13 676] u15 u35 u15)) (u6 (Iw x))
def Rf:=M (u1 x.l3) (u20 (u21 [E x x.a.v 1029 (u11 x.e.s 911),E x x.a.w 1031 (u11 x.g.n 1030),E x x.a.x 1033 (u12 278 1032),E x x.b.c 1044 (u13 645),E x x.f.o 1051 (u13 652),E x x.g.f 1058 (u13 659),E x x.g.g 1069 (u13 666),E x x.g.h 1077 (u13 673),E x x.a.y 1079 (u13 674)]) 9)
def abS:=k20 x 280 4 644 284 651 287 658 290 665 296 672
def ZZ:=k1 x x.g.n 1024 1025 1026 278 634 635 1027 1028
def abX:=k2 x 636 633 x.e.s 911
def YC:=k23 x x.b.d 1037 x.b.t 1038 x.b.q 1039 x.f.r 1040 x.f.t 1041
def Vu:=k17 x x.b.c x.g.o (sm x 44 0) (sm x 44 0)
def Rp:=k6 x x.b.c 1034 x.g.o 1035 1036 280 5 639 640 641 642 643 1042 1043
def aaD:=k32 x x.b.c x.g.o (sm x 44 0) 638 x.e.s 911 644
def YY:=k4 x x.b.d 1048
def Wy:=k17 x x.f.o x.g.p (sm x 44 1) (sm x 28 0)
def Yn:=k6 x x.f.o 1045 x.g.p 1046 1047 284 1 646 647 648 649 650 1049 1050
def XA:=k18 x x.f.o x.g.p (sm x 44 1) (sm x 28 0) x.e.s 911 651
def Wi:=k4 x x.b.d 1055
def US:=k17 x x.g.f x.g.q (sm x 44 2) (sm x 28 0)
def abB:=k6 x x.g.f 1052 x.g.q 1053 1054 287 1 653 654 655 656 657 1056 1057
def abC:=k18 x x.g.f x.g.q (sm x 44 2) (sm x 28 0) x.e.s 911 658
def RG:=k23 x x.b.d 1062 x.d.a 1063 x.g.r 1064 x.b.k 1065 x.b.n 1066
def XH:=k17 x x.g.g x.g.s (sm x 44 3) (sm x 44 3)
def SW:=k6 x x.g.g 1059 x.g.s 1060 1061 290 2 660 661 662 663 664 1067 1068
def Wh:=k18 x x.g.g x.g.s (sm x 44 3) (sm x 44 3) x.e.s 911 665
def aco:=k16 x x.b.d 1073 x.f.r 1074
def TZ:=k17 x x.g.h x.g.t (sm x 44 4) (sm x 44 4)
def Zf:=k6 x x.g.h 1070 x.g.t 1071 1072 296 2 667 668 669 670 671 1075 1076
def Uu:=k18 x x.g.h x.g.t (sm x 44 4) (sm x 44 4) x.e.s 911 672
def ZF:=k4 x x.b.t 1078
def acv:=M (u1 x.l3) (u20 (u21 [E x x.a.v 1029 (u11 x.e.s 911),E x x.a.x 1033 (u12 278 1032),E x x.b.c 1044 (u13 645),E x x.f.o 1051 (u13 652),E x x.g.f 1058 (u13 659),E x x.g.g 1069 (u13 666),E x x.g.h 1077 (u13 673),E x x.a.y 1079 (u13 674),E x x.a.f 1080 u8]) 2)
def aaQ:=k33 x x.g.n 580 676 675 631 1022 1030
def Ui:=k11 x 676
def Xo:=k12 x 676
abbrev Ve:List DictEntry:=nf (ap (sz (Xl x) 0 (E x x.a.d 165 (u11 x.g.u 1138))) [E x x.g.v 1090 (u13 685),E x x.g.w 1096 (u13 690),E x x.g.x 1100 (u11 x.g.y 1099),E x x.h.a 1106 (u13 695),E x x.h.b 1113 (u13 702),E x x.h.c 1121 (u13 709),E x x.h.d 1127 (u13 714),E x x.h.e 1131 (u12 20 1130),E x x.h.f 1137 (u13 719)])
def ahG:=M (u1 x.l3) (u20 (u21 (Ve x)) 57)
abbrev acr:List Value:=nf (ap (Sb x) [u12 298 0,u12 0 0,u13 684,u12 300 0,u12 0 0,u13 689,u12 308 0,u12 0 0,u13 694,u12 314 0,u12 0 0,u13 701,u12 318 0,u12 0 0,u13 708,u12 323 0,u12 0 0,u13 713,u12 327 0,u12 0 0,u13 718])
def ahq:=M u8 (u9 (u4 (acr x)))
def UX:=k16 x x.h.g 1086 x.b.q 1087
def aaL:=k5 x x.g.v (st x 45) (st x 45)
def ado:=k6 x x.g.v 1083 x.g.v 1084 1085 298 2 679 680 681 682 683 1088 1089
def abG:=k7 x x.g.v (st x 45) (st x 45) x.e.s 911 684
def Ug:=k5 x x.g.w (st x 46) (st x 46)
def acC:=k22 x x.g.w 1091 x.g.w 1092 1093 300 3 686 687 688 1094 1095
def adk:=k7 x x.g.w (st x 46) (st x 46) x.e.s 911 689
def WA:=k28 x (st x 49)
def Ye:=k22 x x.h.a 1101 x.h.a 1102 1103 308 1 691 692 693 1104 1105
def Zp:=k29 x (st x 49) x.h.h 1097 694
def SQ:=k4 x x.b.e 1110
def V5:=k5 x x.h.b (st x 50) (st x 50)
def ac6:=k6 x x.h.b 1107 x.h.b 1108 1109 314 1 696 697 698 699 700 1111 1112
def RS:=k7 x x.h.b (st x 50) (st x 50) x.h.h 1097 701
def R7:=k16 x x.b.e 1117 x.h.i 1118
def ab9:=k5 x x.h.c (st x 51) (st x 51)
def SD:=k6 x x.h.c 1114 x.h.c 1115 1116 318 1 703 704 705 706 707 1119 1120
def UW:=k7 x x.h.c (st x 51) (st x 51) x.h.h 1097 708
def Td:=k5 x x.h.d (st x 52) (st x 52)
def acD:=k22 x x.h.d 1122 x.h.d 1123 1124 323 1 710 711 712 1125 1126
def S3:=k7 x x.h.d (st x 52) (st x 52) x.h.h 1097 713
def acY:=k5 x x.h.f (st x 55) (st x 55)
def Ua:=k22 x x.h.f 1132 x.h.f 1133 1134 327 1 715 716 717 1135 1136
def Zm:=k7 x x.h.f (st x 55) (st x 55) x.h.j 1128 718
abbrev VD:List DictEntry:=nf (ap (Ve x) [E x x.h.k 1231 (u13 790)])
def aiv:=M (u1 x.l3) (u20 (u21 (VD x)) 58)
abbrev Zy:List Value:=nf (ap (acr x) [u12 336 0,u12 0 0,u13 725])
def ahf:=M u8 (u9 (u4 (Zy x)))
def acT:=M (u1 x.l3) (u20 (u21 [E x x.a.v 1147 (u11 x.g.u 1138),E x x.a.w 1149 (u11 x.h.k 1148),E x x.a.x 1151 (u12 336 1150),E x x.b.c 1158 (u13 733),E x x.h.l 1167 (u13 740),E x x.h.m 1176 (u13 747),E x x.f.j 1184 (u13 754),E x x.h.n 1193 (u13 761),E x x.f.s 1200 (u13 768),E x x.h.o 1207 (u13 775),E x x.h.p 1215 (u13 782),E x x.h.q 1221 (u13 787),E x x.a.y 1224 (u13 788)]) 13)
def ade(x:X):Obj:=M u8 (u9 (u4 [u12 338 0,u12 4 0,u13 732,u12 342 0,u12 4 0,u13 739,u12 347 0,u12 4 0,u13 746,u12 351 0,u12 4 0,u13 753,u12 356 0,u12 4 0,u13 760,u12 361 0,u12 4 0,u13 767,u12 364 0,u12 4 0,u13 774,u12 367 0,u12 4 0,u13 781,u12 373 0,u12 4 0,u13 786]))
def abd:=k1 x x.h.k 1142 1143 1144 336 723 724 1145 1146
def Xk:=k2 x 725 722 x.g.u 1138
def WS:=k4 x x.b.d 1155
def acm:=k17 x x.b.c x.h.r (sm x 57 0) (sm x 28 0)
def UB:=k6 x x.b.c 1152 x.h.r 1153 1154 338 1 727 728 729 730 731 1156 1157
def aa3:=k18 x x.b.c x.h.r (sm x 57 0) (sm x 28 0) x.g.u 1138 732
def VH:=k21 x x.b.d 1162 x.f.j 1163 x.b.w 1164
def WZ:=k17 x x.h.l x.h.s (sm x 57 1) (sm x 57 1)
def ab7:=k6 x x.h.l 1159 x.h.s 1160 1161 342 2 734 735 736 737 738 1165 1166
def aag:=k18 x x.h.l x.h.s (sm x 57 1) (sm x 57 1) x.g.u 1138 739
def Y0:=k21 x x.b.d 1171 x.b.w 1172 x.f.j 1173
def V1:=k17 x x.h.m x.h.t (sm x 57 2) (sm x 57 2)
def ac7:=k6 x x.h.m 1168 x.h.t 1169 1170 347 3 741 742 743 744 745 1174 1175
def SY:=k18 x x.h.m x.h.t (sm x 57 2) (sm x 57 2) x.g.u 1138 746
def Us:=k16 x x.b.d 1180 x.b.w 1181
def aaU:=k17 x x.f.j x.h.u (sm x 57 3) (sm x 57 3)
def aaF:=k6 x x.f.j 1177 x.h.u 1178 1179 351 2 748 749 750 751 752 1182 1183
def S6:=k18 x x.f.j x.h.u (sm x 57 3) (sm x 57 3) x.g.u 1138 753
def UA:=k21 x x.b.d 1188 x.b.w 1189 x.f.j 1190
def WB:=k17 x x.h.n x.h.v (sm x 57 4) (sm x 57 4)
def Yo:=k6 x x.h.n 1185 x.h.v 1186 1187 356 2 755 756 757 758 759 1191 1192
def UL:=k18 x x.h.n x.h.v (sm x 57 4) (sm x 57 4) x.g.u 1138 760
def U7:=k4 x x.b.d 1197
def SI:=k17 x x.f.s x.h.w (sm x 57 5) (sm x 57 5)
def YT:=k6 x x.f.s 1194 x.h.w 1195 1196 361 1 762 763 764 765 766 1198 1199
def VR:=k18 x x.f.s x.h.w (sm x 57 5) (sm x 57 5) x.g.u 1138 767
def aah:=k4 x x.b.d 1204
def XZ:=k17 x x.h.o x.h.x (sm x 57 6) (sm x 28 0)
def SR:=k6 x x.h.o 1201 x.h.x 1202 1203 364 1 769 770 771 772 773 1205 1206
def ab2:=k18 x x.h.o x.h.x (sm x 57 6) (sm x 28 0) x.g.u 1138 774
def YV:=k16 x x.b.d 1211 x.d.i 1212
def Yk:=k17 x x.h.p x.h.y (sm x 57 7) (sm x 57 7)
def V2:=k6 x x.h.p 1208 x.h.y 1209 1210 367 1 776 777 778 779 780 1213 1214
def UJ:=k18 x x.h.p x.h.y (sm x 57 7) (sm x 57 7) x.g.u 1138 781
def Vm:=k17 x x.h.q x.i.a (sm x 57 8) (sm x 57 8)
def abj:=k22 x x.h.q 1216 x.i.a 1217 1218 373 1 783 784 785 1219 1220
def abw:=k18 x x.h.q x.i.a (sm x 57 8) (sm x 57 8) x.g.u 1138 786
def ZE:=k16 x x.i.b 1222 x.i.c 1223
def Xp:=M (u1 x.l3) (u20 (u21 [E x x.a.v 1147 (u11 x.g.u 1138),E x x.a.x 1151 (u12 336 1150),E x x.b.c 1158 (u13 733),E x x.h.l 1167 (u13 740),E x x.h.m 1176 (u13 747),E x x.f.j 1184 (u13 754),E x x.h.n 1193 (u13 761),E x x.f.s 1200 (u13 768),E x x.h.o 1207 (u13 775),E x x.h.p 1215 (u13 782),E x x.h.q 1221 (u13 787),E x x.a.y 1224 (u13 788),E x x.d.q 1226 (u13 791),E x x.b.a 1228 (u13 792),E x x.a.f 1229 u8]) 4)
def aao:=k25 x x.h.k 790 789 1140 1148
def Wo:=k26 x 1225 790
def acO:=k10 x 1227 790
def Wx:=k11 x 790
def V7:=k12 x 790
abbrev aaR:List DictEntry:=nf (ap (sz (VD x) 0 (E x x.a.d 165 (u11 x.i.d 1351))) [E x x.i.e 1246 (u13 801),E x x.i.f 1254 (u13 809),E x x.i.g 1269 (u13 816),E x x.i.h 1280 (u13 823),E x x.c.l 1288 (u13 828),E x x.i.i 1300 (u13 835),E x x.i.j 1309 (u13 842),E x x.i.k 1321 (u13 849),E x x.i.l 1332 (u13 856),E x x.i.m 1340 (u13 863),E x x.i.n 1350 (u13 870)])
def ahn:=M (u1 x.l3) (u20 (u21 (aaR x)) 69)
abbrev VQ:List Value:=nf (ap (Zy x) [u12 377 0,u12 0 0,u13 800,u12 391 0,u12 0 0,u13 808,u12 393 0,u12 0 0,u13 815,u12 407 0,u12 0 0,u13 822,u12 415 0,u12 0 0,u13 827,u12 420 0,u12 0 0,u13 834,u12 427 0,u12 0 0,u13 841,u12 434 0,u12 0 0,u13 848,u12 445 0,u12 0 0,u13 855,u12 453 0,u12 0 0,u13 862,u12 458 0,u12 0 0,u13 869])
def ah1:=M u8 (u9 (u4 (VQ x)))
def Sw:=M (u1 x.l0) (u3 (u4 [u11 x.c.r 1237,u11 x.i.o 1238,u11 x.d.a 1239,u11 x.b.q 1240,u11 x.c.a 1241,u11 x.b.w 1242,u11 x.f.j 1243]) 0)
def Ut:=k5 x x.i.e (st x 59) (st x 59)
def TV:=k6 x x.i.e 1234 x.i.e 1235 1236 377 2 795 796 797 798 799 1244 1245
def adn:=k7 x x.i.e (st x 59) (st x 59) x.i.p 1232 800
def acB:=M (u1 x.l0) (u3 (u4 [u14 u15]) 0)
def aaK:=k16 x x.c.r 1250 x.i.q 1251
def To:=k5 x x.i.f (st x 60) (st x 60)
def aac:=k6 x x.i.f 1247 x.i.f 1248 1249 391 2 803 804 805 806 807 1252 1253
def UE:=M (u1 x.l5) (u27 (u28 x.i.f x.i.f (f1 (st x 60)) (u29 (f2 (st x 60))) (f6 (st x 60)) 3 u30 (u13 802) u8 u8 (u11 x.i.p 1232) u2 (u13 808) u8 0))
def RQ:=M (u1 x.l0) (u3 (u4 [u11 x.c.r 1258,u11 x.i.q 1259,u11 x.f.k 1260,u11 x.d.n 1261,u11 x.i.r 1262,u11 x.i.s 1263,u11 x.f.o 1264,u11 x.b.w 1265,u11 x.b.q 1266]) 0)
def acP:=k28 x (st x 61)
def T9:=k6 x x.i.g 1255 x.i.g 1256 1257 393 2 810 811 812 813 814 1267 1268
def Vw:=k29 x (st x 61) x.i.p 1232 815
def T7:=k23 x x.c.r 1273 x.i.q 1274 x.f.k 1275 x.b.w 1276 x.f.j 1277
def Zx:=k28 x (st x 62)
def W0:=k6 x x.i.h 1270 x.i.h 1271 1272 407 2 817 818 819 820 821 1278 1279
def Zd:=k29 x (st x 62) x.i.p 1232 822
def Se:=k5 x x.c.l (st x 64) (st x 64)
def So:=k22 x x.c.l 1283 x.c.l 1284 1285 415 2 824 825 826 1286 1287
def ZU:=k7 x x.c.l (st x 64) (st x 64) x.i.t 1281 827
def Vz:=k27 x x.f.i 1292 x.f.l 1293 x.b.k 1294 x.f.s 1295 x.f.n 1296 x.f.o 1297
def abp:=k5 x x.i.i (st x 65) (st x 65)
def S0:=k6 x x.i.i 1289 x.i.i 1290 1291 420 3 829 830 831 832 833 1298 1299
def TM:=k7 x x.i.i (st x 65) (st x 65) x.i.t 1281 834
def Xs:=k21 x x.f.i 1304 x.b.q 1305 x.c.g 1306
def Zg:=k5 x x.i.j (st x 66) (st x 66)
def Zr:=k6 x x.i.j 1301 x.i.j 1302 1303 427 2 836 837 838 839 840 1307 1308
def UH:=k7 x x.i.j (st x 66) (st x 66) x.i.t 1281 841
def YZ:=k27 x x.i.u 1313 x.i.c 1314 x.c.r 1315 x.b.w 1316 x.f.j 1317 x.i.v 1318
def Tf:=k5 x x.i.k (st x 67) (st x 67)
def SM:=k6 x x.i.k 1310 x.i.k 1311 1312 434 1 843 844 845 846 847 1319 1320
def VP:=k7 x x.i.k (st x 67) (st x 67) x.i.t 1281 848
def aa1:=k23 x x.c.r 1325 x.d.i 1326 x.i.w 1327 x.i.x 1328 x.b.w 1329
def YD:=k5 x x.i.l (st x 68) (st x 68)
def T6:=k6 x x.i.l 1322 x.i.l 1323 1324 445 2 850 851 852 853 854 1330 1331
def Vb:=k7 x x.i.l (st x 68) (st x 68) x.i.t 1281 855
def abO:=k16 x x.c.r 1336 x.b.w 1337
def Wc:=k5 x x.i.m (st x 69) (st x 69)
def aaa:=k6 x x.i.m 1333 x.i.m 1334 1335 453 2 857 858 859 860 861 1338 1339
def YF:=k7 x x.i.m (st x 69) (st x 69) x.i.t 1281 862
def Zw:=k24 x x.c.r 1344 x.f.g 1345 x.b.q 1346 x.i.y 1347
def aaf:=k5 x x.i.n (st x 70) (st x 70)
def aaj:=k6 x x.i.n 1341 x.i.n 1342 1343 458 3 864 865 866 867 868 1348 1349
def Su:=k7 x x.i.n (st x 70) (st x 70) x.i.t 1281 869
abbrev aav:List DictEntry:=nf (ap (aaR x) [E x x.j.a 1381 (u13 885),E x x.j.b 1388 (u13 896),E x x.j.c 1394 (u13 901),E x x.j.d 1404 (u13 908),E x x.j.e 1410 (u13 913),E x x.j.f 1416 (u13 918),E x x.j.g 1429 (u13 925)])
def ahW:=M (u1 x.l3) (u20 (u21 (aav x)) 76)
abbrev Xx:List Value:=nf (ap (VQ x) [u12 466 0,u12 0 0,u13 876,u12 473 0,u12 0 0,u13 895,u12 476 0,u12 0 0,u13 900,u12 483 0,u12 0 0,u13 907,u12 491 0,u12 0 0,u13 912,u12 493 0,u12 0 0,u13 917,u12 495 0,u12 0 0,u13 924])
def ahg:=M u8 (u9 (u4 (Xx x)))
def Wl:=k14 x 1360 x.i.d 1351 1362 x.j.a 1361 1364 466 1363 x.b.c 1370 882 1374 883
def WW:=k15 x 468 881
def RV:=k1 x x.j.a 1355 1356 1357 466 874 875 1358 1359
def abY:=k2 x 876 873 x.i.d 1351
def aaI:=k17 x x.b.c x.j.h (sm x 72 0) (sm x 72 0)
def U4:=k22 x x.b.c 1365 x.j.h 1366 1367 468 4 878 879 880 1368 1369
def abP:=k18 x x.b.c x.j.h (sm x 72 0) (sm x 72 0) x.i.d 1351 881
def WT:=k21 x x.j.i 1371 x.j.j 1372 x.j.k 1373
def XC:=M (u1 x.l3) (u20 (u21 [E x x.a.v 1360 (u11 x.i.d 1351),E x x.a.x 1364 (u12 466 1363),E x x.b.c 1370 (u13 882),E x x.a.y 1374 (u13 883),E x x.d.q 1376 (u13 886),E x x.b.a 1378 (u13 887),E x x.a.f 1379 u8]) 4)
def U8:=k25 x x.j.a 885 884 1353 1361
def RC:=k26 x 1375 885
def Tc:=k10 x 1377 885
def Uv:=k11 x 885
def ab3:=k12 x 885
def Mw:=k4 x x.c.o 1385
def JO:=k5 x x.j.b (st x 73) (st x 73)
def IM:=k6 x x.j.b 1382 x.j.b 1383 1384 473 1 890 891 892 893 894 1386 1387
def MM:=k7 x x.j.b (st x 73) (st x 73) x.i.d 1351 895
def NX:=k5 x x.j.c (st x 74) (st x 74)
def NJ:=k22 x x.j.c 1389 x.j.c 1390 1391 476 2 897 898 899 1392 1393
def Jc:=k7 x x.j.c (st x 74) (st x 74) x.i.d 1351 900
def LR:=k24 x x.j.l 1398 x.j.m 1399 x.b.q 1400 x.b.e 1401
def Jj:=k28 x (st x 75)
def O0:=k6 x x.j.d 1395 x.j.d 1396 1397 483 1 902 903 904 905 906 1402 1403
def JR:=k29 x (st x 75) x.i.d 1351 907
def Na:=k5 x x.j.e (st x 76) (st x 76)
def Mz:=k22 x x.j.e 1405 x.j.e 1406 1407 491 1 909 910 911 1408 1409
def MB:=k7 x x.j.e (st x 76) (st x 76) x.i.d 1351 912
def OD:=k5 x x.j.f (st x 77) (st x 77)
def NY:=k22 x x.j.f 1411 x.j.f 1412 1413 493 2 914 915 916 1414 1415
def Kw:=k7 x x.j.f (st x 77) (st x 77) x.i.d 1351 917
def Oe:=M (u1 x.l0) (u3 (u4 [u11 x.j.n 1420,u11 x.j.l 1421,u11 x.f.r 1422,u11 x.j.o 1423,u11 x.b.q 1424,u11 x.b.t 1425,u11 x.d.x 1426]) 0)
def Kf:=k5 x x.j.g (st x 78) (st x 78)
def IU:=k6 x x.j.g 1417 x.j.g 1418 1419 495 2 919 920 921 922 923 1427 1428
def PK:=k7 x x.j.g (st x 78) (st x 78) x.i.d 1351 924
abbrev ac0:List DictEntry:=nf (ap (sz (aav x) 0 (E x x.a.d 165 (u11 x.j.p 1480))) [E x x.j.q 1437 (u13 932),E x x.j.r 1448 (u13 939),E x x.j.s 1459 (u13 946),E x x.j.t 1467 (u13 951),E x x.j.u 1473 (u13 956),E x x.j.v 1479 (u13 961)])
def agN:=M (u1 x.l3) (u20 (u21 (ac0 x)) 82)
abbrev aaW:List Value:=nf (ap (Xx x) [u12 506 0,u12 0 0,u13 931,u12 508 0,u12 0 0,u13 938,u12 511 0,u12 0 0,u13 945,u12 519 0,u12 0 0,u13 950,u12 536 0,u12 0 0,u13 955,u12 541 0,u12 0 0,u13 960])
def agd:=M u8 (u9 (u4 (aaW x)))
def Ks:=k16 x x.j.n 1433 x.d.x 1434
def KA:=k5 x x.j.q (st x 79) (st x 79)
def LG:=k6 x x.j.q 1430 x.j.q 1431 1432 506 2 926 927 928 929 930 1435 1436
def Kz:=k7 x x.j.q (st x 79) (st x 79) x.i.d 1351 931
def Og:=k23 x x.j.n 1441 x.b.q 1442 x.d.x 1443 x.i.o 1444 x.j.w 1445
def PR:=k5 x x.j.r (st x 80) (st x 80)
def Me:=k6 x x.j.r 1438 x.j.r 1439 1440 508 4 933 934 935 936 937 1446 1447
def Ni:=k7 x x.j.r (st x 80) (st x 80) x.i.d 1351 938
def IL:=k23 x x.j.n 1452 x.j.l 1453 x.j.x 1454 x.b.q 1455 x.d.x 1456
def Ka:=k5 x x.j.s (st x 81) (st x 81)
def KO:=k6 x x.j.s 1449 x.j.s 1450 1451 511 2 940 941 942 943 944 1457 1458
def KJ:=k7 x x.j.s (st x 81) (st x 81) x.i.d 1351 945
def JG:=k5 x x.j.t (st x 83) (st x 83)
def KP:=k22 x x.j.t 1462 x.j.t 1463 1464 519 1 947 948 949 1465 1466
def LD:=k7 x x.j.t (st x 83) (st x 83) x.j.y 1460 950
def NR:=k5 x x.j.u (st x 84) (st x 84)
def OL:=k22 x x.j.u 1468 x.j.u 1469 1470 536 4 952 953 954 1471 1472
def Nv:=k7 x x.j.u (st x 84) (st x 84) x.j.y 1460 955
def NG:=k5 x x.j.v (st x 85) (st x 85)
def ON:=k22 x x.j.v 1474 x.j.v 1475 1476 541 3 957 958 959 1477 1478
def MW:=k7 x x.j.v (st x 85) (st x 85) x.j.y 1460 960
abbrev ab8:List DictEntry:=nf (ap (ac0 x) [E x x.k.a 1530 (u13 962),E x x.k.b 1534 (u13 976),E x x.k.c 1543 (u13 983),E x x.k.d 1549 (u13 988),E x x.k.e 1557 (u13 995),E x x.k.f 1565 (u13 1002),E x x.k.g 1573 (u13 1009)])
def af3:=M (u1 x.l3) (u20 (u21 (ab8 x)) 89)
abbrev ac2:List Value:=nf (ap (aaW x) [u12 546 0,u12 0 0,u13 982,u12 553 0,u12 0 0,u13 987,u12 563 0,u12 0 0,u13 994,u12 566 0,u12 0 0,u13 1001,u12 568 0,u12 0 0,u13 1008])
def adX:=M u8 (u9 (u4 (ac2 x)))
def P0:=M (u1 x.l3) (u20 (u21 [E x x.k.h 1482 (u13 963),E x x.k.i 1485 (u13 964),E x x.k.j 1488 (u13 965),E x x.k.k 1491 (u13 966),E x x.k.l 1494 (u13 967),E x x.k.m 1497 (u13 968),E x x.k.n 1500 (u13 969),E x x.c.v 1503 (u13 970),E x x.k.o 1506 (u13 971),E x x.k.p 1509 (u13 972),E x x.f.p 1511 (u13 973),E x x.i.o 1513 (u13 974),E x x.k.q 1515 (u13 975)]) 13)
def NU:=k34 x 1 1483 1484
def JJ:=k34 x 0 1486 1487
def KD:=k34 x 2 1489 1490
def K0:=k34 x 4 1492 1493
def Je:=k34 x 2 1495 1496
def Mr:=k34 x 0 1498 1499
def Pc:=k34 x 1 1501 1502
def Kv:=k34 x 2 1504 1505
def Lw:=k34 x 1 1507 1508
def Jb:=k35 x 1 1510
def JX:=k35 x 1 1512
def LJ:=k35 x 1 1514
def JH:=k35 x 6 1516
def JK:=k21 x x.k.r 1531 x.k.s 1532 x.d.n 1533
def Jz:=k21 x x.e.r 1538 x.k.t 1539 x.i.y 1540
def Jh:=k5 x x.k.c (st x 89) (st x 89)
def Kr:=k6 x x.k.c 1535 x.k.c 1536 1537 546 1 977 978 979 980 981 1541 1542
def Of:=k7 x x.k.c (st x 89) (st x 89) x.j.p 1480 982
def MX:=k28 x (st x 90)
def Oz:=k22 x x.k.d 1544 x.k.d 1545 1546 553 2 984 985 986 1547 1548
def OQ:=k29 x (st x 90) x.j.p 1480 987
def LP:=k16 x x.b.e 1553 x.g.d 1554
def KR:=k5 x x.k.e (st x 91) (st x 91)
def Lz:=k6 x x.k.e 1550 x.k.e 1551 1552 563 2 989 990 991 992 993 1555 1556
def O8:=k7 x x.k.e (st x 91) (st x 91) x.j.p 1480 994
def Py:=k16 x x.c.o 1561 x.k.u 1562
def Jw:=k5 x x.k.f (st x 92) (st x 92)
def Ou:=k6 x x.k.f 1558 x.k.f 1559 1560 566 2 996 997 998 999 1000 1563 1564
def Pw:=k7 x x.k.f (st x 92) (st x 92) x.j.p 1480 1001
def IT:=k16 x x.b.e 1569 x.f.s 1570
def Ma:=k5 x x.k.g (st x 93) (st x 93)
def PF:=k6 x x.k.g 1566 x.k.g 1567 1568 568 2 1003 1004 1005 1006 1007 1571 1572
def Lg:=k7 x x.k.g (st x 93) (st x 93) x.j.p 1480 1008
abbrev Rc:List DictEntry:=nf (ap (sz (ab8 x) 0 (E x x.a.d 165 (u11 x.k.v 1574))) [E x x.k.w 1603 (u13 1026)])
def agB:=M (u1 x.l3) (u20 (u21 (Rc x)) 90)
abbrev acL:List Value:=nf (ap (ac2 x) [u12 575 0,u12 0 0,u13 1015])
def af6:=M u8 (u9 (u4 (acL x)))
def MY:=k14 x 1583 x.k.v 1574 1585 x.k.w 1584 1587 575 1586 x.k.x 1595 1023 1596 1024
def K7:=k15 x 577 1022
def Pd:=k1 x x.k.w 1578 1579 1580 575 1013 1014 1581 1582
def Lo:=k2 x 1015 1012 x.k.v 1574
def Nj:=k16 x x.b.d 1591 x.h.g 1592
def Ky:=k17 x x.k.x x.k.y (sm x 95 0) (sm x 95 0)
def JU:=k6 x x.k.x 1588 x.k.y 1589 1590 577 2 1017 1018 1019 1020 1021 1593 1594
def K6:=k18 x x.k.x x.k.y (sm x 95 0) (sm x 95 0) x.k.v 1574 1022
def PD:=M (u1 x.l3) (u20 (u21 [E x x.a.v 1583 (u11 x.k.v 1574),E x x.a.x 1587 (u12 575 1586),E x x.k.x 1595 (u13 1023),E x x.a.y 1596 (u13 1024),E x x.d.q 1598 (u13 1027),E x x.b.a 1600 (u13 1028),E x x.a.f 1601 u8]) 4)
def ad0:=k25 x x.k.w 1026 1025 1576 1584
def KG:=k26 x 1597 1026
def Ms:=k10 x 1599 1026
def OB:=k11 x 1026
def Jr:=k12 x 1026
abbrev ZA:List DictEntry:=nf (ap (Rc x) [E x x.l.a 1636 (u13 1054)])
def aec:=M (u1 x.l3) (u20 (u21 (ZA x)) 91)
abbrev Xy:List Value:=nf (ap (acL x) [u12 579 0,u12 0 0,u13 1036])
def ae2:=M u8 (u9 (u4 (Xy x)))
abbrev AK:List (Option Value):=nf (sz (sz (Iw x) 2 (u18 (u11 x.k.w 1576))) 3 (u18 (u11 x.k.w 1584)))
def aga:=u0 (u1 x.l9) u2 (u32 (u33 x.k.w [u1 x.l12] [u13 1026,u1 x.l12] 1025 x.k.w u31 u34 [u13 1054] u15 u35 u15)) (u6 (AK x))
def j5:=k13 x 1026
def OY:=k36 x 1611 x.k.v 1574 1613 x.l.a 1612 1615 579 1614 1623 1044 x.k.x 1631 1051 1633 1052
def PV:=k3 x 581 4 1043 586 1050
def Jp:=k1 x x.l.a 1606 1607 1608 579 1034 1035 1609 1610
def Pp:=k2 x 1036 1033 x.k.v 1574
def K8:=k16 x x.b.d 1619 x.c.o 1620
def Mu:=k17 x x.b.c x.l.b (sm x 96 0) (sm x 96 0)
def JZ:=k6 x x.b.c 1616 x.l.b 1617 1618 581 2 1038 1039 1040 1041 1042 1621 1622
def Nq:=k18 x x.b.c x.l.b (sm x 96 0) (sm x 96 0) x.k.v 1574 1043
def NZ:=k16 x x.b.d 1627 x.h.g 1628
def Od:=k17 x x.k.x x.l.c (sm x 96 1) (sm x 96 1)
def JL:=k6 x x.k.x 1624 x.l.c 1625 1626 586 2 1045 1046 1047 1048 1049 1629 1630
def Li:=k18 x x.k.x x.l.c (sm x 96 1) (sm x 96 1) x.k.v 1574 1050
def Jx:=k4 x x.c.o 1632
def NO:=k37 x 1611 1615 579 1614 1623 1044 1631 1051 1633 1052 1634
def KC:=k33 x x.l.a 1026 1054 1053 1031 1604 1612
def Ls:=k11 x 1054
def MJ:=k12 x 1054
abbrev ZX:List DictEntry:=nf (ap (ZA x) [E x x.l.d 1673 (u13 1081)])
def agf:=M (u1 x.l3) (u20 (u21 (ZX x)) 92)
abbrev aaS:List Value:=nf (ap (Xy x) [u12 588 0,u12 0 0,u13 1062])
def agD:=M u8 (u9 (u4 (aaS x)))
def aeS:=u0 (u1 x.l9) u2 (u32 (u33 x.k.w [u1 x.l12] [u13 1026,u1 x.l12] 1025 x.k.w u31 u34 [u13 1054,u13 1081] u15 u35 u15)) (u6 (AK x))
def OF:=k36 x 1644 x.k.v 1574 1646 x.l.d 1645 1648 588 1647 1657 1071 x.k.x 1667 1078 1670 1079
def KU:=k3 x 590 4 1070 598 1077
def La:=k1 x x.l.d 1639 1640 1641 588 1060 1061 1642 1643
def Oq:=k2 x 1062 1059 x.k.v 1574
def Pk:=k21 x x.b.d 1652 x.l.e 1653 x.c.o 1654
def Lv:=k17 x x.b.c x.l.f (sm x 97 0) (sm x 97 0)
def JC:=k6 x x.b.c 1649 x.l.f 1650 1651 590 3 1065 1066 1067 1068 1069 1655 1656
def Lr:=k32 x x.b.c x.l.f (sm x 97 0) 1064 x.k.v 1574 1070
def LX:=k24 x x.b.d 1661 x.h.g 1662 x.l.g 1663 x.b.q 1664
def MN:=k17 x x.k.x x.l.h (sm x 97 1) (sm x 97 1)
def Ln:=k6 x x.k.x 1658 x.l.h 1659 1660 598 2 1072 1073 1074 1075 1076 1665 1666
def O1:=k18 x x.k.x x.l.h (sm x 97 1) (sm x 97 1) x.k.v 1574 1077
def O9:=k16 x x.c.o 1668 x.l.e 1669
def Jy:=k37 x 1644 1648 588 1647 1657 1071 1667 1078 1670 1079 1671
def Mc:=k33 x x.l.d 1026 1081 1080 1057 1637 1645
def LF:=k11 x 1081
def Lx:=k12 x 1081
abbrev acN:List DictEntry:=nf (ap (ZX x) [E x x.l.i 1708 (u13 1107)])
def ad8:=M (u1 x.l3) (u20 (u21 (acN x)) 93)
abbrev WR:List Value:=nf (ap (aaS x) [u12 604 0,u12 0 0,u13 1089])
def adZ:=M u8 (u9 (u4 (WR x)))
def adP:=u0 (u1 x.l9) u2 (u32 (u33 x.k.w [u1 x.l12] [u13 1026,u1 x.l12] 1025 x.k.w u31 u34 [u13 1054,u13 1081,u13 1107] u15 u35 u15)) (u6 (AK x))
def Jl:=k36 x 1681 x.k.v 1574 1683 x.l.i 1682 1685 604 1684 1693 1097 x.k.x 1703 1104 1705 1105
def MO:=k3 x 606 4 1096 611 1103
def L1:=k1 x x.l.i 1676 1677 1678 604 1087 1088 1679 1680
def JF:=k2 x 1089 1086 x.k.v 1574
def Js:=k16 x x.b.d 1689 x.l.j 1690
def OV:=k17 x x.b.c x.l.k (sm x 98 0) (sm x 98 0)
def L5:=k6 x x.b.c 1686 x.l.k 1687 1688 606 2 1091 1092 1093 1094 1095 1691 1692
def MK:=k18 x x.b.c x.l.k (sm x 98 0) (sm x 98 0) x.k.v 1574 1096
def IQ:=k24 x x.b.d 1697 x.h.g 1698 x.l.l 1699 x.b.q 1700
def OO:=k17 x x.k.x x.l.m (sm x 98 1) (sm x 98 1)
def Px:=k6 x x.k.x 1694 x.l.m 1695 1696 611 2 1098 1099 1100 1101 1102 1701 1702
def LB:=k18 x x.k.x x.l.m (sm x 98 1) (sm x 98 1) x.k.v 1574 1103
def Nb:=k4 x x.l.j 1704
def Jv:=k37 x 1681 1685 604 1684 1693 1097 1703 1104 1705 1105 1706
def Ja:=k33 x x.l.i 1026 1107 1106 1084 1674 1682
def Mg:=k11 x 1107
def O6:=k12 x 1107
abbrev abq:List DictEntry:=nf (ap (acN x) [E x x.l.n 1737 (u13 1129)])
def aex:=M (u1 x.l3) (u20 (u21 (abq x)) 94)
abbrev acy:List Value:=nf (ap (WR x) [u12 617 0,u12 0 0,u13 1115])
def afm:=M u8 (u9 (u4 (acy x)))
abbrev Zc(x:X):List Value:=[u13 1054,u13 1081,u13 1107,u13 1129]
def agK:=u0 (u1 x.l9) u2 (u32 (u33 x.k.w [u1 x.l12] [u13 1026,u1 x.l12] 1025 x.k.w u31 u34 (Zc x) u15 u35 u15)) (u6 (AK x))
def P6:=k36 x 1716 x.k.v 1574 1718 x.l.n 1717 1720 617 1719 1726 1121 x.k.x 1732 1126 1734 1127
def Lp:=k3 x 619 4 1120 622 1125
def Pq:=k1 x x.l.n 1711 1712 1713 617 1113 1114 1714 1715
def LK:=k2 x 1115 1112 x.k.v 1574
def Nm:=k17 x x.b.c x.l.o (sm x 99 0) (sm x 99 0)
def NT:=k22 x x.b.c 1721 x.l.o 1722 1723 619 2 1117 1118 1119 1724 1725
def P4:=k18 x x.b.c x.l.o (sm x 99 0) (sm x 99 0) x.k.v 1574 1120
def Mv:=k17 x x.k.x x.l.p (sm x 99 1) (sm x 99 1)
def JT:=k22 x x.k.x 1727 x.l.p 1728 1729 622 2 1122 1123 1124 1730 1731
def Mi:=k18 x x.k.x x.l.p (sm x 99 1) (sm x 99 1) x.k.v 1574 1125
def Oc:=k4 x x.l.q 1733
def OI:=k37 x 1716 1720 617 1719 1726 1121 1732 1126 1734 1127 1735
def LC:=k33 x x.l.n 1026 1129 1128 1110 1709 1717
def L0:=k11 x 1129
def K9:=k12 x 1129
abbrev WI:List DictEntry:=nf (ap (sz (abq x) 0 (E x x.a.d 165 (u11 x.l.r 1791))) [E x x.l.s 1768 (u13 1153),E x x.l.t 1776 (u13 1162),E x x.l.u 1784 (u13 1167),E x x.l.v 1790 (u13 1172),E x x.l.w 1798 (u13 1177)])
def afO:=M (u1 x.l3) (u20 (u21 (WI x)) 99)
abbrev XI:List Value:=nf (ap (acy x) [u12 624 0,u12 0 0,u13 1137,u12 635 0,u12 0 0,u13 1161,u12 638 0,u12 0 0,u13 1166,u12 642 0,u12 0 0,u13 1171,u12 660 0,u12 0 0,u13 1176])
def afg:=M u8 (u9 (u4 (XI x)))
def OC:=u0 (u1 x.l9) u2 (u32 (u33 x.k.w [u1 x.l12] [u13 1026,u1 x.l12] 1025 x.k.w u31 u34 ((nf (ap (Zc x) [u13 1153]))) u15 u35 u15)) (u6 (AK x))
def O5:=k36 x 1745 x.k.v 1574 1747 x.l.s 1746 1749 624 1748 1757 1145 x.k.x 1763 1150 1765 1151
def Nc:=k3 x 626 4 1144 629 1149
def MZ:=k1 x x.l.s 1740 1741 1742 624 1135 1136 1743 1744
def Mb:=k2 x 1137 1134 x.k.v 1574
def MU:=k16 x x.b.d 1753 x.l.x 1754
def P8:=k17 x x.b.c x.l.y (sm x 100 0) (sm x 100 0)
def L3:=k6 x x.b.c 1750 x.l.y 1751 1752 626 2 1139 1140 1141 1142 1143 1755 1756
def MS:=k18 x x.b.c x.l.y (sm x 100 0) (sm x 100 0) x.k.v 1574 1144
def LY:=k17 x x.k.x x.m.a (sm x 100 1) (sm x 100 1)
def OJ:=k22 x x.k.x 1758 x.m.a 1759 1760 629 2 1146 1147 1148 1761 1762
def Mn:=k18 x x.k.x x.m.a (sm x 100 1) (sm x 100 1) x.k.v 1574 1149
def Mq:=k4 x x.l.x 1764
def Oh:=k37 x 1745 1749 624 1748 1757 1145 1763 1150 1765 1151 1766
def Pj:=k33 x x.l.s 1026 1153 1152 1132 1738 1746
def O4:=k11 x 1153
def KN:=k12 x 1153
def Jm:=k16 x x.h.g 1772 x.c.o 1773
def OH:=k5 x x.l.t (st x 101) (st x 101)
def Ju:=k6 x x.l.t 1769 x.l.t 1770 1771 635 2 1156 1157 1158 1159 1160 1774 1775
def Lj:=k7 x x.l.t (st x 101) (st x 101) x.k.v 1574 1161
def LN:=k5 x x.l.u (st x 103) (st x 103)
def Pf:=k22 x x.l.u 1779 x.l.u 1780 1781 638 1 1163 1164 1165 1782 1783
def Oo:=k7 x x.l.u (st x 103) (st x 103) x.m.b 1777 1166
def Nh:=k28 x (st x 104)
def OA:=k22 x x.l.v 1785 x.l.v 1786 1787 642 1 1168 1169 1170 1788 1789
def Ov:=k29 x (st x 104) x.m.b 1777 1171
def Lh:=k5 x x.l.w (st x 106) (st x 106)
def MQ:=k22 x x.l.w 1793 x.l.w 1794 1795 660 2 1173 1174 1175 1796 1797
def Oj:=k7 x x.l.w (st x 106) (st x 106) x.l.r 1791 1176
abbrev RB:List DictEntry:=nf (ap (sz (WI x) 0 (E x x.a.d 165 (u11 x.m.c 1851))) [E x x.m.d 1809 (u13 1184),E x x.m.e 1815 (u13 1189),E x x.m.f 1822 (u13 1196),E x x.m.g 1828 (u13 1201),E x x.m.h 1836 (u13 1206),E x x.m.i 1850 (u13 1213)])
def Kq:=M (u1 x.l3) (u20 (u21 (RB x)) 105)
abbrev abJ:List Value:=nf (ap (XI x) [u12 672 0,u12 0 0,u13 1183,u12 678 0,u12 0 0,u13 1188,u12 687 0,u12 0 0,u13 1195,u12 689 0,u12 0 0,u13 1200,u12 698 0,u12 0 0,u13 1205,u12 708 0,u12 0 0,u13 1212])
def afR:=M u8 (u9 (u4 (abJ x)))
def PY:=k23 x x.c.r 1802 x.m.j 1803 x.m.k 1804 x.m.l 1805 x.b.q 1806
def Ml:=k5 x x.m.d (st x 107) (st x 107)
def Lq:=k6 x x.m.d 1799 x.m.d 1800 1801 672 2 1178 1179 1180 1181 1182 1807 1808
def Jk:=k7 x x.m.d (st x 107) (st x 107) x.l.r 1791 1183
def Ku:=k5 x x.m.e (st x 108) (st x 108)
def LO:=k22 x x.m.e 1810 x.m.e 1811 1812 678 2 1185 1186 1187 1813 1814
def Om:=k7 x x.m.e (st x 108) (st x 108) x.l.r 1791 1188
def Lm:=k4 x x.i.c 1819
def JM:=k28 x (st x 109)
def PZ:=k6 x x.m.f 1816 x.m.f 1817 1818 687 1 1190 1191 1192 1193 1194 1820 1821
def KZ:=k29 x (st x 109) x.l.r 1791 1195
def OS:=k5 x x.m.g (st x 110) (st x 110)
def Mf:=k22 x x.m.g 1823 x.m.g 1824 1825 689 2 1197 1198 1199 1826 1827
def Ph:=k7 x x.m.g (st x 110) (st x 110) x.l.r 1791 1200
def NS:=k5 x x.m.h (st x 112) (st x 112)
def KH:=k22 x x.m.h 1831 x.m.h 1832 1833 698 2 1202 1203 1204 1834 1835
def KQ:=k7 x x.m.h (st x 112) (st x 112) x.m.m 1829 1205
def KY:=k30 x x.c.r 1840 x.m.n 1841 x.f.g 1842 x.m.j 1843 x.m.o 1844 x.m.p 1845 x.m.k 1846 x.b.w 1847
def IS:=k5 x x.m.i (st x 113) (st x 113)
def Pe:=k6 x x.m.i 1837 x.m.i 1838 1839 708 3 1207 1208 1209 1210 1211 1848 1849
def IW:=k7 x x.m.i (st x 113) (st x 113) x.m.m 1829 1212
abbrev XF:List DictEntry:=nf (ap (RB x) [E x x.m.q 2083 (u13 1384)])
def agy:=M (u1 x.l3) (u20 (u21 (XF x)) 106)
abbrev HU:List Value:=nf (ap (abJ x) [u12 717 0,u12 0 0,u13 1219])
def aeB:=M u8 (u9 (u4 (HU x)))
def OW:=M (u1 x.l3) (u20 (u21 [E x x.a.v 1860 (u11 x.m.c 1851),E x x.a.w 1862 (u11 x.m.q 1861),E x x.a.x 1864 (u12 717 1863),E x x.b.c 1875 (u13 1227),E x x.c.y 1883 (u13 1234),E x x.m.r 1890 (u13 1241),E x x.m.s 1900 (u13 1248),E x x.k.h 1908 (u13 1255),E x x.k.i 1922 (u13 1262),E x x.k.j 1934 (u13 1269),E x x.m.t 1941 (u13 1276),E x x.k.m 1948 (u13 1283),E x x.f.s 1956 (u13 1290),E x x.f.j 1965 (u13 1297),E x x.k.k 1977 (u13 1304),E x x.k.l 1987 (u13 1311),E x x.k.o 1995 (u13 1318),E x x.f.i 2003 (u13 1326),E x x.k.p 2012 (u13 1334),E x x.m.u 2020 (u13 1341),E x x.m.v 2027 (u13 1348),E x x.m.w 2035 (u13 1355),E x x.m.x 2044 (u13 1362),E x x.m.y 2052 (u13 1369),E x x.n.a 2061 (u13 1376),E x x.i.v 2067 (u13 1381),E x x.a.y 2076 (u13 1382)]) 27)
def MT(x:X):Obj:=M u8 (u9 (u4 [u12 719 0,u12 4 0,u13 1226,u12 729 0,u12 4 0,u13 1233,u12 732 0,u12 4 0,u13 1240,u12 735 0,u12 4 0,u13 1247,u12 741 0,u12 4 0,u13 1254,u12 746 0,u12 4 0,u13 1261,u12 756 0,u12 4 0,u13 1268,u12 765 0,u12 4 0,u13 1275,u12 768 0,u12 4 0,u13 1282,u12 771 0,u12 4 0,u13 1289,u12 775 0,u12 4 0,u13 1296,u12 779 0,u12 4 0,u13 1303,u12 783 0,u12 4 0,u13 1310,u12 790 0,u12 4 0,u13 1317,u12 794 0,u12 4 0,u13 1325,u12 797 0,u12 4 0,u13 1333,u12 800 0,u12 4 0,u13 1340,u12 804 0,u12 4 0,u13 1347,u12 807 0,u12 4 0,u13 1354,u12 812 0,u12 4 0,u13 1361,u12 823 0,u12 4 0,u13 1368,u12 827 0,u12 4 0,u13 1375,u12 832 0,u12 4 0,u13 1380]))
def MD:=k1 x x.m.q 1855 1856 1857 717 1217 1218 1858 1859
def L7:=k2 x 1219 1216 x.m.c 1851
def Np:=k23 x x.b.d 1868 x.b.h 1869 x.m.n 1870 x.f.e 1871 x.f.f 1872
def Nr:=k17 x x.b.c x.n.b (sm x 115 0) (sm x 115 0)
def LU:=k6 x x.b.c 1865 x.n.b 1866 1867 719 5 1221 1222 1223 1224 1225 1873 1874
def Ly:=k18 x x.b.c x.n.b (sm x 115 0) (sm x 115 0) x.m.c 1851 1226
def LW:=k16 x x.b.d 1879 x.n.c 1880
def NK:=k17 x x.c.y x.n.d (sm x 115 1) (sm x 115 1)
def NB:=k6 x x.c.y 1876 x.n.d 1877 1878 729 2 1228 1229 1230 1231 1232 1881 1882
def JB:=k18 x x.c.y x.n.d (sm x 115 1) (sm x 115 1) x.m.c 1851 1233
def LS:=k4 x x.b.d 1887
def Mt:=k17 x x.m.r x.n.e (sm x 115 2) (sm x 28 0)
def OM:=k6 x x.m.r 1884 x.n.e 1885 1886 732 1 1235 1236 1237 1238 1239 1888 1889
def OZ:=k18 x x.m.r x.n.e (sm x 115 2) (sm x 28 0) x.m.c 1851 1240
def OU:=k24 x x.b.d 1894 x.b.e 1895 x.f.j 1896 x.b.w 1897
def NP:=k17 x x.m.s x.n.f (sm x 115 3) (sm x 115 3)
def Jd:=k6 x x.m.s 1891 x.n.f 1892 1893 735 2 1242 1243 1244 1245 1246 1898 1899
def MR:=k18 x x.m.s x.n.f (sm x 115 3) (sm x 115 3) x.m.c 1851 1247
def Mp:=k16 x x.b.d 1904 x.b.q 1905
def NF:=k17 x x.k.h x.n.g (sm x 115 4) (sm x 115 4)
def Pz:=k6 x x.k.h 1901 x.n.g 1902 1903 741 2 1249 1250 1251 1252 1253 1906 1907
def MG:=k18 x x.k.h x.n.g (sm x 115 4) (sm x 115 4) x.m.c 1851 1254
def PB:=k30 x x.b.d 1912 x.m.n 1913 x.i.y 1914 x.m.l 1915 x.b.w 1916 x.d.h 1917 x.d.i 1918 x.n.h 1919
def Nn:=k17 x x.k.i x.n.i (sm x 115 5) (sm x 115 5)
def LM:=k6 x x.k.i 1909 x.n.i 1910 1911 746 1 1256 1257 1258 1259 1260 1920 1921
def MI:=k18 x x.k.i x.n.i (sm x 115 5) (sm x 115 5) x.m.c 1851 1261
def Pg:=k27 x x.b.d 1926 x.c.r 1927 x.c.o 1928 x.n.j 1929 x.n.k 1930 x.n.l 1931
def Oa:=k17 x x.k.j x.n.m (sm x 115 6) (sm x 115 6)
def KI:=k6 x x.k.j 1923 x.n.m 1924 1925 756 3 1263 1264 1265 1266 1267 1932 1933
def L4:=k18 x x.k.j x.n.m (sm x 115 6) (sm x 115 6) x.m.c 1851 1268
def Nt:=k4 x x.b.d 1938
def Jg:=k17 x x.m.t x.n.n (sm x 115 7) (sm x 28 5)
def OX:=k6 x x.m.t 1935 x.n.n 1936 1937 765 1 1270 1271 1272 1273 1274 1939 1940
def ML:=k18 x x.m.t x.n.n (sm x 115 7) (sm x 28 5) x.m.c 1851 1275
def Ol:=k4 x x.b.d 1945
def Kd:=k17 x x.k.m x.n.o (sm x 115 8) (sm x 115 8)
def O2:=k6 x x.k.m 1942 x.n.o 1943 1944 768 1 1277 1278 1279 1280 1281 1946 1947
def IX:=k18 x x.k.m x.n.o (sm x 115 8) (sm x 115 8) x.m.c 1851 1282
def P1:=k16 x x.b.d 1952 x.c.r 1953
def ME:=k17 x x.f.s x.n.p (sm x 115 9) (sm x 22 0)
def Lc:=k6 x x.f.s 1949 x.n.p 1950 1951 771 2 1284 1285 1286 1287 1288 1954 1955
def MC:=k18 x x.f.s x.n.p (sm x 115 9) (sm x 22 0) x.m.c 1851 1289
def Ob:=k21 x x.b.d 1960 x.c.r 1961 x.b.w 1962
def Nz:=k17 x x.f.j x.n.q (sm x 115 10) (sm x 115 10)
def JW:=k6 x x.f.j 1957 x.n.q 1958 1959 775 3 1291 1292 1293 1294 1295 1963 1964
def PU:=k18 x x.f.j x.n.q (sm x 115 10) (sm x 115 10) x.m.c 1851 1296
def Po:=k27 x x.b.d 1969 x.c.r 1970 x.b.w 1971 x.c.a 1972 x.g.b 1973 x.n.r 1974
def IY:=k17 x x.k.k x.n.s (sm x 115 11) (sm x 115 11)
def Ji:=k6 x x.k.k 1966 x.n.s 1967 1968 779 5 1298 1299 1300 1301 1302 1975 1976
def Pb:=k18 x x.k.k x.n.s (sm x 115 11) (sm x 115 11) x.m.c 1851 1303
def MA:=k24 x x.b.d 1981 x.c.r 1982 x.d.i 1983 x.i.y 1984
def ND:=k17 x x.k.l x.n.t (sm x 115 12) (sm x 115 12)
def Km:=k6 x x.k.l 1978 x.n.t 1979 1980 783 3 1305 1306 1307 1308 1309 1985 1986
def OE:=k18 x x.k.l x.n.t (sm x 115 12) (sm x 115 12) x.m.c 1851 1310
def Ld:=k16 x x.b.d 1991 x.c.r 1992
def JV:=k17 x x.k.o x.n.u (sm x 115 13) (sm x 115 13)
def JI:=k6 x x.k.o 1988 x.n.u 1989 1990 790 2 1312 1313 1314 1315 1316 1993 1994
def Ko:=k18 x x.k.o x.n.u (sm x 115 13) (sm x 115 13) x.m.c 1851 1317
def JS:=k16 x x.b.d 1999 x.n.v 2000
def Pu:=k17 x x.f.i x.n.w (sm x 115 14) (sm x 115 14)
def IZ:=k6 x x.f.i 1996 x.n.w 1997 1998 794 2 1320 1321 1322 1323 1324 2001 2002
def NQ:=k32 x x.f.i x.n.w (sm x 115 14) 1319 x.m.c 1851 1325
def O7:=k21 x x.b.d 2007 x.b.q 2008 x.n.v 2009
def Jq:=k17 x x.k.p x.n.x (sm x 115 15) (sm x 115 15)
def LQ:=k6 x x.k.p 2004 x.n.x 2005 2006 797 3 1328 1329 1330 1331 1332 2010 2011
def OG:=k32 x x.k.p x.n.x (sm x 115 15) 1327 x.m.c 1851 1333
def KS:=k16 x x.b.d 2016 x.c.r 2017
def L8:=k17 x x.m.u x.n.y (sm x 115 16) (sm x 115 16)
def Lu:=k6 x x.m.u 2013 x.n.y 2014 2015 800 2 1335 1336 1337 1338 1339 2018 2019
def JA:=k18 x x.m.u x.n.y (sm x 115 16) (sm x 115 16) x.m.c 1851 1340
def Oi:=k4 x x.b.d 2024
def JD:=M u8 (u27 (u28 (f0 (sm x 115 17)) x.o.a (f1 (sm x 115 17)) (u29 (f2 (sm x 115 17))) (f6 (sm x 115 17)) 0 u30 u8 u8 u8 u8 u2 u8 u8 0))
def NC:=k6 x x.m.v 2021 x.o.a 2022 2023 804 1 1342 1343 1344 1345 1346 2025 2026
def Nl:=M (u1 x.l5) (u27 (u28 (f0 (sm x 115 17)) x.o.a (f1 (sm x 115 17)) (u29 (f2 (sm x 115 17))) (f6 (sm x 115 17)) 3 u30 u8 u8 u8 (u11 x.m.c 1851) u2 (u13 1347) u8 0))
def Kh:=k16 x x.b.d 2031 x.b.e 2032
def P7:=k17 x x.m.w x.o.b (sm x 115 18) (sm x 115 18)
def NI:=k6 x x.m.w 2028 x.o.b 2029 2030 807 2 1349 1350 1351 1352 1353 2033 2034
def OR:=k18 x x.m.w x.o.b (sm x 115 18) (sm x 115 18) x.m.c 1851 1354
def LH:=k21 x x.b.d 2039 x.b.e 2040 x.b.t 2041
def Kp:=k17 x x.m.x x.o.c (sm x 115 19) (sm x 115 19)
def OP:=k6 x x.m.x 2036 x.o.c 2037 2038 812 2 1356 1357 1358 1359 1360 2042 2043
def Jf:=k18 x x.m.x x.o.c (sm x 115 19) (sm x 115 19) x.m.c 1851 1361
def Jt:=k16 x x.b.d 2048 x.n.l 2049
def NH:=k17 x x.m.y x.o.d (sm x 115 20) (sm x 115 20)
def K5:=k6 x x.m.y 2045 x.o.d 2046 2047 823 2 1363 1364 1365 1366 1367 2050 2051
def NV:=k18 x x.m.y x.o.d (sm x 115 20) (sm x 115 20) x.m.c 1851 1368
def JY:=k21 x x.b.d 2056 x.d.h 2057 x.d.i 2058
def Kc:=k17 x x.n.a x.o.e (sm x 115 21) (sm x 115 21)
def My:=k6 x x.n.a 2053 x.o.e 2054 2055 827 3 1370 1371 1372 1373 1374 2059 2060
def IP:=k18 x x.n.a x.o.e (sm x 115 21) (sm x 115 21) x.m.c 1851 1375
def JP:=k17 x x.i.v x.o.f (sm x 115 22) (sm x 115 22)
def L6:=k22 x x.i.v 2062 x.o.f 2063 2064 832 2 1377 1378 1379 2065 2066
def Mj:=k18 x x.i.v x.o.f (sm x 115 22) (sm x 115 22) x.m.c 1851 1380
def Mm:=k30 x x.h.g 2068 x.o.g 2069 x.f.f 2070 x.o.h 2071 x.m.n 2072 x.o.i 2073 x.f.e 2074 x.i.u 2075
def NW:=M (u1 x.l3) (u20 (u21 [E x x.a.v 1860 (u11 x.m.c 1851),E x x.a.x 1864 (u12 717 1863),E x x.b.c 1875 (u13 1227),E x x.c.y 1883 (u13 1234),E x x.m.r 1890 (u13 1241),E x x.m.s 1900 (u13 1248),E x x.k.h 1908 (u13 1255),E x x.k.i 1922 (u13 1262),E x x.k.j 1934 (u13 1269),E x x.m.t 1941 (u13 1276),E x x.k.m 1948 (u13 1283),E x x.f.s 1956 (u13 1290),E x x.f.j 1965 (u13 1297),E x x.k.k 1977 (u13 1304),E x x.k.l 1987 (u13 1311),E x x.k.o 1995 (u13 1318),E x x.f.i 2003 (u13 1326),E x x.k.p 2012 (u13 1334),E x x.m.u 2020 (u13 1341),E x x.m.v 2027 (u13 1348),E x x.m.w 2035 (u13 1355),E x x.m.x 2044 (u13 1362),E x x.m.y 2052 (u13 1369),E x x.n.a 2061 (u13 1376),E x x.i.v 2067 (u13 1381),E x x.a.y 2076 (u13 1382),E x x.d.q 2078 (u13 1385),E x x.b.a 2080 (u13 1386),E x x.a.f 2081 u8]) 4)
def Kl:=k25 x x.m.q 1384 1383 1853 1861
def Lb:=k26 x 2077 1384
def LA:=k10 x 2079 1384
def OT:=k11 x 1384
def P5:=k12 x 1384
def afI:=M u8 (u9 (u4 (HU x)))
def agP:=M (u1 x.l3) (u20 (u21 [E x x.a.v 1860 (u11 x.m.c 1851),E x x.a.w 1862 (u11 x.m.q 1861),E x x.a.x 1864 (u12 717 1863),E x x.b.c 1875 (u13 1227),E x x.c.y 1883 (u13 1234),E x x.m.r 1890 (u13 1241),E x x.m.s 1900 (u13 1248),E x x.k.h 1908 (u13 1255),E x x.k.i 1922 (u13 1262),E x x.k.j 1934 (u13 1269),E x x.m.t 1941 (u13 1276),E x x.k.m 1948 (u13 1283),E x x.f.s 1956 (u13 1290)]) 13)
def aeq(x:X):Obj:=M u8 (u9 (u4 [u12 719 0,u12 4 0,u13 1226,u12 729 0,u12 4 0,u13 1233,u12 732 0,u12 4 0,u13 1240,u12 735 0,u12 4 0,u13 1247,u12 741 0,u12 4 0,u13 1254,u12 746 0,u12 4 0,u13 1261,u12 756 0,u12 4 0,u13 1268,u12 765 0,u12 4 0,u13 1275,u12 768 0,u12 4 0,u13 1282,u12 771 0,u12 4 0,u13 1289,u12 775 0,u12 4 0,u13 1296]))
abbrev VJ:List DictEntry:=nf (ap (sz (XF x) 0 (E x x.a.d 165 (u11 x.o.j 2092))) [E x x.o.k 2091 (u13 1395),E x x.o.l 2099 (u13 1400),E x x.o.m 2106 (u13 1407),E x x.o.n 2114 (u13 1414),E x x.o.o 2122 (u13 1421),E x x.o.p 2130 (u13 1428),E x x.o.q 2136 (u13 1433),E x x.o.r 2144 (u13 1440),E x x.o.s 2152 (u13 1447),E x x.o.t 2160 (u13 1454),E x x.o.u 2168 (u13 1461),E x x.o.v 2176 (u13 1468),E x x.o.w 2184 (u13 1475)])
def agn:=M (u1 x.l3) (u20 (u21 (VJ x)) 119)
abbrev SE:List Value:=nf (ap (HU x) [u12 837 0,u12 0 0,u13 1394,u12 843 0,u12 0 0,u13 1399,u12 845 0,u12 0 0,u13 1406,u12 847 0,u12 0 0,u13 1413,u12 849 0,u12 0 0,u13 1420,u12 851 0,u12 0 0,u13 1427,u12 854 0,u12 0 0,u13 1432,u12 858 0,u12 0 0,u13 1439,u12 860 0,u12 0 0,u13 1446,u12 863 0,u12 0 0,u13 1453,u12 865 0,u12 0 0,u13 1460,u12 867 0,u12 0 0,u13 1467,u12 869 0,u12 0 0,u13 1474])
def adz:=M u8 (u9 (u4 (SE x)))
def aei:=k16 x x.c.r 2087 x.n.l 2088
def af7:=k5 x x.o.k (st x 116) (st x 116)
def ad4:=k6 x x.o.k 2084 x.o.k 2085 2086 837 2 1389 1390 1391 1392 1393 2089 2090
def adA:=k7 x x.o.k (st x 116) (st x 116) x.m.c 1851 1394
def afC:=k5 x x.o.l (st x 118) (st x 118)
def aek:=k22 x x.o.l 2094 x.o.l 2095 2096 843 1 1396 1397 1398 2097 2098
def aeV:=k7 x x.o.l (st x 118) (st x 118) x.o.j 2092 1399
def afY:=k4 x x.f.s 2103
def afS:=k5 x x.o.m (st x 119) (st x 119)
def afo:=k6 x x.o.m 2100 x.o.m 2101 2102 845 1 1401 1402 1403 1404 1405 2104 2105
def adI:=k7 x x.o.m (st x 119) (st x 119) x.o.j 2092 1406
def ae9:=k16 x x.o.x 2110 x.n.c 2111
def adV:=k5 x x.o.n (st x 120) (st x 120)
def aev:=k6 x x.o.n 2107 x.o.n 2108 2109 847 2 1408 1409 1410 1411 1412 2112 2113
def ad9:=k7 x x.o.n (st x 120) (st x 120) x.o.j 2092 1413
def afl:=k16 x x.o.x 2118 x.k.t 2119
def af9:=k5 x x.o.o (st x 121) (st x 121)
def aeG:=k6 x x.o.o 2115 x.o.o 2116 2117 849 2 1415 1416 1417 1418 1419 2120 2121
def af8:=k7 x x.o.o (st x 121) (st x 121) x.o.j 2092 1420
def aed:=k16 x x.o.x 2126 x.f.s 2127
def adR:=k5 x x.o.p (st x 122) (st x 122)
def aeX:=k6 x x.o.p 2123 x.o.p 2124 2125 851 2 1422 1423 1424 1425 1426 2128 2129
def ad2:=k7 x x.o.p (st x 122) (st x 122) x.o.j 2092 1427
def aeT:=k5 x x.o.q (st x 123) (st x 123)
def ad5:=k22 x x.o.q 2131 x.o.q 2132 2133 854 2 1429 1430 1431 2134 2135
def adT:=k7 x x.o.q (st x 123) (st x 123) x.o.j 2092 1432
def agi:=k16 x x.o.x 2140 x.f.s 2141
def aeh:=k5 x x.o.r (st x 124) (st x 124)
def aeA:=k6 x x.o.r 2137 x.o.r 2138 2139 858 2 1434 1435 1436 1437 1438 2142 2143
def aet:=k7 x x.o.r (st x 124) (st x 124) x.o.j 2092 1439
def ags:=k16 x x.o.x 2148 x.f.s 2149
def afz:=k5 x x.o.s (st x 125) (st x 122)
def aeC:=k6 x x.o.s 2145 x.o.s 2146 2147 860 2 1441 1442 1443 1444 1445 2150 2151
def agI:=k7 x x.o.s (st x 125) (st x 122) x.o.j 2092 1446
def agm:=k16 x x.o.x 2156 x.f.s 2157
def aen:=k5 x x.o.t (st x 126) (st x 126)
def agx:=k6 x x.o.t 2153 x.o.t 2154 2155 863 2 1448 1449 1450 1451 1452 2158 2159
def afN:=k7 x x.o.t (st x 126) (st x 126) x.o.j 2092 1453
def aey:=k16 x x.o.x 2164 x.f.s 2165
def aeD:=k5 x x.o.u (st x 127) (st x 126)
def ae5:=k6 x x.o.u 2161 x.o.u 2162 2163 865 2 1455 1456 1457 1458 1459 2166 2167
def agO:=k7 x x.o.u (st x 127) (st x 126) x.o.j 2092 1460
def adF:=k16 x x.o.x 2172 x.f.s 2173
def afd:=k5 x x.o.v (st x 128) (st x 126)
def agu:=k6 x x.o.v 2169 x.o.v 2170 2171 867 2 1462 1463 1464 1465 1466 2174 2175
def aeI:=k7 x x.o.v (st x 128) (st x 126) x.o.j 2092 1467
def agc:=k16 x x.o.x 2180 x.f.s 2181
def agp:=k5 x x.o.w (st x 129) (st x 129)
def aeO:=k6 x x.o.w 2177 x.o.w 2178 2179 869 2 1469 1470 1471 1472 1473 2182 2183
def agg:=k7 x x.o.w (st x 129) (st x 129) x.o.j 2092 1474
abbrev Vy:List DictEntry:=nf (ap (VJ x) [E x x.o.y 2193 (u13 1482),E x x.p.a 2199 (u13 1487),E x x.p.b 2208 (u13 1494),E x x.p.c 2217 (u13 1501),E x x.p.d 2227 (u13 1508)])
def afJ:=M (u1 x.l3) (u20 (u21 (Vy x)) 124)
abbrev Sd:List Value:=nf (ap (SE x) [u12 871 0,u12 0 0,u13 1481,u12 874 0,u12 0 0,u13 1486,u12 882 0,u12 0 0,u13 1493,u12 885 0,u12 0 0,u13 1500,u12 888 0,u12 0 0,u13 1507])
def afi:=M u8 (u9 (u4 (Sd x)))
def agk:=k21 x x.o.x 2188 x.f.s 2189 x.b.q 2190
def agt:=k5 x x.o.y (st x 130) (st x 130)
def agr:=k6 x x.o.y 2185 x.o.y 2186 2187 871 2 1476 1477 1478 1479 1480 2191 2192
def age:=k7 x x.o.y (st x 130) (st x 130) x.o.j 2092 1481
def adD:=k5 x x.p.a (st x 131) (st x 131)
def afD:=k22 x x.p.a 2194 x.p.a 2195 2196 874 2 1483 1484 1485 2197 2198
def aeJ:=k7 x x.p.a (st x 131) (st x 131) x.o.j 2092 1486
def adK:=k21 x x.o.x 2203 x.f.s 2204 x.f.p 2205
def ae4:=k5 x x.p.b (st x 132) (st x 132)
def afL:=k6 x x.p.b 2200 x.p.b 2201 2202 882 2 1488 1489 1490 1491 1492 2206 2207
def aeR:=k7 x x.p.b (st x 132) (st x 132) x.o.j 2092 1493
def agz:=k21 x x.o.x 2212 x.f.s 2213 x.i.o 2214
def ae6:=k5 x x.p.c (st x 133) (st x 133)
def aes:=k6 x x.p.c 2209 x.p.c 2210 2211 885 2 1495 1496 1497 1498 1499 2215 2216
def afA:=k7 x x.p.c (st x 133) (st x 133) x.o.j 2092 1500
def adq:=k24 x x.o.x 2221 x.f.s 2222 x.j.n 2223 x.i.y 2224
def aeU:=k5 x x.p.d (st x 134) (st x 134)
def afq:=k6 x x.p.d 2218 x.p.d 2219 2220 888 2 1502 1503 1504 1505 1506 2225 2226
def aeu:=k7 x x.p.d (st x 134) (st x 134) x.o.j 2092 1507
abbrev XD:List DictEntry:=nf (ap (Vy x) [E x x.p.e 2258 (u13 1509)])
def ad7:=M (u1 x.l3) (u20 (u21 (XD x)) 125)
def afh:=M (u1 x.l3) (u20 (u21 [E x x.b.q 2228 (u13 1414),E x x.m.s 2229 (u13 1421),E x x.k.h 2230 (u13 1428),E x x.k.i 2231 (u13 1433),E x x.k.j 2232 (u13 1440),E x x.k.k 2233 (u13 1447),E x x.k.l 2234 (u13 1454),E x x.k.m 2235 (u13 1461),E x x.k.n 2236 (u13 1468),E x x.c.v 2237 (u13 1475),E x x.k.o 2238 (u13 1482),E x x.k.p 2239 (u13 1487),E x x.f.p 2240 (u13 1494),E x x.i.o 2241 (u13 1501),E x x.k.q 2242 (u13 1508)]) 15)
abbrev UC:List DictEntry:=nf (ap (sz (XD x) 0 (E x x.a.d 165 (u11 x.p.f 2300))) [E x x.p.g 2299 (u13 1533),E x x.p.h 2309 (u13 1544),E x x.p.i 2318 (u13 1551),E x x.p.j 2326 (u13 1558),E x x.p.k 2332 (u13 1563)])
def agl:=M (u1 x.l3) (u20 (u21 (UC x)) 130)
abbrev RI:List Value:=nf (ap (Sd x) [u12 893 0,u12 0 0,u13 1515,u12 903 0,u12 0 0,u13 1543,u12 907 0,u12 0 0,u13 1550,u12 910 0,u12 0 0,u13 1557,u12 918 0,u12 0 0,u13 1562])
def adN:=M u8 (u9 (u4 (RI x)))
def adw:=k36 x 2266 x.o.j 2092 2268 x.p.g 2267 2270 893 2269 2281 1523 x.p.l 2290 1530 2292 1531
def afG:=k3 x 895 4 1522 899 1529
def agv:=k1 x x.p.g 2261 2262 2263 893 1513 1514 2264 2265
def agF:=k2 x 1515 1512 x.o.j 2092
def afP:=k23 x x.b.d 2274 x.b.h 2275 x.f.e 2276 x.f.f 2277 x.l.x 2278
def ae7:=k17 x x.b.c x.p.m (sm x 136 0) (sm x 136 0)
def ad6:=k6 x x.b.c 2271 x.p.m 2272 2273 895 5 1517 1518 1519 1520 1521 2279 2280
def aee:=k18 x x.b.c x.p.m (sm x 136 0) (sm x 136 0) x.o.j 2092 1522
def agj:=k21 x x.b.d 2285 x.e.r 2286 x.i.y 2287
def agT:=k17 x x.p.l x.p.n (sm x 136 1) (sm x 136 1)
def aeg:=k6 x x.p.l 2282 x.p.n 2283 2284 899 2 1524 1525 1526 1527 1528 2288 2289
def afZ:=k18 x x.p.l x.p.n (sm x 136 1) (sm x 136 1) x.o.j 2092 1529
def af1:=k4 x x.o.x 2291
def agC:=M (u1 x.l3) (u20 (u21 [E x x.a.v 2266 (u11 x.o.j 2092),E x x.a.x 2270 (u12 893 2269),E x x.b.c 2281 (u13 1523),E x x.p.l 2290 (u13 1530),E x x.a.y 2292 (u13 1531),E x x.d.q 2294 (u13 1534),E x x.b.a 2296 (u13 1535),E x x.a.f 2297 u8]) 4)
def agA:=k25 x x.p.g 1533 1532 2259 2267
def aeK:=k26 x 2293 1533
def aeF:=k10 x 2295 1533
def aea:=k11 x 1533
def aem:=k12 x 1533
def adW:=k16 x x.p.o 2305 x.p.p 2306
def afM:=k5 x x.p.h (st x 138) (st x 138)
def ad1:=k6 x x.p.h 2302 x.p.h 2303 2304 903 2 1538 1539 1540 1541 1542 2307 2308
def ae3:=k7 x x.p.h (st x 138) (st x 138) x.p.f 2300 1543
def ads:=k21 x x.p.q 2313 x.p.p 2314 x.p.r 2315
def afB:=k5 x x.p.i (st x 139) (st x 139)
def afv:=k6 x x.p.i 2310 x.p.i 2311 2312 907 2 1545 1546 1547 1548 1549 2316 2317
def aeY:=k7 x x.p.i (st x 139) (st x 139) x.p.f 2300 1550
def adH:=k16 x x.p.q 2322 x.p.p 2323
def adp:=k5 x x.p.j (st x 140) (st x 140)
def agG:=k6 x x.p.j 2319 x.p.j 2320 2321 910 2 1552 1553 1554 1555 1556 2324 2325
def agh:=k7 x x.p.j (st x 140) (st x 140) x.p.f 2300 1557
def adY:=k28 x (st x 141)
def afE:=k22 x x.p.k 2327 x.p.k 2328 2329 918 2 1559 1560 1561 2330 2331
def aew:=k29 x (st x 141) x.p.f 2300 1562
def adJ:=M (u1 x.l3) (u20 (u21 ((nf (ap (UC x) [E x x.p.s 2341 (u13 1570),E x x.p.t 2355 (u13 1577),E x x.p.u 2365 (u13 1584),E x x.p.v 2383 (u13 1591),E x x.p.w 2395 (u13 1598),E x x.p.x 2401 (u13 1603),E x x.p.y 2411 (u13 1610),E x x.q.a 2422 (u13 1617),E x x.q.b 2428 (u13 1622)])))) 139)
def afp:=M u8 (u9 (u4 ((nf (ap (RI x) [u12 920 0,u12 0 0,u13 1569,u12 929 0,u12 0 0,u13 1576,u12 937 0,u12 0 0,u13 1583,u12 943 0,u12 0 0,u13 1590,u12 960 0,u12 0 0,u13 1597,u12 976 0,u12 0 0,u13 1602,u12 981 0,u12 0 0,u13 1609,u12 990 0,u12 0 0,u13 1616,u12 998 0,u12 0 0,u13 1621])))))
def af2:=k21 x x.q.c 2336 x.q.d 2337 x.q.e 2338
def aeL:=k28 x (st x 142)
def agE:=k6 x x.p.s 2333 x.p.s 2334 2335 920 2 1564 1565 1566 1567 1568 2339 2340
def agJ:=k29 x (st x 142) x.p.f 2300 1569
def afn:=k30 x x.q.f 2345 x.q.g 2346 x.q.h 2347 x.q.i 2348 x.q.j 2349 x.q.k 2350 x.q.l 2351 x.q.m 2352
def afs:=k5 x x.p.t (st x 143) (st x 143)
def adt:=k6 x x.p.t 2342 x.p.t 2343 2344 929 4 1571 1572 1573 1574 1575 2353 2354
def af0:=k7 x x.p.t (st x 143) (st x 143) x.p.f 2300 1576
def ago:=k24 x x.q.c 2359 x.q.n 2360 x.q.h 2361 x.q.i 2362
def afr:=k5 x x.p.u (st x 144) (st x 144)
def afT:=k6 x x.p.u 2356 x.p.u 2357 2358 937 2 1578 1579 1580 1581 1582 2363 2364
def aer:=k7 x x.p.u (st x 144) (st x 144) x.p.f 2300 1583
def afQ:=M (u1 x.l0) (u3 (u4 [u11 x.q.f 2369,u11 x.q.g 2370,u11 x.q.o 2371,u11 x.q.c 2372,u11 x.q.d 2373,u11 x.q.p 2374,u11 x.q.q 2375,u11 x.q.r 2376,u11 x.q.i 2377,u11 x.q.s 2378,u11 x.q.h 2379,u11 x.q.t 2380]) 0)
def adG:=k5 x x.p.v (st x 145) (st x 145)
def aeN:=k6 x x.p.v 2366 x.p.v 2367 2368 943 6 1585 1586 1587 1588 1589 2381 2382
def afx:=k7 x x.p.v (st x 145) (st x 145) x.p.f 2300 1590
def afu:=k27 x x.q.u 2387 x.q.d 2388 x.q.v 2389 x.q.w 2390 x.q.x 2391 x.q.i 2392
def aeE:=k5 x x.p.w (st x 146) (st x 146)
def afH:=k6 x x.p.w 2384 x.p.w 2385 2386 960 2 1592 1593 1594 1595 1596 2393 2394
def agQ:=k7 x x.p.w (st x 146) (st x 146) x.p.f 2300 1597
def afK:=k5 x x.p.x (st x 147) (st x 147)
def agL:=k22 x x.p.x 2396 x.p.x 2397 2398 976 2 1599 1600 1601 2399 2400
def agH:=k7 x x.p.x (st x 147) (st x 147) x.p.f 2300 1602
def afy:=k24 x x.p.q 2405 x.q.p 2406 x.p.p 2407 x.p.r 2408
def adS:=k5 x x.p.y (st x 148) (st x 148)
def afc:=k6 x x.p.y 2402 x.p.y 2403 2404 981 1 1604 1605 1606 1607 1608 2409 2410
def aeb:=k7 x x.p.y (st x 148) (st x 148) x.p.f 2300 1609
def aeM:=k23 x x.p.q 2415 x.q.y 2416 x.q.d 2417 x.p.p 2418 x.p.r 2419
def adB:=k28 x (st x 149)
def aeH:=k6 x x.q.a 2412 x.q.a 2413 2414 990 2 1611 1612 1613 1614 1615 2420 2421
def afW:=k29 x (st x 149) x.p.f 2300 1616
def afk:=k5 x x.q.b (st x 150) (st x 150)
def ae1:=k22 x x.q.b 2423 x.q.b 2424 2425 998 1 1618 1619 1620 2426 2427
def af4:=k7 x x.q.b (st x 150) (st x 150) x.p.f 2300 1621
def q1(x:X):Obj:=M u8 (u20 (u21 u26) 0)
abbrev tree47:X->PySem.W.BT:=λx=>nf (G Z 0 [b0,b1,b2,b3,b4,b5,b6,b7,b8,b9,b10,o43,o44,o45,o46] x)
abbrev tree70:X->PySem.W.BT:=λx=>nf (G (G (G tree47 3 [o49]) 12 [o50]) 15 [o43,o44,o53,o43,o55,o56,o57,o58,o59,o60,o43,o44,o63,o64,o43,o66,o67,o68,o69,o70] x)
abbrev tree92:X->PySem.W.BT:=λx=>nf (G (G (G (G tree70 3 [o71]) 12 [o72]) 31 [o73]) 35 [o74,o59,o76,o43,o78,o79,o80,o43,o44,o83,o43,o85,o86,o87,o88,o89,o90,o91,o92] x)
abbrev tree114:X->PySem.W.BT:=λx=>nf (G (G (G (G tree92 3 [o93]) 12 [o94]) 31 [o95]) 54 [o74,o59,o98,o43,aau,RY,Rn,o43,o44,aaV,o43,RW,ZC,UQ,WE,Wr,Yt,RU,Um] x)
abbrev tree136:X->PySem.W.BT:=λx=>nf (G (G (G (G tree114 3 [ag4]) 12 [agY]) 31 [ah2]) 73 [o74,o59,aaJ,o43,Rw,W7,abQ,o43,o44,V4,o43,RP,V8,U6,aab,VB,Zi,WD,Xa] x)
abbrev tree158:X->PySem.W.BT:=λx=>nf (G (G (G (G tree136 3 [ahR]) 12 [ahQ]) 31 [ahh]) 92 [o74,o59,aae,o43,ZK,WM,Wt,o43,o44,abb,o43,aa5,RN,ac8,WQ,acS,ZD,UT,abm] x)
abbrev tree180:X->PySem.W.BT:=λx=>nf (G (G (G (G tree158 3 [ahm]) 12 [ag9]) 31 [agZ]) 111 [o74,o59,U1,o43,Vg,VZ,ZV,o43,o44,adg,o43,aa6,Y8,Xq,Rx,abU,V0,adj,Uh] x)
abbrev tree202:X->PySem.W.BT:=λx=>nf (G (G (G (G tree180 3 [ahT]) 12 [ahZ]) 31 [ahB]) 130 [o74,o59,Tt,o43,Vd,U3,VS,o43,o44,YI,o43,Uo,Tv,Yd,ac5,acK,acq,acX,abV] x)
abbrev tree224:X->PySem.W.BT:=λx=>nf (G (G (G (G tree202 3 [ail]) 12 [agW]) 31 [ahb]) 149 [o74,o59,ach,o43,YB,Sg,Zo,o43,o44,Wj,o43,Xj,Xv,UY,W9,XE,Uw,Za,Xr] x)
abbrev tree246:X->PySem.W.BT:=λx=>nf (G (G (G (G tree224 3 [ahO]) 12 [ahu]) 31 [aih]) 168 [o74,o59,Ti,o43,Ry,Yp,Vf,o43,o44,acQ,o43,Sh,aa9,abi,SO,Tz,aam,Uc,acF] x)
abbrev tree268:X->PySem.W.BT:=λx=>nf (G (G (G (G tree246 3 [agV]) 12 [ahY]) 31 [aib]) 187 [o74,o59,RZ,o43,Rb,Yr,aap,o43,o44,TQ,o43,ZG,acg,acA,RH,Vi,adh,Zt,RM] x)
abbrev tree283:X->PySem.W.BT:=λx=>nf (G (G (G (G tree268 3 [air]) 12 [ahX]) 31 [ahe]) 206 [o74,o59,ZM,o43,o44,abv,XQ,o43,Uk,SJ,aaq,RO] x)
abbrev tree305:X->PySem.W.BT:=λx=>nf (G (G (G (G tree283 3 [aif]) 12 [ahI]) 31 [ahN]) 218 [o74,o59,U9,o43,VI,S9,Xn,o43,o44,acn,o43,aaY,Xb,aaE,aar,Wv,abT,Rh,abL] x)
abbrev tree327:X->PySem.W.BT:=λx=>nf (G (G (G (G tree305 3 [aiw]) 12 [ag6]) 31 [ag1]) 237 [o74,o59,VY,o43,abD,WK,UN,o43,o44,YU,o43,V3,ZY,YM,Ru,Yl,acH,Xm,YH] x)
abbrev tree349:X->PySem.W.BT:=λx=>nf (G (G (G (G tree327 3 [ahP]) 12 [agX]) 31 [ais]) 256 [o74,o59,XR,o43,XM,aak,acs,o43,o44,Ww,o43,aaP,Vq,aa0,ada,VE,Ss,Xg,Uy] x)
abbrev tree371:X->PySem.W.BT:=λx=>nf (G (G (G (G tree349 3 [aii]) 12 [aie]) 31 [ahJ]) 275 [o74,o59,Xc,o43,RE,Sy,Yg,o43,o44,aaT,o43,TY,SX,Rg,aaz,aaG,Xf,Zb,SV] x)
abbrev tree393:X->PySem.W.BT:=λx=>nf (G (G (G (G tree371 3 [ahp]) 12 [ahs]) 31 [ag3]) 294 [o74,o59,Wk,o43,abW,acI,Rj,o43,o44,Y6,o43,Vc,aaO,VL,ZP,Ra,Rm,Zl,ab6] x)
abbrev tree415:X->PySem.W.BT:=λx=>nf (G (G (G (G tree393 3 [ain]) 12 [ah0]) 31 [ack]) 313 [o74,o59,Ud,o43,Ys,Y4,acE,o43,o44,acV,o43,UR,acG,S7,TR,ZQ,SG,Uq,Ux] x)
abbrev tree471:X->PySem.W.BT:=λx=>nf (G (G (G tree415 3 [ahx]) 12 [agU]) 332 [o43,o59,abk,o43,TF,XU,acp,o43,o44,WN,o43,aad,WY,Vs,o43,o44,acZ,aas,TX,o43,o44,Xz,o43,UZ,We,RJ,o43,o44,R9,o43,Rq,Vr,Zu,o43,o44,aaC,o43,aby,Y9,ZT,o43,o44,abr,o43,VM,S2,ZH,aa2,acR,ab4,adm,aa7,Va,aat] x)
abbrev tree480:X->PySem.W.BT:=λx=>nf (G (G (G tree471 3 [aho]) 12 [ah5]) 386 [o43,o44,Ul,o43,aa8,abE,acw] x)
abbrev tree566:X->PySem.W.BT:=λx=>nf (G (G (G tree480 3 [ah9]) 12 [ah8]) 393 [o43,o59,Sq,o43,W2,abF,ZW,o43,o44,Vv,o43,UP,Si,RD,o43,o44,Ur,o43,Zj,Wn,YK,o43,o44,TN,o43,Wm,Y7,abZ,o43,o44,T8,o43,S5,ZN,XT,o43,o44,aay,o43,W4,Uj,VC,o43,o44,YA,o43,W5,acu,abx,o43,o44,aan,o43,acj,WX,abn,o43,o44,XW,o43,adb,Uz,Wz,o43,o44,aaZ,o43,W3,YQ,Yi,o43,o44,ab5,o43,Vj,Wu,YR,Up,Yz,Xw,YS,Vn,Yj,Zq] x)
abbrev tree636:X->PySem.W.BT:=λx=>nf (G (G (G tree566 3 [ahA]) 12 [ahj]) 477 [o43,o44,SH,ac1,U0,R4,Y3,o43,o44,aci,o43,WL,Wb,aaM,o43,o44,Yu,o43,abh,abe,abA,o43,o44,Xu,o43,UD,UK,Tp,o43,o44,Tr,Xi,YX,o43,o44,WU,o43,Zv,acz,Wa,o43,o44,aal,o43,Sv,XJ,Vl,o43,o44,abR,o43,Vk,Th,RK,o43,o44,U5,o43,Yy,adf,YO,o43,o44,ZL,o43,TJ,Vh,ZO] x)
abbrev tree678:X->PySem.W.BT:=λx=>nf (G (G (G tree636 3 [aip]) 12 [ahV]) 545 [o43,o59,SN,o43,Yx,YW,YL,o43,o44,Wg,aaN,ab1,o43,o44,aaB,o43,YE,WO,aaX,o43,o44,acU,o43,UO,Yq,acW,o43,o44,UU,o43,Vt,abM,W8,Ub,VX,aic,aaw,RA,Xh,WV] x)
abbrev tree727:X->PySem.W.BT:=λx=>nf (G (G (G (G tree678 3 [ahL]) 12 [ah7]) 580 [ahE]) 585 [DN,o59,Rk,o43,VG,Yv,R0,nA,o43,o44,adl,o43,UG,S8,Sk,o43,o44,ab0,o43,aaA,Sj,V6,o43,o44,XY,o43,Ze,Tq,Tu,o43,o44,abf,Yh,Sz,o43,o44,abc,o43,Yb,abl,Ym,o43,aba,SS,WJ,abz] x)
abbrev tree778:X->PySem.W.BT:=λx=>nf (G (G (G (G tree727 3 [aiu]) 12 [ahi]) 580 [WH]) 631 [DN,o59,Rf,o43,abS,ZZ,abX,nA,o43,o44,YC,o43,Vu,Rp,aaD,o43,o44,YY,o43,Wy,Yn,XA,o43,o44,Wi,o43,US,abB,abC,o43,o44,RG,o43,XH,SW,Wh,o43,o44,aco,o43,TZ,Zf,Uu,ZF,acv,aaQ,Ui,Xo] x)
abbrev tree821:X->PySem.W.BT:=λx=>nf (G (G (G tree778 3 [ahG]) 12 [ahq]) 679 [o43,o44,UX,o43,aaL,ado,abG,o43,o44,Ug,acC,adk,o43,o44,WA,Ye,Zp,o43,o44,SQ,o43,V5,ac6,RS,o43,o44,R7,o43,ab9,SD,UW,o43,o44,Td,acD,S3,o43,o44,acY,Ua,Zm] x)
abbrev tree898:X->PySem.W.BT:=λx=>nf (G (G (G tree821 3 [aiv]) 12 [ahf]) 720 [o43,o59,acT,o43,ade,abd,Xk,o43,o44,WS,o43,acm,UB,aa3,o43,o44,VH,o43,WZ,ab7,aag,o43,o44,Y0,o43,V1,ac7,SY,o43,o44,Us,o43,aaU,aaF,S6,o43,o44,UA,o43,WB,Yo,UL,o43,o44,U7,o43,SI,YT,VR,o43,o44,aah,o43,XZ,SR,ab2,o43,o44,YV,o43,Yk,V2,UJ,o43,o44,Vm,abj,abw,ZE,Xp,aao,Wo,acO,Wx,V7] x)
abbrev tree976:X->PySem.W.BT:=λx=>nf (G (G (G tree898 3 [ahn]) 12 [ah1]) 795 [o43,o44,Sw,o43,Ut,TV,adn,acB,o43,o44,aaK,o43,To,aac,UE,o43,o44,RQ,o43,acP,T9,Vw,o43,o44,T7,o43,Zx,W0,Zd,o43,o44,Se,So,ZU,o43,o44,Vz,o43,abp,S0,TM,o43,o44,Xs,o43,Zg,Zr,UH,o43,o44,YZ,o43,Tf,SM,VP,o43,o44,aa1,o43,YD,T6,Vb,o43,o44,abO,o43,Wc,aaa,YF,o43,o44,Zw,o43,aaf,aaj,Su] x)
abbrev tree1033:X->PySem.W.BT:=λx=>nf (G (G (G tree976 3 [ahW]) 12 [ahg]) 871 [o43,o59,Wl,o43,WW,RV,abY,o43,o44,aaI,U4,abP,WT,XC,U8,RC,Tc,Uv,ab3,o43,o44,Mw,o43,JO,IM,MM,o43,o44,NX,NJ,Jc,o43,o44,LR,o43,Jj,O0,JR,o43,o44,Na,Mz,MB,o43,o44,OD,NY,Kw,o43,o44,Oe,o43,Kf,IU,PK] x)
abbrev tree1071:X->PySem.W.BT:=λx=>nf (G (G (G tree1033 3 [agN]) 12 [agd]) 926 [o43,o44,Ks,o43,KA,LG,Kz,o43,o44,Og,o43,PR,Me,Ni,o43,o44,IL,o43,Ka,KO,KJ,o43,o44,JG,KP,LD,o43,o44,NR,OL,Nv,o43,o44,NG,ON,MW] x)
abbrev tree1121:X->PySem.W.BT:=λx=>nf (G (G (G tree1071 3 [af3]) 12 [adX]) 962 [P0,NU,JJ,KD,K0,Je,Mr,Pc,Kv,Lw,Jb,JX,LJ,JH,JK,o43,o44,Jz,o43,Jh,Kr,Of,o43,o44,MX,Oz,OQ,o43,o44,LP,o43,KR,Lz,O8,o43,o44,Py,o43,Jw,Ou,Pw,o43,o44,IT,o43,Ma,PF,Lg] x)
abbrev tree1146:X->PySem.W.BT:=λx=>nf (G (G (G tree1121 3 [agB]) 12 [af6]) 1010 [o43,o59,MY,o43,K7,Pd,Lo,o43,o44,Nj,o43,Ky,JU,K6,o43,PD,ad0,KG,Ms,OB,Jr] x)
abbrev tree1175:X->PySem.W.BT:=λx=>nf (G (G (G (G tree1146 3 [aec]) 12 [ae2]) 1026 [aga]) 1031 [j5,o59,OY,o43,PV,Jp,Pp,o43,o44,K8,o43,Mu,JZ,Nq,o43,o44,NZ,o43,Od,JL,Li,Jx,NO,KC,Ls,MJ] x)
abbrev tree1205:X->PySem.W.BT:=λx=>nf (G (G (G (G tree1175 3 [agf]) 12 [agD]) 1026 [aeS]) 1057 [j5,o59,OF,o43,KU,La,Oq,nA,o43,o44,Pk,o43,Lv,JC,Lr,o43,o44,LX,o43,MN,Ln,O1,O9,Jy,Mc,LF,Lx] x)
abbrev tree1234:X->PySem.W.BT:=λx=>nf (G (G (G (G tree1205 3 [ad8]) 12 [adZ]) 1026 [adP]) 1084 [j5,o59,Jl,o43,MO,L1,JF,o43,o44,Js,o43,OV,L5,MK,o43,o44,IQ,o43,OO,Px,LB,Nb,Jv,Ja,Mg,O6] x)
abbrev tree1259:X->PySem.W.BT:=λx=>nf (G (G (G (G tree1234 3 [aex]) 12 [afm]) 1026 [agK]) 1110 [j5,o59,P6,o43,Lp,Pq,LK,o43,o44,Nm,NT,P4,o43,o44,Mv,JT,Mi,Oc,OI,LC,L0,K9] x)
abbrev tree1308:X->PySem.W.BT:=λx=>nf (G (G (G (G tree1259 3 [afO]) 12 [afg]) 1026 [OC]) 1132 [j5,o59,O5,o43,Nc,MZ,Mb,o43,o44,MU,o43,P8,L3,MS,o43,o44,LY,OJ,Mn,Mq,Oh,Pj,O4,KN,o43,o44,Jm,o43,OH,Ju,Lj,o43,o44,LN,Pf,Oo,o43,o44,Nh,OA,Ov,o43,o44,Lh,MQ,Oj] x)
abbrev tree1346:X->PySem.W.BT:=λx=>nf (G (G (G tree1308 3 [Kq]) 12 [afR]) 1178 [o43,o44,PY,o43,Ml,Lq,Jk,o43,o44,Ku,LO,Om,o43,o44,Lm,o43,JM,PZ,KZ,o43,o44,OS,Mf,Ph,o43,o44,NS,KH,KQ,o43,o44,KY,o43,IS,Pe,IW] x)
abbrev tree1523:X->PySem.W.BT:=λx=>nf (G (G (G tree1346 3 [agy]) 12 [aeB]) 1214 [o43,o59,OW,o43,MT,MD,L7,o43,o44,Np,o43,Nr,LU,Ly,o43,o44,LW,o43,NK,NB,JB,o43,o44,LS,o43,Mt,OM,OZ,o43,o44,OU,o43,NP,Jd,MR,o43,o44,Mp,o43,NF,Pz,MG,o43,o44,PB,o43,Nn,LM,MI,o43,o44,Pg,o43,Oa,KI,L4,o43,o44,Nt,o43,Jg,OX,ML,o43,o44,Ol,o43,Kd,O2,IX,o43,o44,P1,o43,ME,Lc,MC,o43,o44,Ob,o43,Nz,JW,PU,o43,o44,Po,o43,IY,Ji,Pb,o43,o44,MA,o43,ND,Km,OE,o43,o44,Ld,o43,JV,JI,Ko,nA,o43,o44,JS,o43,Pu,IZ,NQ,nA,o43,o44,O7,o43,Jq,LQ,OG,o43,o44,KS,o43,L8,Lu,JA,o43,o44,Oi,o43,JD,NC,Nl,o43,o44,Kh,o43,P7,NI,OR,o43,o44,LH,o43,Kp,OP,Jf,o43,o44,Jt,o43,NH,K5,NV,o43,o44,JY,o43,Kc,My,IP,o43,o44,JP,L6,Mj,Mm,NW,Kl,Lb,LA,OT,P5] x)
abbrev tree1607:X->PySem.W.BT:=λx=>nf (G Z 0 [b0,b1,b2,Kq,b4,b5,b6,b7,b8,b9,b10,o43,afI,o45,o46,o43,o44,o53,o43,o55,o56,o57,o58,o59,o60,o43,o44,o63,o64,o43,o66,ack,o68,o69,o70,o74,o59,o76,o43,o78,o79,o80,o43,o44,o83,o43,o85,o86,o87,o88,o89,o90,o91,o92,o74,o59,o98,o43,aau,RY,Rn,o43,o44,aaV,o43,RW,ZC,UQ,WE,Wr,Yt,RU,Um,o74,o59,aaJ,o43,Rw,W7,abQ,o43,o44,V4,o43,RP,V8,U6,aab,VB,Zi,WD,Xa,o74,o59,aae,o43,ZK,WM,Wt,o43,o44,abb,o43,aa5,RN,ac8,WQ,acS,ZD,UT,abm,o74,o59,U1,o43,Vg,VZ,ZV,o43,o44,adg,o43,aa6,Y8,Xq,Rx,abU,V0,adj,Uh,o74,o59,Tt,o43,Vd,U3,VS,o43,o44,YI,o43,Uo,Tv,Yd,ac5,acK,acq,acX,abV,o74,o59,ach,o43,YB,Sg,Zo,o43,o44,Wj,o43,Xj,Xv,UY,W9,XE,Uw,Za,Xr,o74,o59,Ti,o43,Ry,Yp,Vf,o43,o44,acQ,o43,Sh,aa9,abi,SO,Tz,aam,Uc,acF,o74,o59,RZ,o43,Rb,Yr,aap,o43,o44,TQ,o43,ZG,acg,acA,RH,Vi,adh,Zt,RM,o74,o59,ZM,o43,o44,abv,XQ,o43,Uk,SJ,aaq,RO,o74,o59,U9,o43,VI,S9,Xn,o43,o44,acn,o43,aaY,Xb,aaE,aar,Wv,abT,Rh,abL,o74,o59,VY,o43,abD,WK,UN,o43,o44,YU,o43,V3,ZY,YM,Ru,Yl,acH,Xm,YH,o74,o59,XR,o43,XM,aak,acs,o43,o44,Ww,o43,aaP,Vq,aa0,ada,VE,Ss,Xg,Uy,o74,o59,Xc,o43,RE,Sy,Yg,o43,o44,aaT,o43,TY,SX,Rg,aaz,aaG,Xf,Zb,SV,o74,o59,Wk,o43,abW,acI,Rj,o43,o44,Y6,o43,Vc,aaO,VL,ZP,Ra,Rm,Zl,ab6,o74,o59,Ud,o43,Ys,Y4,acE,o43,o44,acV,o43,UR,acG,S7,TR,ZQ,SG,Uq,Ux,o43,o59,abk,o43,TF,XU,acp,o43,o44,WN,o43,aad,WY,Vs,o43,o44,acZ,aas,TX,o43,o44,Xz,o43,UZ,We,RJ,o43,o44,R9,o43,Rq,Vr,Zu,o43,o44,aaC,o43,aby,Y9,ZT,o43,o44,abr,o43,VM,S2,ZH,aa2,acR,ab4,adm,aa7,Va,aat,o43,o44,Ul,o43,aa8,abE,acw,o43,o59,Sq,o43,W2,abF,ZW,o43,o44,Vv,o43,UP,Si,RD,o43,o44,Ur,o43,Zj,Wn,YK,o43,o44,TN,o43,Wm,Y7,abZ,o43,o44,T8,o43,S5,ZN,XT,o43,o44,aay,o43,W4,Uj,VC,o43,o44,YA,o43,W5,acu,abx,o43,o44,aan,o43,acj,WX,abn,o43,o44,XW,o43,adb,Uz,Wz,o43,o44,aaZ,o43,W3,YQ,Yi,o43,o44,ab5,o43,Vj,Wu,YR,Up,Yz,Xw,YS,Vn,Yj,Zq,o43,o44,SH,ac1,U0,R4,Y3,o43,o44,aci,o43,WL,Wb,aaM,o43,o44,Yu,o43,abh,abe,abA,o43,o44,Xu,o43,UD,UK,Tp,o43,o44,Tr,Xi,YX,o43,o44,WU,o43,Zv,acz,Wa,o43,o44,aal,o43,Sv,XJ,Vl,o43,o44,abR,o43,Vk,Th,RK,o43,o44,U5,o43,Yy,adf,YO,o43,o44,ZL,o43,TJ,Vh,ZO,o43,o59,SN,o43,Yx,YW,YL,o43,o44,Wg,aaN,ab1,o43,o44,aaB,o43,YE,WO,aaX,o43,o44,acU,o43,UO,Yq,acW,o43,o44,UU,o43,Vt,abM,W8,Ub,VX,WH,aaw,RA,Xh,WV,DN,o59,Rk,o43,VG,Yv,R0,nA,o43,o44,adl,o43,UG,S8,Sk,o43,o44,ab0,o43,aaA,Sj,V6,o43,o44,XY,o43,Ze,Tq,Tu,o43,o44,abf,Yh,Sz,o43,o44,abc,o43,Yb,abl,Ym,o43,aba,SS,WJ,abz,DN,o59,Rf,o43,abS,ZZ,abX,nA,o43,o44,YC,o43,Vu,Rp,aaD,o43,o44,YY,o43,Wy,Yn,XA,o43,o44,Wi,o43,US,abB,abC,o43,o44,RG,o43,XH,SW,Wh,o43,o44,aco,o43,TZ,Zf,Uu,ZF,acv,aaQ,Ui,Xo,o43,o44,UX,o43,aaL,ado,abG,o43,o44,Ug,acC,adk,o43,o44,WA,Ye,Zp,o43,o44,SQ,o43,V5,ac6,RS,o43,o44,R7,o43,ab9,SD,UW,o43,o44,Td,acD,S3,o43,o44,acY,Ua,Zm,o43,o59,acT,o43,ade,abd,Xk,o43,o44,WS,o43,acm,UB,aa3,o43,o44,VH,o43,WZ,ab7,aag,o43,o44,Y0,o43,V1,ac7,SY,o43,o44,Us,o43,aaU,aaF,S6,o43,o44,UA,o43,WB,Yo,UL,o43,o44,U7,o43,SI,YT,VR,o43,o44,aah,o43,XZ,SR,ab2,o43,o44,YV,o43,Yk,V2,UJ,o43,o44,Vm,abj,abw,ZE,Xp,aao,Wo,acO,Wx,V7,o43,o44,Sw,o43,Ut,TV,adn,acB,o43,o44,aaK,o43,To,aac,UE,o43,o44,RQ,o43,acP,T9,Vw,o43,o44,T7,o43,Zx,W0,Zd,o43,o44,Se,So,ZU,o43,o44,Vz,o43,abp,S0,TM,o43,o44,Xs,o43,Zg,Zr,UH,o43,o44,YZ,o43,Tf,SM,VP,o43,o44,aa1,o43,YD,T6,Vb,o43,o44,abO,o43,Wc,aaa,YF,o43,o44,Zw,o43,aaf,aaj,Su,o43,o59,Wl,o43,WW,RV,abY,o43,o44,aaI,U4,abP,WT,XC,U8,RC,Tc,Uv,ab3,o43,o44,Mw,o43,JO,IM,MM,o43,o44,NX,NJ,Jc,o43,o44,LR,o43,Jj,O0,JR,o43,o44,Na,Mz,MB,o43,o44,OD,NY,Kw,o43,o44,Oe,o43,Kf,IU,PK,o43,o44,Ks,o43,KA,LG,Kz,o43,o44,Og,o43,PR,Me,Ni,o43,o44,IL,o43,Ka,KO,KJ,o43,o44,JG,KP,LD,o43,o44,NR,OL,Nv,o43,o44,NG,ON,MW,P0,NU,JJ,KD,K0,Je,Mr,Pc,Kv,Lw,Jb,JX,LJ,JH,JK,o43,o44,Jz,o43,Jh,Kr,Of,o43,o44,MX,Oz,OQ,o43,o44,LP,o43,KR,Lz,O8,o43,o44,Py,o43,Jw,Ou,Pw,o43,o44,IT,o43,Ma,PF,Lg,o43,o59,MY,o43,K7,Pd,Lo,o43,o44,Nj,o43,Ky,JU,K6,o43,PD,OC,KG,Ms,OB,Jr,j5,o59,OY,o43,PV,Jp,Pp,o43,o44,K8,o43,Mu,JZ,Nq,o43,o44,NZ,o43,Od,JL,Li,Jx,NO,KC,Ls,MJ,j5,o59,OF,o43,KU,La,Oq,nA,o43,o44,Pk,o43,Lv,JC,Lr,o43,o44,LX,o43,MN,Ln,O1,O9,Jy,Mc,LF,Lx,j5,o59,Jl,o43,MO,L1,JF,o43,o44,Js,o43,OV,L5,MK,o43,o44,IQ,o43,OO,Px,LB,Nb,Jv,Ja,Mg,O6,j5,o59,P6,o43,Lp,Pq,LK,o43,o44,Nm,NT,P4,o43,o44,Mv,JT,Mi,Oc,OI,LC,L0,K9,j5,o59,O5,o43,Nc,MZ,Mb,o43,o44,MU,o43,P8,L3,MS,o43,o44,LY,OJ,Mn,Mq,Oh,Pj,O4,KN,o43,o44,Jm,o43,OH,Ju,Lj,o43,o44,LN,Pf,Oo,o43,o44,Nh,OA,Ov,o43,o44,Lh,MQ,Oj,o43,o44,PY,o43,Ml,Lq,Jk,o43,o44,Ku,LO,Om,o43,o44,Lm,o43,JM,PZ,KZ,o43,o44,OS,Mf,Ph,o43,o44,NS,KH,KQ,o43,o44,KY,o43,IS,Pe,IW,o43,o59,agP,o43,aeq,MD,L7,o43,o44,Np,o43,Nr,LU,Ly,o43,o44,LW,o43,NK,NB,JB,o43,o44,LS,o43,Mt,OM,OZ,o43,o44,OU,o43,NP,Jd,MR,o43,o44,Mp,o43,NF,Pz,MG,o43,o44,PB,o43,Nn,LM,MI,o43,o44,Pg,o43,Oa,KI,L4,o43,o44,Nt,o43,Jg,OX,ML,o43,o44,Ol,o43,Kd,O2,IX,o43,o44,P1,o43,ME,Lc,MC,o43,o44,Ob,o43,Nz,JW] x)
abbrev tree1699:X->PySem.W.BT:=λx=>nf (G (G (G (G (G tree1607 3 [agn]) 12 [adz]) 1216 [OW]) 1218 [MT]) 1297 [PU,o43,o44,Po,o43,IY,Ji,Pb,o43,o44,MA,o43,ND,Km,OE,o43,o44,Ld,o43,JV,JI,Ko,nA,o43,o44,JS,o43,Pu,IZ,NQ,nA,o43,o44,O7,o43,Jq,LQ,OG,o43,o44,KS,o43,L8,Lu,JA,o43,o44,Oi,o43,JD,NC,Nl,o43,o44,Kh,o43,P7,NI,OR,o43,o44,LH,o43,Kp,OP,Jf,o43,o44,Jt,o43,NH,K5,NV,o43,o44,JY,o43,Kc,My,IP,o43,o44,JP,L6,Mj,Mm,NW,Kl,Lb,LA,OT,P5,o43,o44,aei,o43,af7,ad4,adA,o43,o44,afC,aek,aeV,o43,o44,afY,o43,afS,afo,adI,o43,o44,ae9,o43,adV,aev,ad9,o43,o44,afl,o43,af9,aeG,af8,o43,o44,aed,o43,adR,aeX,ad2,o43,o44,aeT,ad5,adT,o43,o44,agi,o43,aeh,aeA,aet,o43,o44,ags,o43,afz,aeC,agI,o43,o44,agm,o43,aen,agx,afN,o43,o44,aey,o43,aeD,ae5,agO,o43,o44,adF,o43,afd,agu,aeI,o43,o44,agc,o43,agp,aeO,agg] x)
abbrev tree1734:X->PySem.W.BT:=λx=>nf (G (G (G tree1699 3 [afJ]) 12 [afi]) 1476 [o43,o44,agk,o43,agt,agr,age,o43,o44,adD,afD,aeJ,o43,o44,adK,o43,ae4,afL,aeR,o43,o44,agz,o43,ae6,aes,afA,o43,o44,adq,o43,aeU,afq,aeu] x)
abbrev tree1736:X->PySem.W.BT:=λx=>nf (G (G tree1734 3 [ad7]) 1509 [afh] x)
abbrev tree1794:X->PySem.W.BT:=λx=>nf (G (G (G tree1736 3 [agl]) 12 [adN]) 1510 [o43,o59,adw,o43,afG,agv,agF,o43,o44,afP,o43,ae7,ad6,aee,o43,o44,agj,o43,agT,aeg,afZ,af1,agC,agA,aeK,aeF,aea,aem,o43,o44,adW,o43,afM,ad1,ae3,o43,o44,ads,o43,afB,afv,aeY,o43,o44,adH,o43,adp,agG,agh,o43,o44,adY,afE,aew] x)
abbrev tree1855:X->PySem.W.BT:=λx=>nf (G (G (G tree1794 3 [adJ]) 12 [afp]) 1564 [o43,o44,af2,o43,aeL,agE,agJ,o43,o44,afn,o43,afs,adt,af0,o43,o44,ago,o43,afr,afT,aer,o43,o44,afQ,o43,adG,aeN,afx,o43,o44,afu,o43,aeE,afH,agQ,o43,o44,afK,agL,agH,o43,o44,afy,o43,adS,afc,aeb,o43,o44,aeM,o43,adB,aeH,afW,o43,o44,afk,ae1,af4] x)
def heap39:X->PySem.W.Frag:=λx=>nf (pj (fl ((G tree1855 2 [q1]) x)) 0 [2,3,15,17,18,20,21,22,29,30,31,32,35,42,44,45,47,48,49,50,51,54,61,63,64,66,67,68,69,70,73,80,82,83,85,86,87,88,89,92,99,101,102,104,105,106,107,108,111,118,120,121,123,124,125,126,127,130,137,139,140,142,143,144,145,146,149,156,158,159,161,162,163,164,165,168,175,177,178,180,181,182,183,184,187,194,196,197,199,200,201,202,203,206,213,214,215,218,225,227,228,230,231,232,233,234,237,244,246,247,249,250,251,252,253,256,263,265,266,268,269,270,271,272,275,282,284,285,287,288,289,290,291,294,301,303,304,306,307,308,309,310,313,320,322,323,325,326,327,328,329,339,341,342,344,345,346,349,350,351,353,354,356,357,358,360,361,363,364,365,367,368,370,371,372,374,375,377,378,379,380,381,382,383,386,388,389,391,392,400,402,403,405,406,407,409,410,412,413,414,416,417,419,420,421,423,424,426,427,428,430,431,433,434,435,437,438,440,441,442,444,445,447,448,449,451,452,454,455,456,458,459,461,462,463,465,466,468,469,470,471,472,473,474,477,479,480,482,483,484,486,487,489,490,491,493,494,496,497,498,500,501,503,504,505,508,509,510,512,513,515,516,517,519,520,522,523,524,526,527,529,530,531,533,534,536,537,538,540,541,543,544,552,555,556,557,559,560,562,563,564,566,567,569,570,571,573,574,576,577,578,579,580,581,582,585,592,593,595,596,598,599,600,602,603,605,606,607,609,610,612,613,614,617,618,619,621,622,624,625,626,627,628,631,638,639,641,642,644,645,646,648,649,651,652,653,655,656,658,659,660,662,663,665,666,667,669,670,672,673,674,675,676,679,681,682,684,685,686,689,690,691,694,695,696,698,699,701,702,703,705,706,708,709,710,713,714,715,718,719,727,729,730,732,733,734,736,737,739,740,741,743,744,746,747,748,750,751,753,754,755,757,758,760,761,762,764,765,767,768,769,771,772,774,775,776,778,779,781,782,783,786,787,788,789,790,791,792,795,797,798,800,801,802,803,805,806,808,809,810,812,813,815,816,817,819,820,822,823,824,827,828,829,831,832,834,835,836,838,839,841,842,843,845,846,848,849,850,852,853,855,856,857,859,860,862,863,864,866,867,869,870,878,881,882,883,884,885,886,887,890,892,893,895,896,897,900,901,902,904,905,907,908,909,912,913,914,917,918,919,921,922,924,925,926,928,929,931,932,933,935,936,938,939,940,942,943,945,946,947,950,951,952,955,956,957,960,961,962,963,964,965,966,967,968,969,970,971,972,973,974,975,976,977,979,980,982,983,984,987,988,989,991,992,994,995,996,998,999,1001,1002,1003,1005,1006,1008,1009,1017,1019,1020,1022,1023,1024,1025,1026,1027,1028,1031,1038,1040,1041,1043,1044,1045,1047,1048,1050,1051,1052,1053,1054,1057,1064,1065,1067,1068,1070,1071,1072,1074,1075,1077,1078,1079,1080,1081,1084,1091,1093,1094,1096,1097,1098,1100,1101,1103,1104,1105,1106,1107,1110,1117,1120,1121,1122,1125,1126,1127,1128,1129,1132,1139,1141,1142,1144,1145,1146,1149,1150,1151,1152,1153,1156,1158,1159,1161,1162,1163,1166,1167,1168,1171,1172,1173,1176,1177,1178,1180,1181,1183,1184,1185,1188,1189,1190,1192,1193,1195,1196,1197,1200,1201,1202,1205,1206,1207,1209,1210,1212,1213,1221,1223,1224,1226,1227,1228,1230,1231,1233,1234,1235,1237,1238,1240,1241,1242,1244,1245,1247,1248,1249,1251,1252,1254,1255,1256,1258,1259,1261,1262,1263,1265,1266,1268,1269,1270,1272,1273,1275,1276,1277,1279,1280,1282,1283,1284,1286,1287,1289,1290,1291,1293,1294,1296,1297,1298,1300,1301,1303,1304,1305,1307,1308,1310,1311,1312,1314,1315,1317,1318,1319,1320,1322,1323,1325,1326,1327,1328,1330,1331,1333,1334,1335,1337,1338,1340,1341,1342,1344,1345,1347,1348,1349,1351,1352,1354,1355,1356,1358,1359,1361,1362,1363,1365,1366,1368,1369,1370,1372,1373,1375,1376,1377,1380,1381,1382,1383,1384,1385,1386,1389,1391,1392,1394,1395,1396,1399,1400,1401,1403,1404,1406,1407,1408,1410,1411,1413,1414,1415,1417,1418,1420,1421,1422,1424,1425,1427,1428,1429,1432,1433,1434,1436,1437,1439,1440,1441,1443,1444,1446,1447,1448,1450,1451,1453,1454,1455,1457,1458,1460,1461,1462,1464,1465,1467,1468,1469,1471,1472,1474,1475,1476,1478,1479,1481,1482,1483,1486,1487,1488,1490,1491,1493,1494,1495,1497,1498,1500,1501,1502,1504,1505,1507,1508,1509,1517,1519,1520,1522,1523,1524,1526,1527,1529,1530,1531,1532,1533,1534,1535,1538,1540,1541,1543,1544,1545,1547,1548,1550,1551,1552,1554,1555,1557,1558,1559,1562,1563,1564,1566,1567,1569,1570,1571,1573,1574,1576,1577,1578,1580,1581,1583,1584,1585,1587,1588,1590,1591,1592,1594,1595,1597,1598,1599,1602,1603,1604,1606,1607,1609,1610,1611,1613,1614,1616,1617,1618,1621,1622])
def heap46:X->Heap:=λx=>u39 (u40 (nf (fl (tree47 x)))) (u43 u44 u44 u44 0 u45 u44 u15 (u46 u44) u44 0 u15 u15 u15 0 [2000,10,10] u15 0 u31 u44 u44 0 u15)
def heap1856:X->Heap:=λx=>u39 (u40 (nf (fl (tree1855 x)))) (u43 u44 u44 u44 0 u45 u44 u15 (u46 u44) u44 0 u15 u15 u15 0 [2000,10,10] u15 0 u31 u44 u44 0 u15)
end
end Hd
namespace PySem.W.Fast
noncomputable section
noncomputable abbrev hdq{α:Type}(f:Hd.X->α):PySem.Params->α:=λP=>f (PySem.W.Fast.tw13745409909519247493,P)
theorem hdp{α:Type}(f:Hd.X->α):(λP=>f (Hd.hs,P))=hdq f:=congrArg (λσ P=>f (σ,P)) PySem.W.Fast.te13745409909519247493
def tw16788956772028551098:=hdq Hd.heap39
def te16788956772028551098:=hdp Hd.heap39
def tw12848592084223641554:=hdq Hd.heap46
def te12848592084223641554:=hdp Hd.heap46
def tw7656004680914874480:=hdq Hd.tree47
def te7656004680914874480:=hdp Hd.tree47
def tw17837257604446495150:=hdq Hd.tree70
def te17837257604446495150:=hdp Hd.tree70
def tw13740105656552016280:=hdq Hd.tree92
def te13740105656552016280:=hdp Hd.tree92
def tw7053770181127345891:=hdq Hd.tree114
def te7053770181127345891:=hdp Hd.tree114
def tw15510565345527022763:=hdq Hd.tree136
def te15510565345527022763:=hdp Hd.tree136
def tw8747499202875634198:=hdq Hd.tree158
def te8747499202875634198:=hdp Hd.tree158
def tw5867837973814533452:=hdq Hd.tree180
def te5867837973814533452:=hdp Hd.tree180
def tw5343313995665586396:=hdq Hd.tree202
def te5343313995665586396:=hdp Hd.tree202
def tw3783995993468591377:=hdq Hd.tree224
def te3783995993468591377:=hdp Hd.tree224
def tw13633585816695379738:=hdq Hd.tree246
def te13633585816695379738:=hdp Hd.tree246
def tw1608458272473814959:=hdq Hd.tree268
def te1608458272473814959:=hdp Hd.tree268
def tw7561765286491507819:=hdq Hd.tree283
def te7561765286491507819:=hdp Hd.tree283
def tw12682524948032413126:=hdq Hd.tree305
def te12682524948032413126:=hdp Hd.tree305
def tw2746796195732232994:=hdq Hd.tree327
def te2746796195732232994:=hdp Hd.tree327
def tw18367967133932489149:=hdq Hd.tree349
def te18367967133932489149:=hdp Hd.tree349
def tw3659528919859346658:=hdq Hd.tree371
def te3659528919859346658:=hdp Hd.tree371
def tw5887214035333254395:=hdq Hd.tree393
def te5887214035333254395:=hdp Hd.tree393
def tw422017327288124221:=hdq Hd.tree415
def te422017327288124221:=hdp Hd.tree415
def tw3736217942626498997:=hdq Hd.tree471
def te3736217942626498997:=hdp Hd.tree471
def tw9935841136590575033:=hdq Hd.tree480
def te9935841136590575033:=hdp Hd.tree480
def tw17818314747419804455:=hdq Hd.tree566
def te17818314747419804455:=hdp Hd.tree566
def tw7927400740309415555:=hdq Hd.tree636
def te7927400740309415555:=hdp Hd.tree636
def tw1263836457766121856:=hdq Hd.tree678
def te1263836457766121856:=hdp Hd.tree678
def tw8353403428628756660:=hdq Hd.tree727
def te8353403428628756660:=hdp Hd.tree727
def tw9023210640491647688:=hdq Hd.tree778
def te9023210640491647688:=hdp Hd.tree778
def tw8671858894777332896:=hdq Hd.tree821
def te8671858894777332896:=hdp Hd.tree821
def tw12080333654808146679:=hdq Hd.tree898
def te12080333654808146679:=hdp Hd.tree898
def tw9525609100639214964:=hdq Hd.tree976
def te9525609100639214964:=hdp Hd.tree976
def tw2976394710723305213:=hdq Hd.tree1033
def te2976394710723305213:=hdp Hd.tree1033
def tw6867508258123021923:=hdq Hd.tree1071
def te6867508258123021923:=hdp Hd.tree1071
def tw11672326488565035582:=hdq Hd.tree1121
def te11672326488565035582:=hdp Hd.tree1121
def tw4030616700289529772:=hdq Hd.tree1146
def te4030616700289529772:=hdp Hd.tree1146
def tw6379394077588130615:=hdq Hd.tree1175
def te6379394077588130615:=hdp Hd.tree1175
def tw6130652418997215717:=hdq Hd.tree1205
def te6130652418997215717:=hdp Hd.tree1205
def tw14772635039666169171:=hdq Hd.tree1234
def te14772635039666169171:=hdp Hd.tree1234
def tw3817716149462840829:=hdq Hd.tree1259
def te3817716149462840829:=hdp Hd.tree1259
def tw8315292565378424472:=hdq Hd.tree1308
def te8315292565378424472:=hdp Hd.tree1308
def tw17444953292088140610:=hdq Hd.tree1346
def te17444953292088140610:=hdp Hd.tree1346
def tw17310767099384108403:=hdq Hd.tree1523
def te17310767099384108403:=hdp Hd.tree1523
def tw12632451660017281070:=hdq Hd.tree1607
def te12632451660017281070:=hdp Hd.tree1607
def tw7050826469394428068:=hdq Hd.tree1699
def te7050826469394428068:=hdp Hd.tree1699
def tw17477459959468195790:=hdq Hd.tree1734
def te17477459959468195790:=hdp Hd.tree1734
def tw9982707964799721611:=hdq Hd.tree1736
def te9982707964799721611:=hdp Hd.tree1736
def tw8157252767193254386:=hdq Hd.tree1794
def te8157252767193254386:=hdp Hd.tree1794
def tw4651832062422699622:=hdq Hd.tree1855
def te4651832062422699622:=hdp Hd.tree1855
def tw10025753821020760381:=hdq Hd.heap1856
def te10025753821020760381:=hdp Hd.heap1856
end
end PySem.W.Fast
namespace Hd
noncomputable section
abbrev pw:=PySem.Challenge.pw_keepsakes_k89_plans_at_the_desk
def pick(p:PySem.Program)(l:List Nat):List PySem.Stmt:=l.map λi=>p.main.body.getD i (.Pass ⟨0,0,0,0⟩)
def vw(p:PySem.Program)(l:List Nat):PySem.Program:={ p with main:={ p.main with body:=pick p l } }
end
end Hd
namespace PySem.W.Fast
open PySem Hd
noncomputable section
def tw577008743198507088:=pick pw [16]
def te577008743198507088:=@rfl _ tw577008743198507088
def tw3583586025033394984:=pick pw [142,143,144,145,146,147,148,149,150]
def te3583586025033394984:=@rfl _ tw3583586025033394984
def tw12563631594491524077:=pick pw [25]
def te12563631594491524077:=@rfl _ tw12563631594491524077
def tw18186680324814209262:=pick pw [14]
def te18186680324814209262:=@rfl _ tw18186680324814209262
def tw9305307476684050094:=pick pw [87,88,89,90,91,92,93]
def te9305307476684050094:=@rfl _ tw9305307476684050094
def tw2530336570914863362:=pick pw [57]
def te2530336570914863362:=@rfl _ tw2530336570914863362
def tw13921429531491616931:=pick pw [0,1,2,3,4,5,6,7]
def te13921429531491616931:=@rfl _ tw13921429531491616931
def tw5612470827875216516:=pick pw [72,73,74,75,76,77,78]
def te5612470827875216516:=@rfl _ tw5612470827875216516
def tw4169532524973756517:=pick pw [100,101,102,103,104,105,106]
def te4169532524973756517:=@rfl _ tw4169532524973756517
def tw67304863658480379:=pick pw [8]
def te67304863658480379:=@rfl _ tw67304863658480379
def tw4602289299467786458:=pick pw [26,27]
def te4602289299467786458:=@rfl _ tw4602289299467786458
def tw6016686243876007820:=pick pw [21]
def te6016686243876007820:=@rfl _ tw6016686243876007820
def tw10452404946122141384:=pick pw [97]
def te10452404946122141384:=@rfl _ tw10452404946122141384
def tw6899364299778512334:=pick pw [107,108,109,110,111,112,113,114]
def te6899364299778512334:=@rfl _ tw6899364299778512334
def tw4451868485738911650:=pick pw [28]
def te4451868485738911650:=@rfl _ tw4451868485738911650
def tw2919497167665005903:=pick pw [12]
def te2919497167665005903:=@rfl _ tw2919497167665005903
def tw14082993200941851759:=pick pw [18]
def te14082993200941851759:=@rfl _ tw14082993200941851759
def tw16670716515831427572:=pick pw [42]
def te16670716515831427572:=@rfl _ tw16670716515831427572
def tw7101172189384304928:=pick pw [22]
def te7101172189384304928:=@rfl _ tw7101172189384304928
def tw4014479890971511199:=vw pw [0,1,2,3,4,5,7,8,9,10,11,12,13,14,15,16,17,18,19,20,21,22,23,25,26,28,30,31,32,33,34,35,36,37,39,40,42,43,44,45,46,48,49,50,51,52,54,55,57,59,61,62,64,65,66,67,68,69,70,72,73,74,75,76,77,78,79,80,81,83,84,85,87,88,89,90,91,92,93,95,96,97,98,99,100,101,103,104,106,107,108,109,110,112,113,115,116,118,119,120,121,122,123,124,125,126,127,128,129,130,131,132,133,134,135,136,138,139,140,141,142,143,144,145,146,147,148,149,150]
def te4014479890971511199:=@rfl _ tw4014479890971511199
def tw3788986642763390769:=pick pw [19]
def te3788986642763390769:=@rfl _ tw3788986642763390769
def tw10241492606384435174:=pick pw [135]
def te10241492606384435174:=@rfl _ tw10241492606384435174
def tw9588280922436093416:=pick pw [29,30,31,32,33,34,35,36,37,38,39,40,41]
def te9588280922436093416:=@rfl _ tw9588280922436093416
def tw16396223356170492633:=pick pw [45,46,47,48,49,50,51,52,53,54,55,56]
def te16396223356170492633:=@rfl _ tw16396223356170492633
def tw434184141188398810:=pick pw [94,95]
def te434184141188398810:=@rfl _ tw434184141188398810
def tw4973831129642631047:=pick pw [99]
def te4973831129642631047:=@rfl _ tw4973831129642631047
def tw3919409247399442886:=pick pw [79,80,81,82,83,84,85,86]
def te3919409247399442886:=@rfl _ tw3919409247399442886
def tw9133881566130305085:=pick pw [115]
def te9133881566130305085:=@rfl _ tw9133881566130305085
def tw3648335228088128399:=pick pw [58,59,60,61,62,63,64,65,66,67,68,69,70,71]
def te3648335228088128399:=@rfl _ tw3648335228088128399
def tw10080571925501668538:=pick pw [96]
def te10080571925501668538:=@rfl _ tw10080571925501668538
def tw5167689418308290372:=pick pw [98]
def te5167689418308290372:=@rfl _ tw5167689418308290372
def tw7041211663405713017:=pick pw [23,24]
def te7041211663405713017:=@rfl _ tw7041211663405713017
def tw7467106770928958486:=pick pw [44]
def te7467106770928958486:=@rfl _ tw7467106770928958486
def tw10117863672440780574:=pick pw [43]
def te10117863672440780574:=@rfl _ tw10117863672440780574
def tw18384671224252807798:=pick pw [116,117,118,119,120,121,122,123,124,125,126,127,128,129]
def te18384671224252807798:=@rfl _ tw18384671224252807798
def tw9390360362245421429:=pick pw [17]
def te9390360362245421429:=@rfl _ tw9390360362245421429
def tw727278719730785399:=pick pw [15]
def te727278719730785399:=@rfl _ tw727278719730785399
def tw8619671892560189091:=pick pw [10]
def te8619671892560189091:=@rfl _ tw8619671892560189091
def tw15856881458591434186:=pick pw [13]
def te15856881458591434186:=@rfl _ tw15856881458591434186
def tw9142214105156656520:=pick pw [9]
def te9142214105156656520:=@rfl _ tw9142214105156656520
def tw3070950101835936344:=pick pw [20]
def te3070950101835936344:=@rfl _ tw3070950101835936344
def tw5987545948811782894:=pick pw [136,137,138,139,140,141]
def te5987545948811782894:=@rfl _ tw5987545948811782894
def tw2604721391738348105:=pick pw [11]
def te2604721391738348105:=@rfl _ tw2604721391738348105
def tw16607579979573237322:=pick pw [130,131,132,133,134]
def te16607579979573237322:=@rfl _ tw16607579979573237322
end
end PySem.W.Fast
local macro_rules|`(tactic|ac_rfl)=>`(tactic|first|k_is|kit_is|kernel_rfl|decide)
namespace Hk
open PySem PySem.W
def lvO (o:Obj):Option Obj:=match o with
  | ⟨_,_,.freed,_⟩=>none
  | o=>some o
def pk:List Obj -> Nat -> List Nat -> List (Option Obj)
  | [],_,as=>as.map λ_=>none
  | _ :: _,_,[]=>[]
  | o :: r,i,a :: as=>bif Nat.beq a i then lvO o :: pk r (i + 1) as else pk r (i + 1) (a :: as)
theorem pk_at:∀ {l:List Obj} {i:Nat} {as:List Nat} {xs:List Obj},pk l i as = xs.map some -> ∀ (k a:Nat) (x:Obj),as[k]? = some a -> xs[k]? = some x -> ∃ j o,a = i + j /\ l[j]? = some o /\ lvO o = some x
  | [],i,as,xs,h,k,a,x,ha,hx=>by
    have:=congrArg (λl=>l[k]?) h
    simp [pk,ha,hx] at this
  | o :: r,i,[],xs,h,k,a,x,ha,hx=>by simp at ha
  | o :: r,i,b :: as,xs,h,k,a,x,ha,hx=>by
    unfold pk at h
    cases e:Nat.beq b i
    · rw [e] at h
      obtain ⟨j,o',h1,h2,h3⟩:=pk_at h k a x ha hx
      exact ⟨j + 1,o',by omega,by simpa using h2,h3⟩
    · rw [e] at h
      have e:=Nat.eq_of_beq_eq_true e
      subst e
      cases xs with
      | nil=>simp at hx
      | cons y xs =>
        simp only [cond_true,List.map_cons,List.cons.injEq] at h
        cases k with
        | zero =>
          simp at ha hx
          subst ha hx
          exact ⟨0,o,rfl,rfl,h.1⟩
        | succ k =>
          obtain ⟨j,o',h1,h2,h3⟩:=pk_at h.2 k a x (by simpa using ha) (by simpa using hx)
          exact ⟨j + 1,o',by omega,by simpa using h2,h3⟩
theorem get_lv {h:Heap} {a:Nat} {o x:Obj} (e:h.objs.toList[a]? = some o) (l:lvO o = some x):h.get? a = some x:=by
  unfold Heap.get?
  rw [← Array.getElem?_toList,e]
  obtain ⟨c,d,dt,s⟩:=o
  cases dt <;> first | exact l | cases l
theorem pk_map {h:Heap} {as:List Nat} {xs:List Obj} (e:pk h.objs.toList 0 as = xs.map some) (hl:as.length = xs.length):as.map h.get? = xs.map some:=by
  refine List.ext_getElem? λk=>?_
  rw [List.getElem?_map,List.getElem?_map]
  by_cases hk:k < as.length
  · have hx:k < xs.length:=by omega
    obtain ⟨j,o,h1,h2,h3⟩:=pk_at e k as[k] xs[k] (List.getElem?_eq_getElem hk) (List.getElem?_eq_getElem hx)
    rw [List.getElem?_eq_getElem hk,List.getElem?_eq_getElem hx]
    simp only [Option.map_some,Option.some.injEq]
    rw [h1,Nat.zero_add]
    exact get_lv h2 h3
  · rw [List.getElem?_eq_none (by omega),List.getElem?_eq_none (by omega)]; rfl
def qHook (K:Params -> Frag) (as:List Addr) (e:∀ P,as = (K P).map (·.1)) (ts:List Addr):Hook where
  α:=List (Option Obj) × List (Option Obj)
  obs:=λs=>(pk s.heap.objs.toList 0 as,ts.map s.heap.get?)
  val:=λw=>((K w.params).map λp=>some p.2,ts.map λ_=>some (tabObj #[]))
  says:=λw h=>InK K w h /\ ∀ P ∈ ts,h.get? P = some (tabObj #[])
  of:=λw s x=>⟨InK.of e w s (by
    have h1:=(Prod.mk.inj x).1
    have h2:((K w.params).map λp=>some p.2) = ((K w.params).map (·.2)).map some:=by rw [List.map_map]; rfl
    rw [h2] at h1 ⊢
    exact pk_map h1 (by rw [e w.params]; simp)),List.map_inj_left.mp (Prod.mk.inj x).2⟩
  keeps:=λw h h' x k=>⟨InK.keeps w h h' x.1 k,λP hP=>k _ _ (x.2 P hP)⟩
theorem in_of {K:Params -> Frag} {as:List Addr} {e:∀ P,as = (K P).map (·.1)} {ts:List Addr} {w:World} {h:Heap} (Y:(qHook K as e ts).says w h):(K w.params).In h:=Y.1
end Hk
open Lean in
local macro_rules|`(tactic|o_head ($f:ident $k $a $e $t))=>if f.getId.eraseMacroScopes==`kmHook then `(tactic|o_head (Hk.qHook $k $a $e $t)) else Macro.throwUnsupported
set_option maxRecDepth 100000 in
set_option maxHeartbeats 0 in
theorem PySem.Challenge.cw_keepsakes_k89_plans_at_the_desk_holds : PySem.Challenge.rw_keepsakes_k89_plans_at_the_desk.Holds := by
 w_on;o_law;k_head;(case hw=>w_witness2)
 k_fill
 refine Mine.walk (l:=PySem.Challenge.rw_keepsakes_k89_plans_at_the_desk) rfl rfl (λ w h Y=>Hk.in_of Y) ?F
 case F =>
  intro w mg fa h KX G hmg
  refine' Mine.all_mk KX G hmg _ _ _ _ ⟨KX,G,_,_,_,_,_,_,_,_,_,_,_,_,_,_,_,_,_,_,_,_,_,_,_,_,_,_,_,_,_,_,_,_,_,_,_,_,_,_,_,_,_,_,_,_,_,_,_,_,_,_,_,_,_,_,_,_,_,_,_,_,_,_,_,_,_,_,_,_,_,_,_,_,_,_,_,_,_,_,_,_,_,_,_,_,_,_,_,_,_,_,_,_,_,_,_,_,_,_,_,_,_,_,_,_,_,_,_,_,_,_,_,_,_,_,_,_,_,_,_,_,_,_,_,_,_,_,_,_,_,_,_,_,_,_,_,_,_,_,_,_,_,_,_,_,_,_,_,_,_,_,_,_,_,_,_,_,_,_,_,_,_,_,_,_,_,_,_,_,_,_,_,_,_,_,_,_,_,_,_⟩
  all_goals first|(show L2.GF _ _ _;exact⟨_,_,by unfold L2.GA;ac_rfl,⟨⟨_,_,_,_,_,_,_,_,_,rfl,by ac_rfl,by ac_rfl⟩,by ac_rfl⟩⟩)|(show L2.MF _ _ _ _ _;exact⟨_,by unfold L2.FA;ac_rfl,by ac_rfl,_,⟨⟨_,_,_,_,_,_,_,_,_,rfl,by ac_rfl,by ac_rfl⟩,by ac_rfl⟩⟩)|(show L2.MV _ _ _ _ _;exact⟨by ac_rfl,_,⟨⟨_,_,_,_,_,_,_,_,_,rfl,by ac_rfl,by ac_rfl⟩,by ac_rfl⟩⟩)|(show L2.EC _ _;exact⟨⟨by ac_rfl,by ac_rfl,by ac_rfl,by ac_rfl,by ac_rfl,by ac_rfl,by ac_rfl⟩,by ac_rfl⟩)|(show L2.PX _ _;exact⟨⟨by ac_rfl,by ac_rfl,by ac_rfl,by ac_rfl⟩,by ac_rfl,by ac_rfl⟩)|((first|unfold L2.GA|unfold L2.GN|unfold L2.FA|unfold L2.aO|skip);ac_rfl)|skip
