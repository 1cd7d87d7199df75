import PyProof.Rows.All
import Wide.All
import Wide.FinOn
import Lean
import PyProof.EqAt
import PyProof.EqKinds
import PyProof.TupleCall
import PyProof.AttrMissHeap
import PyProof.DictWalks
import KE.KDictObj
import KE.KEqDict
import KE.KUnpack
import PyProof.Rows.SetFrom
import KE.KRevIter
import KE.KDictSum
import KE.KFmtOwn
import PyProof.FactsAll.set_1
import PyProof.FactsAll.set_2
import PyProof.FactsAll.tuple_1
import PyProof.FactsAll.tuple_2
import KE.KSortTup
import PyProof.SetRoads
import PyProof.DictValues
import PyProof.FactsAll.dict_4
import PyProof.Rows.CallKwBuiltin
import PyProof.DictCopy
import KE.KDictList
import KE.KPairComp
import PyProof.DictItems
import PyProof.MinMaxWalk
import PyProof.WalkInts
import PyProof.RulesTry
import PyProof.ListRange
import PyProof.RangeFor
import KE.KNest
import KE.KLam
import PyProof.LongRange
import PyProof.SeqRoads2
import PySem.Challenge.RW_keepsakes_k89_plans_at_the_desk
import OpenK.KSplit
import OpenK.KNot
import OpenK.KApp
import OpenK.ZGo
import KE.KItem
import KE.IntText
import KE.IntTextLaws
import KE.BitLaws
import KE.KFromBytes
import KE.KMinKey
import KE.KIntText
import KE.KIsAll
import KE.KDictOf
import KE.KxBytes
import KE.KSortAsk
import KE.KDictLaws
set_option compiler.extract_closed false
section
variable{A B C D E:Sort _}{G:Prop}
theorem ξ1{p:A→Prop}(h:∃a,p a)(g:∀a,p a→G):G:=h.elim g
theorem ξ2{p:A→B→Prop}(h:∃a b,p a b)(g:∀a b,p a b→G):G:=h.elim λa h=>ξ1 h (g a)
theorem ξ3{p:A→B→C→Prop}(h:∃a b c,p a b c)(g:∀a b c,p a b c→G):G:=h.elim λa h=>ξ2 h (g a)
theorem ξ4{p:A→B→C→D→Prop}(h:∃a b c d,p a b c d)(g:∀a b c d,p a b c d→G):G:=h.elim λa h=>ξ3 h (g a)
theorem ξ5{p:A→B→C→D→E→Prop}(h:∃a b c d e,p a b c d e)(g:∀a b c d e,p a b c d e→G):G:=h.elim λa h=>ξ4 h (g a)
theorem ψ2{p q:Prop}(h:p∧q)(g:p→q→G):G:=h.elim g
theorem ψ3{p q r:Prop}(h:p∧q∧r)(g:p→q→r→G):G:=h.elim λa b=>ψ2 b (g a)
theorem ψ4{p q r s:Prop}(h:p∧q∧r∧s)(g:p→q→r→s→G):G:=h.elim λa b=>ψ3 b (g a)
theorem ψ5{p q r s t:Prop}(h:p∧q∧r∧s∧t)(g:p→q→r→s→t→G):G:=h.elim λa b=>ψ4 b (g a)
theorem ψ6{p q r s t u:Prop}(h:p∧q∧r∧s∧t∧u)(g:p→q→r→s→t→u→G):G:=h.elim λa b=>ψ5 b (g a)
theorem ψ7{p q r s t u v:Prop}(h:p∧q∧r∧s∧t∧u∧v)(g:p→q→r→s→t→u→v→G):G:=h.elim λa b=>ψ6 b (g a)
theorem ψ8{p q r s t u v w:Prop}(h:p∧q∧r∧s∧t∧u∧v∧w)(g:p→q→r→s→t→u→v→w→G):G:=h.elim λa b=>ψ7 b (g a)
theorem ψ9{p q r s t u v w x:Prop}(h:p∧q∧r∧s∧t∧u∧v∧w∧x)(g:p→q→r→s→t→u→v→w→x→G):G:=h.elim λa b=>ψ8 b (g a)
end
open Lean Parser.Tactic in
local macro_rules|`(tactic|obtain ⟨$ps,*⟩:=$h:term)=>do
 let mut xs:Array Term:=#[]
 let mut tl:=#[]
 for p in ps.getElems do
  let s:=p.raw[0][0]
  let i:=s[0][0]
  if s.getNumArgs==1&&s[0].getKind== ``rcasesPat.one&&i.getId != `rfl then xs:=xs.push ⟨i⟩
  else
   let y:=mkIdent (←Macro.addMacroScope (.mkSimple s!"x{xs.size}"))
   xs:=xs.push y
   tl:=tl.push (←`(tactic|rcases $y:ident with $p))
 let c←if h.raw.isIdent then`(tactic|try clear $(⟨h⟩))else`(tactic|skip)
 let m:=xs.size
 let e s k:=mkIdent (.mkSimple s!"{s}{k}")
 let mut l:Array (TSyntax ``tacticSeq):=#[]
 for k in [0:6]do
  if k<m then
   let n:=m-k
   let b:=xs.extract k m
   let a:=xs.extract 0 k
   let q←if n==1 then`(tactic|intro $b*)else`(tactic|(intro z;refine $(e "ψ" n) z ?_;clear z;intro $b*))
   l:=l.push (←if k==0 then`(tacticSeq|refine $(e "ψ" n) $h ?_;$c;intro $b*;$[$tl];*)else`(tacticSeq|refine $(e "ξ" k) $h ?_;$c;intro $a*;$q;$[$tl];*))
 l:=l.push (←`(tacticSeq|rcases $h:term with ⟨$ps,*⟩))
 `(tactic|first $[|$l]*)
open Lean Parser.Tactic in
local macro_rules|`(tactic|rintro $ps*)=>do
 let l:=ps.back!.raw[0]
 if l.getKind != ``rcasesPat.tuple then Macro.throwUnsupported
 let q:TSyntaxArray ``rcasesPatLo:=l[1].getSepArgs.map (⟨·⟩)
 let i:=ps.pop
 let a←if i.isEmpty then`(tactic|skip)else`(tactic|rintro $i*)
 `(tactic|($a;intro z;obtain ⟨$q,*⟩:=z))
local macro_rules|`(tactic|omega)=>`(tactic|lia)
open Lean in
local macro_rules|`($x:ident)=>match x.getId with|`Z0=>`(none)|`Z1=>`(true)|`Z2=>`(false)|`Z3=>`(Prop)|`Z4=>`(Int)|`Z5=>`(Nat)|`Z6=>`(PySem.Str)|`Z7=>`(PySem.sizeLine)|`Z8=>pure (mkIdent `L2.V.int)|_=>Macro.throwUnsupported
open Lean Parser.Tactic in
def πp:Nat→Term→MacroM (TSyntax ``rcasesPatLo)
|n+1,x=>match x with|`(⟨$a,*⟩)=>do `(rcasesPatLo|⟨$(←a.getElems.mapM (πp n)),*⟩)|`(_)=>`(rcasesPatLo|_)|x=>`(rcasesPatLo|$(⟨x⟩):ident)
|_,_=>Macro.throwUnsupported
local macro_rules|`(tactic|let $d:letDecl)=>`(tactic|have $d:letDecl)
open Lean in
local macro_rules|`(tactic|let ⟨$a,*⟩:=$e)=>do `(tactic|obtain ⟨$(←a.getElems.mapM (πp 9)),*⟩:=$e)
local macro_rules|`(↥$n)=>`(($n : Int))
set_option hygiene false
local macro_rules|`(⋯)=>`(aM P w K mg base (CXx P w))
set_option hygiene true
local macro_rules|`(⇑$h)=>`(by simpa using $h)
open Lean in def μq(xs:Array Term):MacroM (Array Term):=do
 let mut a:=#[]
 for x in xs do
  match x with
  |`(1)=>a:=a++#[←`(_),←`(rfl)]
  |`(2)=>a:=a++#[←`(_),←`(rfl),←`(_),←`(rfl)]
  |`(3)=>a:=a++#[←`(_),←`(_),←`(rfl),←`(rfl)]
  |_=>a:=a.push x
 return a
local macro_rules(kind:=«term{_}»)|`({$xs,*})=>do let a←μq xs;`(⟨$a,*⟩)
local macro_rules|`(tactic|exists $xs,*)=>do let a←μq xs;`(tactic|refine ⟨$a,*, ?_⟩)
local macro_rules|`(~~~$s)=>`(($s).heap.objs.size)
set_option linter.all false
def aiE:=@List.length_map
def aiF:=@PySem.wpAny_bind
def aiG:=@List.getElem?_eq_getElem
def aiH:=@List.getElem?_eq_some_iff
def aiI:=@PySem.Heap.get?_push_of_some
def aiJ:=@PySem.wpAny_pure
def aiK:=@Nat.le_refl
def aiL:=@if_neg
def aiM:=@List.getElem?_append_left
def aiN:=@if_pos
def aiO:=@PySem.Heap.lt_size
def aiP:=@List.getElem?_append_right
def aiQ:=@List.mem_of_getElem?
def aiR:=@List.getElem?_map
def aiS:=@decide_eq_true
def aiT:=@PySem.boot_len
def aiU:=@List.length_take
def aiV:=@List.mem_cons
def aiW:=@PySem.Heap.get?_push_size
def aiX:=@List.mem_append
def aiY:=@Option.some.inj
def aiZ:=@List.take_add_one
def ai0:=@List.getD_eq_getElem?_getD
def ai1:=@decide_eq_false
def ai2:=@PySem.W.mg_of
def ai3:=@List.mem_cons_of_mem
def ai4:=@PySem.F.plainAttrs_list
def ai5:=@Bool.false_ne_true
def ai6:=@List.mem_singleton
def ai7:=@List.take_length
def ai8:=@Nat.le_trans
def ai9:=@Option.map_eq_some_iff
def aja:=@List.map_append
def ajb:=@Nat.zero_le
def ajc:=@PySem.PassesOwn.leaving
def ajd:=@List.mem_map
def aje:=@PySem.F.slot_list_append
def ajf:=@PySem.F.type_list_append
def ajg:=@List.nodup_cons
def ajh:=@List.mem_append_right
def aji:=@Nat.lt_of_lt_of_le
def ajj:=@List.length_append
def ajk:=@PySem.W.mg_none_of
def ajl:=@List.map_cons
def ajm:=@of_decide_eq_true
def ajn:=@List.forall_mem_cons
def ajo:=@List.lookup_cons
def ajp:=@List.cons_eq_cons
def ajq:=@Nat.ne_of_lt
def ajr:=@Nat.le_of_lt
def ajs:=@List.mem_iff_getElem?
def ajt:=@PyProof.Rows.callWith_type1
def aju:=@PySem.Heap.get?_update_self
def ajv:=@List.getElem?_eq_none
def ajw:=@Array.getElem?_eq_some_iff
def ajx:=@List.size_toArray
def ajy:=@PySem.wpAny_mono
def ajz:=@PySem.Heap.get?_update_other
def ajA:=@List.take_of_length_le
def ajB:=@PySem.wpAny_newObj_type
def ajC:=@PySem.wpAny_Call_Name_kw
def ajD:=@PySem.wpAny_field
def ajE:=@List.length_cons
def ajF:=@List.getElem_mem
def ajG:=@PySem.F.plainAttrs_str
def ajH:=@Ne.symm
def ajI:=@Int.mul_nonneg
def ajJ:=@PyProof.Rows.boot_str
def ajK:=@PySem.W.kia_one
def ajL:=@Int.le_refl
def ajM:=@List.mem_cons_self
def ajN:=@PySem.Obj.data_mapFields
def ajO:=@Int.emod_lt_of_pos
def ajP:=@PySem.wpAny_callSpecial?_slot
def ajQ:=@PyProof.Rows.boot_tuple
def ajR:=@PySem.wpAny_call_entry
def ajS:=@Array.length_toList
def ajT:=@Array.getElem?_eq_getElem
def ajU:=@PySem.wpAny_loadPart'
def ajV:=@List.length_replicate
def ajW:=@Array.getElem?_toList
def ajX:=@List.take_append_of_le_length
def ajY:=@PySem.F.called_set
def ajZ:=@List.mem_append_left
def aj0:=@PySem.Heap.size_push
def aj1:=@PySem.Around.under_plainId
def aj2:=@PySem.wpAny_truthy_bool
def aj3:=@Int.emod_nonneg
def aj4:=@Nat.lt_irrefl
def aj5:=@Classical.byContradiction
def aj6:=@PyProof.Rows.toString_length_le
def aj7:=@List.getElem?_take_of_lt
def aj8:=@PySem.codeAny_builtin
def aj9:=@Nat.succ.inj
def aka:=@PySem.wpAny_holding
def akb:=@Int.eq_ofNat_of_zero_le
def akc:=@PySem.Heap.SameBut.update
def akd:=@List.mem_map_of_mem
def ake:=@List.map_congr_left
def akf:=@PySem.wpAny_setField
def akg:=@List.all_eq_true
def akh:=@PySem.F.slot_str_split
def aki:=@PySem.F.type_str_split
def akj:=@PySem.Calls.spliced_cons
def akk:=@Nat.lt_of_le_of_lt
def akl:=@PySem.W.callWith_K
def akm:=@PyProof.Rows.F.plain_set_update_loop
def akn:=@PySem.F.slot_enumerate_next
def ako:=@List.map_map
def akp:=@PySem.wpAny_passesOwn
def akq:=@List.append_nil
def akr:=@PySem.Obj.isFreed_of_fields
def aks:=@PySem.W.KIN.signs_num
def akt:=@PyProof.Rows.boot_max
def aku:=@PyProof.Rows.boot_int
def akv:=@Nat.mod_two_eq_zero_or_one
def akw:=@PySem.Calls.spliced_nil
def akx:=@List.drop_eq_getElem_cons
def aky:=@Nat.lt_succ_self
def akz:=@Option.isSome_iff_exists
def akA:=@Option.getD_some
def akB:=@PySem.mem_of_lookup
def akC:=@List.getElem_of_mem
def akD:=@PyProof.Rows.slot_tuple_getitem
def akE:=@PySem.call_meets
def akF:=@List.range_succ
def akG:=@of_decide_eq_false
def akH:=@Int.natCast_add
def akI:=@Nat.lt_of_succ_lt_succ
def akJ:=@Int.mul_le_mul_of_nonneg_left
def akK:=@Nat.lt_succ_of_lt
def akL:=@List.append_assoc
def akM:=@Nat.ne_of_gt
def akN:=@PySem.codeAny_mono
def akO:=@PySem.StrLaws.glued_eq_join
def akP:=@PySem.builtinLookup_eq_fast
def akQ:=@PyProof.Rows.boot_min
def akR:=@List.any_eq_true
def akS:=@PySem.wpAny_askSetting
def akT:=@List.any_cons
def akU:=@Nat.le_succ
def akV:=@List.replicate_succ
def akW:=@List.length_reverse
def akX:=@PySem.wpAny_execs_nil
def akY:=@PySem.F.slot_dict_getitem
def akZ:=@Nat.not_lt_zero
def ak0:=@PySem.F.plain_extend_loop
def ak1:=@PySem.wpAny_pyIter_tuple
def ak2:=@Nat.le_of_eq
def ak3:=@PySem.F.args_tuple_add_2
def ak4:=@List.map_nil
def ak5:=@PySem.tupleKind_room_in1
def ak6:=@Nat.pos_of_ne_zero
def ak7:=@List.getElem?_drop
def ak8:=@PySem.StrLaws.join_split
def ak9:=@PySem.AutoSeq1.wpAny_loadPart'
def ala:=@PyProof.Rows.F.entry_set_update_loop
def alb:=@PySem.F.slot_list_extend
def alc:=@PySem.F.type_list_extend
def ald:=@List.filter_append
def ale:=@List.mem_range
def alf:=@PySem.F.entry_tuple_add
def alg:=@Nat.toDigits_of_lt_base
def alh:=@List.length_eq_zero_iff
def ali:=@PySem.F.slot_list_index
def alj:=@PySem.Value.isInt_shape
def alk:=@PySem.wpAny_pyIter_list
def alm:=@PySem.F.args_tuple_iterator_next_1
def aln:=@List.ext_getElem?
def alo:=@PySem.wpAny_setState_of
def alp:=@List.pairwise_map
def alq:=@PySem.F.slot_tuple_add
def alr:=@PySem.Calls.callWith_builtin
def als:=@PySem.F.entry_tuple_iterator_next
def alu:=@PySem.wpAny_of_eq
def alv:=@Sum.inl.inj
def alw:=@PySem.plainId_quiet
def alx:=@List.length_drop
def aly:=@Bool.and_eq_true
def alz:=@Nat.le_of_not_lt
def alA:=@PySem.F.slot_tuple_iterator_next
def alB:=@PySem.F.slot_dict_get
def alC:=@PySem.W.methodCall_KW
def alD:=@List.take_append_drop
def alE:=@PySem.F.slot_str_join
def alF:=@PySem.F.type_str_join
def alG:=@PyProof.Rows.callWith_builtin1
def alH:=@PyProof.Rows.intsAre_of
def alI:=@Option.map_some
def alJ:=@Nat.lt_trans
def alK:=@PySem.wpAny_specialOf
def alL:=@Nat.min_eq_left
def alM:=@PySem.typeLookup_type
def alN:=@Int.mul_le_mul_of_nonneg_right
def alO:=@PySem.F.args_enumerate_next_1
def alP:=@List.filterMap_cons
def alQ:=@PySem.W.plainGet_of
def alR:=@ne_true_of_eq_false
def alS:=@List.length_pos_iff
def alT:=@PySem.wpAny_setEntries_of
def alU:=@Nat.toDigits_append_toDigits
def alV:=@PySem.F.entry_enumerate_next
def alW:=@PySem.sizeLine_eq
def alX:=@List.filterMap_map
def alY:=@PySem.F.args_str_split_2
def alZ:=@List.map_filterMap
def al0:=@PySem.wpAny_setField_rec
def al1:=@PySem.Calls.Name_function_global
def al2:=@PySem.wpAny_attempt
def al3:=@List.flatten_cons
def al4:=@Option.isSome_map
def al5:=@PySem.F.entry_str_split
def al6:=@PySem.Obj.cls_mapFields
def al7:=@PySem.wpAny_pyIter_enum
def al8:=@List.reverse_cons
def al9:=@Nat.lt_trichotomy
def ama:=@List.length_range
def amb:=@List.nodup_append
def amc:=@Classical.not_not
def amd:=@beq_iff_eq
def ame:=@PySem.typeIs_str
def amf:=@List.getElem?_zip_eq_some
def amg:=@List.getElem?_eq_none_iff
def amh:=@List.perm_append_left_iff
def ami:=@PySem.F.entry_extend_loop
def amj:=@PySem.noFill_tuple_add
def amk:=@PySem.wpAny_getItem_of
def aml:=@PySem.wpAny_comprehension_free
def amm:=@List.perm_middle
def amn:=@PySem.F.slot_str_split
def amo:=@List.filter_cons
def amq:=@PySem.wpAny_isInstance
def amr:=@Int.le_trans
def ams:=@Nat.lt_or_ge
def amt:=@List.map_reverse
def amu:=@Int.zero_add
def amv:=@PySem.F.args_dict_get_2
def amw:=@PySem.StrLaws.found_one
def amx:=@List.getElem?_cons_succ
def amy:=@PySem.F.type_list_index
def amz:=@Bool.eq_iff_iff
def amA:=@List.of_mem_zip
def amB:=@List.foldl_cons
def amC:=@PySem.wpAny_ite_split
def amD:=@PySem.wpAny_updateSeq
def amE:=@List.getElem?_set_self
def amF:=@PySem.W.cellsFrom_some
def amH:=@PySem.F.entry_dict_get
def amK:=@Int.add_mul
def amL:=@Array.getElem?_eq_none
def amM:=@List.drop_of_length_le
def amN:=@PyProof.Rows.boot_list
def amP:=@PySem.intText_digits
def amR:=@PySem.F.plain_set_new
def amS:=@PySem.isSubtype_type
def amT:=@PySem.F.slot_set_iter
def amU:=@Nat.le_of_ble_eq_true
def amV:=@List.length_filter_le
def amW:=@List.getElem?_set_ne
def amY:=@PySem.wpAny_call
def amZ:=@Nat.mod_lt
def am0:=@PySem.W.KIN.val_back
def am1:=@List.reverse_reverse
def am3:=@Nat.mul_le_mul_right
def am5:=@List.mem_of_mem_take
def ana:=@List.map_take
def anb:=@beq_eq_false_iff_ne
def anc:=@PySem.W.callWith_K0
def ane:=@List.findSome?_cons
def ang:=@List.mergeSort_perm
def anh:=@List.getElem?_range
def ani:=@List.reverse_append
def anl:=@List.mem_filterMap
def ans:=@List.ne_nil_of_mem
def ant:=@Nat.eq_zero_or_pos
def anu:=@Nat.lt_or_eq_of_le
def anw:=@Nat.sub_self
def anx:=@List.map_inj_right
def anz:=@Int.sub_add_cancel
def anA:=@List.getElem?_take
def anL:=@Nat.pow_pos
open PySem.W (instObj methodObj Frag lookIn plainGet hasDictIn findIn handedIn isFn plainOver takerIn Looks makesIn typeIn emptyDict keepIn specialIn mroIn kitOne kitx_list kitx_dict fnOf codeIn OpenLaw WalkO readsIn findCls KdlSrc nsIn)
set_option Elab.async false
set_option linter.all false
set_option maxRecDepth 100000
def o4{p:Z3}(h:p:=by decide +kernel):p:=h
def o5{p:Z3}(h:p:=by first|decide|(dsimp only;decide)):p:=h
def o6{p:Z3}(h:p:=by omega):p:=h
def o7{p:Z3}(h:p:=by decide):p:=h
def o8{p:Z3}(h:p:=by simp):p:=h
def o9{p:Z3}(h:p:=by rfl):p:=h
def J{α:Sort u}{a:α}:a=a:=Eq.refl a
abbrev fy:=List
abbrev jl:=PySem.Addr
abbrev mu:=PySem.Value
abbrev nt:=Option
abbrev q8:=PySem.Shared
abbrev q9:=PySem.FuncData
abbrev sA:=Array
abbrev t6:=PySem.Program
abbrev t7:=PySem.World
namespace L2
open PySem PySem.Spec PyProof.Rows
abbrev Key:=Sum Z4 Z6
def sO:Key->mu->Bool
 |.inl k,v=>Value.isInt k v
 |.inr x,v=>Value.isStrOf x v
def ah1(w:t7):Key->Z4
 |.inl k=>hashInt k
 |.inr x=>hashStr w x
def dJ:∀{k:Key}{v:mu},sO k v=Z1->(∃i t,k=Sum.inl i/\v=Value.int i t)∨(∃x t,k=Sum.inr x/\v=Value.str x t)
 |.inl i,v,h=>by let⟨t,e⟩:=alj (k:=i) (v:=v) h;exact .inl ⟨i,t,J,e⟩
 |.inr x,v,h=>by let⟨t,e⟩:=Value.isStrOf_shape (x:=x) (v:=v) h;exact .inr ⟨x,t,J,e⟩
def Gs(i:Z4)(t:Tok):sO (.inl i) (.int i t)=Z1:=by simp[sO,Value.isInt]
def qQ(x:Z6)(t:Tok):sO (.inr x) (.str x t)=Z1:=by simp[sO,Value.isStrOf]
def RB(a b:Z4):decide ((Sum.inl a:Key)=Sum.inl b) =(a==b):=by grind
def Xr(a b:Z6):decide ((Sum.inr a:Key)=Sum.inr b)=decide (a=b):=by grind
def UI(a:Z4)(b:Z6):decide ((Sum.inl a:Key)=Sum.inr b)=Z2:=ai1 λq=>nomatch q
def W8(a:Z6)(b:Z4):decide ((Sum.inr a:Key)=Sum.inl b)=Z2:=ai1 λq=>nomatch q
def cu(prog:t6)(w:t7):PySem.KeyKind prog w Key where
 is:=sO
 hash:=ah1 w
 inj:=λv a b g f=>by
  rcases dJ g with⟨i,t,rfl,rfl⟩|⟨x,t,rfl,rfl⟩
  .rcases dJ f with⟨j,u,rfl,e⟩|⟨y,u,rfl,e⟩
   .injection e with e1 _;rw[e1]
   .exact nomatch e
  .rcases dJ f with⟨j,u,rfl,e⟩|⟨y,u,rfl,e⟩
   .exact nomatch e
   .injection e with e1 _;rw[e1]
 byValue:=λk v h=>by rcases dJ h with⟨i,t,rfl,rfl⟩|⟨x,t,rfl,rfl⟩ <;> rfl
 pyHash:=λc h=>by
  rcases dJ c with⟨i,t,rfl,rfl⟩|⟨x,t,rfl,rfl⟩
  .exact wpAny_pyHash_int h
  .exact wpAny_pyHash_str h
 eqBool:=λl c h=>by
  rcases dJ l with⟨i,t,rfl,rfl⟩|⟨x,t,rfl,rfl⟩
  .rcases dJ c with⟨j,u,rfl,rfl⟩|⟨y,u,rfl,rfl⟩
   .rw[RB] at h;exact wpAny_eqBool_int h
   .rw[UI] at h;exact SeqAt.EqAt.int_str i t y u _ _ _ _ h
  .rcases dJ c with⟨j,u,rfl,rfl⟩|⟨y,u,rfl,rfl⟩
   .rw[W8] at h;exact SeqAt.EqAt.str_int x t j u _ _ _ _ h
   .rw[Xr] at h;exact wpAny_eqBool_str h
 «strs»:=λk x t v h=>by
  rcases dJ h with⟨i,u,rfl,e⟩|⟨y,u,rfl,e⟩
  .exact nomatch e
  .injection e with e1 _
   subst e1;cases v <;> rfl
def BU(prog:t6)(w:t7)(i:Z4)(t:Tok):(cu prog w).is (.inl i) (.int i t)=Z1:=Gs i t
def Bw(prog:t6)(w:t7)(x:Z6)(t:Tok):(cu prog w).is (.inr x) (.str x t)=Z1:=qQ x t
inductive V where
 |non|bl (b:Bool)|int (i:Z4)|str (x:Z6)|byt (b:sA UInt8)|flt (b:UInt64)|ref (a:jl)|ty (n:String)
 deriving DecidableEq
def RelV:V->mu->Z3
 |.non,u=>u=Value.none
 |.bl b,u=>u=Value.bool b
 |.int i,u=>∃t,u=Value.int i t
 |.str x,u=>∃t,u=Value.str x t
 |.byt b,u=>∃t,u=Value.bytes b t
 |.flt b,u=>∃t,u=Value.float b t
 |.ref a,u=>u=Value.ref a
 |.ty n,u=>u=Value.type n
abbrev Vals:fy V->fy mu->Z3:=Paired RelV
def Vals.length{xs:fy V}{us:fy mu}(r:Vals xs us):xs.length=us.length:=Paired.length r
def Vals.get:∀{xs:fy V}{us:fy mu}{i:Z5}{x:V},Vals xs us->xs[i]?=some x->∃u,us[i]?=some u/\RelV x u
 |_,_,_,_,.nil,e=>by simp at e
 |_,_,0,_,.cons r _,e=>by simp at e;subst e;exact{1,r}
 |_,_,i+1,x,.cons _ t,e=>by let⟨u,h1,h2⟩:=Vals.get (i:=i) (x:=x) t (⇑e);exact{u,⇑h1,h2}
def Vals.set{x:V}{u:mu}(r:RelV x u):∀{xs:fy V}{us:fy mu}(i:Z5),Vals xs us->Vals (xs.set i x) (us.set i u)
 |_,_,_,.nil=>.nil
 |_,_,0,.cons _ t=>.cons r t
 |_,_,i+1,.cons q t=>.cons q<|Vals.set r i t
def Vals.append:∀{xs ys:fy V}{us ws:fy mu},Vals xs us->Vals ys ws->Vals (xs++ys) (us++ws)
 |_,_,_,_,.nil,s=>s
 |_,_,_,_,.cons r t,s=>.cons r<|Vals.append t s
def Vals.take:∀{xs:fy V}{us:fy mu}(n:Z5),Vals xs us->Vals (xs.take n) (us.take n)
 |_,_,0,_=>.nil
 |_,_,_+1,.nil=>.nil
 |_,_,n+1,.cons r t=>.cons r<|Vals.take n t
def Vals.drop:∀{xs:fy V}{us:fy mu}(n:Z5),Vals xs us->Vals (xs.drop n) (us.drop n)
 |_,_,0,r=>r
 |_,_,_+1,.nil=>.nil
 |_,_,n+1,.cons _ t=>Vals.drop n t
def gF:nt V->nt mu->Z3
 |some v,some u=>RelV v u
 |none,none=>True
 |_,_=>False
def KV{κ:Type}:fy (κ×V)->fy (κ×mu)->Z3:=Paired λ(p:κ×V)(q:κ×mu)=>p.1=q.1/\RelV p.2 q.2
def kV:Key->V
 |.inl i=>.int i
 |.inr x=>.str x
inductive HO where
  |lst (xs:fy V)
  |tup (xs:fy V)
  |dK (C4:fy (Key×V))|dT (C4:fy (fy Key×V))
  |set (S:Z4->Bool) (n:Z5)
  |ins (C dx:jl) (fs:fy (Z6×V))
  |own (x:jl)
  |xd (fs:fy (Z6×V))
  |met (f x:jl)
  |rng (lo hi:Z4)
  |frz (o:Obj) (u:HO)
  |tbl (ps:sA mu)
  |ext (φ:Heap->Z3)
abbrev Hp:=jl->nt HO
def Z9(H:Hp)(a:jl)(o:HO):Hp:=λb=>if b=a then some o else H b
def af{H:Hp}{a:jl}{o:HO}:Z9 H a o a=some o:=by unfold Z9;rw[aiN rfl]
def ak{H:Hp}{a b:jl}{o:HO}(h:b≠a):Z9 H a o b=H b:=by unfold Z9;rw[aiL h]
def dQ{H:Hp}{a:jl}{o u:HO}:Z9 (Z9 H a o) a u=Z9 H a u:=by funext b;unfold Z9;split <;> rfl
def bU{H:Hp}{a b:jl}{o u:HO}(h:H a=some o)(h':H b=some u)(d:o≠u):a≠b:=by grind
def ao{H:Hp}{a b:jl}{o:HO}(h:H a=some o)(h':H b=Z0):a≠b:=by grind
section
variable(P:t6)(w:t7)
def bK(H:Hp)(h:Heap)(a:jl):HO->Z3
 |.lst xs=>xs.length≤Z7/\∃(C5:fy mu)(n:Z5),Vals xs C5/\h.get? a=some {.type "list",Z0,.seq C5.toArray n,#[]}
 |.tup xs=>xs.length≤Z7/\∃C5:fy mu,Vals xs C5/\IsTup h a C5.toArray
 |.dK C4=>C4.length≤Z7/\(a==sysModules)=Z2/\∃vs,KV C4 vs/\h.DictOf (cu P w) a vs
 |.dT C4=>C4.length≤Z7/\(a==sysModules)=Z2/\∃xs:fy (fy Key×jl×mu),
   Paired (λ(p:fy Key×V)(q:fy Key×jl×mu)=>p.1=q.1/\H q.2.1=some (.tup<|p.1.map kV)/\RelV p.2 q.2.2) C4 xs∧
   ∃o es ep,h.get? a=some o/\o.ExactDict/\o.data=.dict es ep/\es.toList=xs.map (entryOfKey<|tupleKind<|cu P w)/\(xs.map (·.1)).Nodup
 |.set S n=>h.SetOf (intKind P w) a S n
 |.ins C dx fs=>H dx=some (.own a)/\fs.length≤1000/\dx≠a/\h.get? a=some (instObj C dx)∧
   ∃mA,h.Ns1 dx mA/\(∀f,gF (fs.lookup f)<|mA f)/\PySem.Within mA (fs.map (·.1))
 |.own _=>∃o,h.get? a=some o
 |.xd fs=>∃mA,h.Ns1 a mA/\∀f,gF (fs.lookup f)<|mA f
 |.rng lo hi=>∃t u v,h.get? a=some {.type "range",Z0,.fields #[.int lo t,.int hi u,.int 1 v],#[]}
 |.frz o u=>h.get? a=some o/\bK H h a u
 |.tbl ps=>h.get? a=some {.none,Z0,.fields ps,#[]}
 |.met f x=>h.get? a=some (methodObj (.ref f)<|.ref x)
 |.ext b=>b h/\(∃o,h.get? a=some o)/\∀h1 h2:Heap,b h1->(∀o,h1.get? a=some o->h2.get? a=some o)->b h2
def HOk(H:Hp)(h:Heap):Z3:=∀a o,H a=some o->bK P w H h a o
end
section
variable{P:t6}{w:t7}{H H':Hp}{h h':Heap}{a:jl}{o:HO}
def bK.lt(x:bK P w H h a o):a<h.objs.size:=by
 cases o with
 |lst xs=>let⟨_,_,_,_,e⟩:=x;exact aiO e
 |tup xs=>let⟨_,_,_,p⟩:=x;exact p.lt
 |dK C4=>let⟨_,_,_,_,o,_,_,e,_⟩:=x;exact aiO e
 |dT C4=>let⟨_,_,_,_,o,_,_,e,_⟩:=x;exact aiO e
 |set S n=>let⟨o,_,_,_,e,_⟩:=x;exact aiO e
 |ins C dx fs=>let⟨_,_,_,e,_⟩:=x;exact aiO e
 |own y=>let⟨_,e⟩:=x;exact aiO e
 |xd fs=>let⟨_,⟨_,_,_,e,_⟩,_⟩:=x;exact aiO e
 |rng lo hi=>let⟨_,_,_,e⟩:=x;exact aiO e
 |frz b u=>let⟨e,_⟩:=x;exact aiO e
 |tbl ps=>exact aiO (show h.get? a=some _ from x)
 |met f y=>exact aiO (show h.get? a=some _ from x)
 |ext c=>let⟨_,⟨_,e⟩,_⟩:=x;exact aiO e
def Paired.IF{α g:Type}{F G:α->g->Z3}:∀{e:fy α}{c:fy g},Paired F e c->(∀a b,F a b->G a b)->Paired G e c
 |_,_,.nil,_=>.nil
 |_,_,.cons r t,f=>.cons (f _ _ r)<|Paired.IF t f
def bK.stay(x:bK P w H h a o)(k:∀b u,(b=a∨H b=some (.own a))->h.get? b=some u->h'.get? b=some u)(i:∀b,H b=some (.own a)->H' b=some (.own a))(m:∀b xs,H b=some (.tup xs)->H' b=some (.tup xs)):bK P w H' h' a o:=by
 induction o with
 |lst xs=>let⟨z,C5,n,r,e⟩:=x;exact{z,C5,n,r,k _ _ (.inl J) e}
 |tup xs=>let⟨z,C5,r,g,e,c⟩:=x;exact{z,C5,r,g,k _ _ (.inl J) e,c}
 |dK C4=>let⟨z,y,vs,r,g,es,ep,e,c⟩:=x;exact{z,y,vs,r,g,es,ep,k _ _ (.inl J) e,c}
 |dT C4=>let⟨z,y,xs,r,g,es,ep,e,c⟩:=x;exact{z,y,xs,Paired.IF r λp q z=>{z.1,m _ _ z.2.1,z.2.2},g,es,ep,k _ _ (.inl J) e,c}
 |set S n=>let⟨g,es,ep,t,e,c⟩:=x;exact{g,es,ep,t,k _ _ (.inl J) e,c}
 |ins C dx fs=>let⟨d,z,j,e,mA,⟨od,es,ep,s,c⟩,r⟩:=x;exact{i _ d,z,j,k _ _ (.inl J) e,mA,{od,es,ep,k _ _ (.inr d) s,c},r}
 |own y=>let⟨g,e⟩:=x;exact{g,k _ _ (.inl J) e}
 |xd fs=>let⟨mA,⟨od,es,ep,e,c⟩,r⟩:=x;exact{mA,{od,es,ep,k _ _ (.inl J) e,c},r}
 |rng lo hi=>let⟨t,u,v,e⟩:=x;exact{t,u,v,k _ _ (.inl J) e}
 |frz g u l=>let⟨e,q⟩:=x;exact{k _ _ (.inl J) e,l q}
 |tbl ps=>have e:h.get? a=some {.none,Z0,.fields ps,#[]}:=x;show h'.get? a=some {.none,Z0,.fields ps,#[]};exact k a _ (.inl J) e
 |met f y=>have e:h.get? a=some (methodObj (.ref f) (.ref y)):=x;show h'.get? a=some (methodObj (.ref f)<|.ref y);exact k a _ (.inl J) e
 |ext A=>let⟨p,⟨o,e⟩,st⟩:=x;exact{st _ _ p λo q=>k _ _ (.inl J) q,{o,k _ _ (.inl J) e},st}
def HOk.lt(x:HOk P w H h)(e:H a=some o):a<h.objs.size:=(x a o e).lt
def HOk.fresh(x:HOk P w H h)(e:h.objs.size≤a):H a=Z0:=by
 cases q:H a with
 |none=>rfl
 |some u=>exact absurd (aji (x.lt q) e)<|aj4 _
def HOk.kept(x:HOk P w H h)(k:∀b u,h.get? b=some u->h'.get? b=some u):HOk P w H h':=λa o e=>(x a o e).stay (λb u _ q=>k b u q) (λ_ q=>q) λ_ _ q=>q
def HOk.laid(x:HOk P w H h)(k:∀b u,h.get? b=some u->h'.get? b=some u)(g:h.objs.size≤a)(new:bK P w (Z9 H a o) h' a o):HOk P w (Z9 H a o) h':=λb u e=>by
 let hn:=x.fresh g;by_cases f:b=a
 .subst f;rw[af] at e;cases e;exact new
 .rw[ak f] at e;exact(x b u e).stay (λc v _ q=>k c v q) (λc q=>by rwa[ak<|ao q hn]) λc xs q=>by rwa[ak<|ao q hn]
end
def Rd(H:Hp)(a:jl)(u:HO):Z3:=H a=some u∨∃o,H a=some (.frz o u)
def Rd.ok{P:t6}{w:t7}{H:Hp}{h:Heap}{a:jl}{u:HO}(r:Rd H a u)(x:HOk P w H h):bK P w H h a u:=by
 rcases r with r|⟨o,r⟩
 .exact x a u r
 .let⟨_,q⟩:=x a _ r;exact q
def Mut:nt HO->Z3
 |some (.lst _)=>True
 |some (.dK _)=>True
 |some (.dT _)=>True
 |some (.set _ _)=>True
 |some (.ins _ _ _)=>True
 |some (.ext _)=>True
 |_=>False
section
variable{P:t6}{w:t7}{H:Hp}{h h':Heap}{x e:jl}{o':HO}
def HOk.write(ok:HOk P w H h)(i:Mut (H x))(p:e=x∨H e=some (.own x))(k:∀b u,b≠e->h.get? b=some u->h'.get? b=some u)(j:∃u,h'.get? e=some u)(new:bK P w (Z9 H x o') h' x o'):HOk P w (Z9 H x o') h':=λb u q=>by
 let a:∀c y,H c=some (.own y)->c≠x:=λc y r z=>by subst z;rwa[r] at i
 let f:∀c xs,H c=some (.tup xs)->c≠x:=λc xs r z=>by subst z;rwa[r] at i
 by_cases l:b=x
 .subst l;rw[af] at q;cases q;exact new
 .rw[ak l] at q;by_cases g:b=e
  .let n:H b=some (.own x):=by grind
   rw[q] at n;cases n;let⟨v,o⟩:=j;exact{v,by rwa[g]}
  .refine(ok b u q).stay (λc v m r=>k c v ?_ r) (λc r=>by rwa[ak<|a c b r]) λc xs r=>by rwa[ak<|f c xs r]
   rcases m with rfl|m
   .exact g
   .grind
end
structure Un(fs ex:fy jl)(H H':Hp)(h h':Heap):Z3 where
 keep:∀b o,h.get? b=some o->H b=Z0->b∉fs->b∉ex->h'.get? b=some o
 slot:∀b o,h.get? b=some o->H b=Z0->b∈fs->b∉ex->∃sl,h'.get? b=some {o with slots:=sl}
 free:∀b o,h.get? b=some o->H b=Z0->b∉ex->H' b=Z0
 there:∀b o,h.get? b=some o->b∉ex->∃o',h'.get? b=some o'
 tups:∀b xs,H b=some (.tup xs)->H' b=some (.tup xs)
 qp:∀b o u,H b=some (.frz o u)->H' b=some (.frz o u)
 qS:∀b ps,H b=some (.tbl ps)->∃more,H' b=some (.tbl (ps++more))
section
variable{fs fs' ex ex':fy jl}{H H1 H2:Hp}{h h1 h2 h':Heap}{a x e:jl}{o:HO}
def Un.any(u:Un fs ex H H1 h h1){b:jl}{a:Obj}(q:h.get? b=some a)(n:H b=Z0)(e:b∉ex):∃f,h1.get? b=some {a with slots:=f}:=by
 by_cases c:b∈fs
 .exact u.slot b a q n c e
 .exact{a.slots,u.keep b a q n c e}
def Un.kept(k:∀b u,h.get? b=some u->h'.get? b=some u):Un fs ex H H h h':=
 {λb a q _ _ _=>k b a q,λb a q _ _ _=>{a.slots,k b a q},λ_ _ _ n _=>n,λb a q _=>{a,k b a q},λ_ _ q=>q,λ_ _ _ q=>q,λ_ ps q=>{#[],by rw[q];simp}}
def Un.refl:Un fs ex H H h h:=Un.kept λ_ _ q=>q
def Un.laid(k:∀b u,h.get? b=some u->h'.get? b=some u)(c:h.objs.size≤a)(hn:H a=Z0):Un fs ex H (Z9 H a o) h h' where
 keep:=λb u q _ _ _=>k b u q
 slot:=λb u q _ _ _=>{u.slots,k b u q}
 free:=λb u q n _=>by rwa[ak<|ajq<|aji (aiO q) c]
 there:=λb u q _=>{u,k b u q}
 tups:=λb xs q=>by rwa[ak<|ao q hn]
 qp:=λb u xs q=>by rwa[ak<|ao q hn]
 qS:=λb ps q=>{#[],by rw[ak<|ao q hn,q];simp}
def Un.write(a:Mut (H x))(l:e=x∨H e=some (.own x))(k:∀b u,b≠e->h.get? b=some u->h'.get? b=some u)(g:∃u,h'.get? e=some u):Un fs ex H (Z9 H x o) h h':=by
 let j:∀b,H b=Z0->b≠x:=λb n z=>by subst z;rwa[n] at a
 let i:∀b,H b=Z0->b≠e:=λb n z=>by
  subst z;rcases l with r|r
  .exact j b n r
  .rw[n] at r;cases r
 let c:∀b u,H b=some u->¬Mut (some u)->b≠x:=λb u q m z=>by subst z;rw[q] at a;exact m a
 refine⟨λb u q n _ _=>k b u (i b n) q,λb u q n _ _=>{u.slots,k b u (i b n) q},λb u q n _=>by rwa[ak<|j b n],λb u q _=>?_,
  λb xs q=>by rwa[ak (c b _ q λz=>z)],λb u xs q=>by rwa[ak (c b _ q λz=>z)],λb ps q=>{#[],by rw[ak (c b _ q λz=>z),q];simp}⟩
 by_cases f:b=e
 .subst f;exact g
 .grind
end
def trk(h:Heap)(H:Hp):fy jl:=(List.range h.objs.size).filter λa=>(H a).isSome
def qd(h:Heap)(H:Hp):Heap:=PySem.W.hideAll h<|trk h H
def FO(h:Heap)(H:Hp):(qd h H).objs.size=h.objs.size:=PySem.W.hideAll_size _ _
def HC{h:Heap}{H:Hp}{b:jl}{o:Obj}(e:h.get? b=some o)(n:H b=Z0):(qd h H).get? b=some o:=
 PySem.W.hideAll_get _ e λa=>by let q:(H b).isSome=Z1:=(List.mem_filter.mp a).2;rw[n] at q;simp at q
def QK{h:Heap}{H:Hp}{b:jl}{o:Obj}(e:(qd h H).get? b=some o):h.get? b=some o/\H b=Z0:=by
 let a:h.get? b=some o:=PySem.W.of_hideAll (trk h H) e;exists a;cases q:H b with
 |none=>rfl
 |some x=>have c:b∈trk h H:=List.mem_filter.mpr {ale.mpr<|aiO a,by simp[q]};let z:(qd h H).get? b=Z0:=PySem.W.hideAll_none (trk h H) c;rw[z] at e;cases e
def Qv(g h:Heap)(L:jl):fy (jl×Obj):=(List.range h.objs.size).filterMap λa=>if a=L∨(g.get? a).isSome=Z1 then Z0 else(h.get? a).map λo=>(a,o)
def rest(g h:Heap)(L d:jl):fy (jl×Obj):=(Qv g h L).filter λp=>decide (p.1≠d)
structure Mod(K:Frag)(mg:Z6->nt mu)(base:Heap):Z3 where
 kin:K.In base
 glob:base.Ns mainGlobals mg
 blt:∃mb,base.Ns builtinsNs mb/\∀x:Z6,x≠"__name__"->mb x=bootBuiltins x
 nolimit:base.NoLimit
structure Cx where
 prog:t6
 w:t7
 K:Frag
 mg:Z6->nt mu
 base:Heap
 A:Around
 N:fy Z6
 s₀:q8
 H₀:Hp
 env:Env
 outer:fy Env
 stack:fy Env
 ex:fy jl
 fn:Z6->Bool
 calm:Bool
 pn:fy (jl×Obj)
 xe:mu->q8->Z3
def frs(l:fy Env):fy jl:=l.filterMap (·.frame)
abbrev Cx.fs(X:Cx):fy jl:=frs X.outer
def Vis(a:Scope)(x:Z6):Z3:=a.names.lookup x=some .local∨a.names.lookup x=some .cell∨a.names.lookup x=some .free
def Loc(a:Scope)(x:Z6):Z3:=a.names.lookup x=some .local∨a.names.lookup x=some .cell
def Look(env:Env)(h:Heap)(m:Z6->nt mu)(x:Z6)(u:mu):Z3:=
 (env.kindOf x=some .local/\m x=some u)∨((env.kindOf x=some .cell∨env.kindOf x=some .free)/\∃c,env.cells.lookup x=some c/\h.IsCell c (some u))
structure Cx.Ok(X:Cx):Z3 where
 mod:Mod X.K X.mg X.base
 kind:X.env.scope.kind=.function
 glob:X.env.globals=mainGlobals
 blt:X.env.builtins=builtinsNs
 above:X.s₀.heap.objs.size≤X.env.locals
 inj:∀x y c,X.env.cells.lookup x=some c->X.env.cells.lookup y=some c->x=y
 has:∀x,(X.env.kindOf x=some .cell∨X.env.kindOf x=some .free)->∃c,X.env.cells.lookup x=some c
 cab:∀x c,X.fn x=Z1->X.env.cells.lookup x=some c->X.s₀.heap.objs.size≤c
 hd:X.calm=Z1->X.A.handled=Z0
 frames:X.A.frames=some X.stack
 stk:X.stack=X.outer∨(X.stack=X.env::X.outer/\X.env.frame=some X.env.locals)
 exf:∀ b∈X.ex,b≠X.env.locals/\∀x c,X.env.cells.lookup x=some c->c≠b
 bs:∀b o,X.base.get? b=some o->X.s₀.heap.get? b=some o/\X.H₀ b=Z0
 bsz:X.base.objs.size≤X.s₀.heap.objs.size
 uH:∀b o,X.base.get? b=some o->b∉X.ex
 ue:∀ b∈X.ex,b∉X.fs
 jw:X.s₀.heap.FunFrames X.base X.outer
 frf:∀ b∈X.fs,X.H₀ b=Z0
structure Inv(X:Cx)(X4:fy (jl×Obj))(σ:fy (nt V))(H:Hp)(s:q8):Z3 where
 ok:X.Ok
 os:s.os=X.s₀.os
 bare:AllBare s.gens
 base:Un X.fs X.ex X.H₀ H X.s₀.heap s.heap
 loc:∃m,s.heap.Ns X.env.locals m/\∀(i:Z5)(x:Z6)(v:V),X.N[i]?=some x->σ[i]?=some (some v)->Vis X.env.scope x->∃u,RelV v u/\Look X.env s.heap m x u
 cell:∀x c,X.env.cells.lookup x=some c->∃v,s.heap.IsCell c v
 free:H X.env.locals=Z0
 ig:∀x c,X.env.cells.lookup x=some c->H c=Z0
 pin:∀ p∈X.pn++X4,s.heap.get? p.1=some p.2/\H p.1=Z0/\p.1≠X.env.locals/\p.1∉X.fs/\∀v,p.2.data≠.cell v
 hok:HOk X.prog X.w H s.heap
 len:σ.length=X.N.length
section
variable{X:Cx}{X4:fy (jl×Obj)}{σ:fy (nt V)}{H H':Hp}{s:q8}{h':Heap}
def Cx.Ok.agZ(ok:X.Ok){b:jl}{o:Obj}(e:X.base.get? b=some o):b∉X.fs:=λa=>by let:=(ok.jw.mem a).1;rw[e] at this;cases this
def Inv.bs(I:Inv X X4 σ H s):∀b o,X.base.get? b=some o->s.heap.get? b=some o/\H b=Z0:=λb o e=>
 {I.base.keep b o (I.ok.bs b o e).1 (I.ok.bs b o e).2 (I.ok.agZ e)<|I.ok.uH b o e,I.base.free b o (I.ok.bs b o e).1 (I.ok.bs b o e).2<|I.ok.uH b o e}
def Inv.bk(I:Inv X X4 σ H s):∀b o,X.base.get? b=some o->s.heap.get? b=some o:=λb o e=>(I.bs b o e).1
def Inv.mod(I:Inv X X4 σ H s):Mod X.K X.mg X.base:=I.ok.mod
def Inv.kIn(I:Inv X X4 σ H s):X.K.In s.heap:=I.ok.mod.kin.keeps I.bk
def Inv.lt(I:Inv X X4 σ H s):X.env.locals<(~~~s):=let ⟨_,hn,_⟩:=I.loc; hn.lt
def Inv.sz(I:Inv X X4 σ H s):X.s₀.heap.objs.size≤(~~~s):=ai8 I.ok.above<|ajr I.lt
def Inv.ais(I:Inv X X4 σ H s){a:jl}(h:( ~~~s)≤a):a∉X.fs:=λc=>by let⟨_,o,b,_⟩:=I.ok.jw.mem c;exact absurd (aji (aiO b)<|ai8 I.sz h)<|aj4 _
def Inv.cne(I:Inv X X4 σ H s):∀x c,X.env.cells.lookup x=some c->c≠X.env.locals:=fun x c e z=>by let⟨v,o,f,g⟩:=I.cell x c e;let⟨m,⟨o',es,ep,b,a,_⟩,_⟩:=I.loc;rw[z,b] at f;cases f;rw[a] at g;cases g
def Inv.jw(I:Inv X X4 σ H s):s.heap.FunFrames X.base X.outer:=by
 let all:∀(l:fy Env),(∀ b∈frs l,b∈X.fs)->X.s₀.heap.FunFrames X.base l->s.heap.FunFrames X.base l:=by
  intro l
  induction l with
  |nil=>intro _ _;trivial
  |cons env r i=>
   intro hs h;let⟨j,⟨L,o,f,hn,g,n⟩,m⟩:=h;let c:L∈X.fs:=hs L (by unfold frs;rw[alP,f];exact ajM);let⟨p,e⟩:=I.base.slot L o g (I.ok.frf L c) c λz=>I.ok.ue L z c
   exact{j,{L,_,f,hn,e,n},i (λb a=>hs b (by unfold frs;rw[alP,f];exact ai3 _ a)) m}
 exact all X.outer (λ_ a=>a) I.ok.jw
def Inv.stack(I:Inv X X4 σ H s):s.heap.FunFrames X.base X.stack:=by
 rcases I.ok.stk with e|⟨e,a⟩
 .rw[e];exact I.jw
 .rw[e];let⟨m,hn,_⟩:=I.loc;refine .cons (by rw[I.ok.kind];decide) a hn ?_ I.jw;exact Heap.get?_none_of_le<|ai8 I.ok.bsz I.ok.above
def Inv.AQ(I:Inv X X4 σ H s):∀ b∈frs X.stack,b∈X.env.locals::X.fs:=fun b hb=>by
 rcases I.ok.stk with e|⟨e,a⟩
 .grind
 .rw[e] at hb;unfold frs at hb;rwa[alP,a] at hb
def Inv.xZ(I:Inv X X4 σ H s):∀ b∈frs X.stack,H b=Z0:=λb a=>by
 rcases aiV.mp (I.AQ b a) with e|a
 .rw[e];exact I.free
 .let⟨_,o,c,_⟩:=I.ok.jw.mem a;exact I.base.free b o c (I.ok.frf b a) λz=>I.ok.ue b z a
def Inv.step{g':sA GenState}{t':Z5}{d':Drawn}{ch:fy jl}(I:Inv X X4 σ H s)(g:∀ b∈ch,(b∈X.ex∨X.s₀.heap.objs.size≤b)/\b≠X.env.locals/\(∀x c,X.env.cells.lookup x=some c->c≠b)/\∀ p∈X.pn++X4,p.1≠b)(keep:∀b o,b≠X.env.locals->b∉X.fs->b∉ch->s.heap.get? b=some o->H b=Z0->h'.get? b=some o)(y:∀b o,b≠X.env.locals->b∈X.fs->b∉ch->s.heap.get? b=some o->H b=Z0->∃sl,h'.get? b=some {o with slots:=sl})(free:∀b o,b∉ch->s.heap.get? b=some o->H b=Z0->H' b=Z0)(B:∀b o,b∉ch->s.heap.get? b=some o->∃o',h'.get? b=some o')(L:∀b xs,H b=some (.tup xs)->H' b=some (.tup xs))(qp:∀b o u,H b=some (.frz o u)->H' b=some (.frz o u))(qS:∀b ps,H b=some (.tbl ps)->∃more,H' b=some (.tbl (ps++more)))(ns:∀m,s.heap.Ns X.env.locals m->h'.Ns X.env.locals m)(S:HOk X.prog X.w H' h')(hg:AllBare g') :
  Inv X X4 σ H' {s with heap:=h',gens:=g',drawn:=d',toks:=t'}:=by
 let F:∀b o,X.s₀.heap.get? b=some o->b≠X.env.locals:=fun b o e=>ajq<|aji (aiO e) I.ok.above
 let j:∀b o,X.s₀.heap.get? b=some o->b∉X.ex->b∉ch:=λb o e a A=>by
  rcases(g b A).1 with z|z
  .exact a z
  .exact absurd (aji (aiO e) z) (aj4 _)
 let h:∀x c,X.env.cells.lookup x=some c->∀v,s.heap.IsCell c v->h'.IsCell c v:=λ x c e v ⟨o,C,U⟩=>by
  let f:c∉ch:=λz=>(g c z).2.2.1 x c e J
  by_cases hc:c∈X.fs
  .let⟨sl,q⟩:=y c o (I.cne x c e) hc f C<|I.ig x c e;exact{_,q,U}
  .exact{o,keep c o (I.cne x c e) hc f C<|I.ig x c e,U}
 refine{I.ok,I.os,hg,{λb o e n A a=>?_,λb o e n A a=>?_,λb o e n a=>?_,λb o e a=>?_,λb xs e=>L b xs<|I.base.tups b xs e,λb o xs e=>qp b o xs<|I.base.qp b o xs e,λb ps e=>?_},?_,λx c e=>?_,?_,λx c e=>?_,λp hp=>?_,S,I.len}
 .exact keep b o (F b o e) A (j b o e a) (I.base.keep b o e n A a) (I.base.free b o e n a)
 .let⟨sl,t⟩:=I.base.slot b o e n A a;let⟨Y,O⟩:=y b _ (F b o e) A (j b o e a) t<|I.base.free b o e n a;exact⟨Y,O⟩
 .let⟨o',t⟩:=I.base.there b o e a;exact free b o' (j b o e a) t<|I.base.free b o e n a
 .let⟨o',t⟩:=I.base.there b o e a;exact B b o' (j b o e a) t
 .let⟨m1,t⟩:=I.base.qS b ps e;let⟨m2,O⟩:=qS b _ t;exact{m1++m2,by rw[O,Array.append_assoc]}
 .let⟨m,hn,hl⟩:=I.loc;refine{m,ns m hn,λi x v t O e3=>?_};let⟨u,r,l⟩:=hl i x v t O e3;exists u,r;rcases l with l|⟨k,c,e,z⟩
  .exact .inl l
  .exact .inr {k,c,e,h x c e _ z}
 .let⟨v,z⟩:=I.cell x c e;exact{v,h x c e v z}
 .let⟨m,⟨o,_,_,C,_⟩,_⟩:=I.loc;exact free _ o (λz=>(g _ z).2.1 J) C I.free
 .let⟨v,o,C,U⟩:=I.cell x c e;exact free c o (λz=>(g c z).2.2.1 x c e J) C<|I.ig x c e
 .let⟨e,n,ne,nf,d⟩:=I.pin p hp;let f:p.1∉ch:=λz=>(g p.1 z).2.2.2 p hp J
  exact{keep p.1 p.2 ne nf f e n,free p.1 p.2 f e n,ne,nf,d}
def Inv.un{t':Z5}(I:Inv X X4 σ H s)(u:Un X.fs [] H H' s.heap h')(h:HOk X.prog X.w H' h'):Inv X X4 σ H' {s with heap:=h',toks:=t'}:=by
 let⟨m,⟨o,es,ep,i,r⟩,_⟩:=id I.loc;let⟨q,l⟩:=u.any i I.free o8;exact I.step (g':=s.gens) (d':=s.drawn) (ch:=[]) (λ_ z=>nomatch z) (λb o _ c _ e n=>u.keep b o e n c o8) (λb o _ c _ e n=>u.slot b o e n c o8) (λb o _ e n=>u.free b o e n o8) (λb o _ e=>u.there b o e o8) u.tups u.qp u.qS (λt j=>by let⟨o',g,f,a,p⟩:=j;rw[i] at a;cases a;exact{_,g,f,l,p}) h I.bare
def Inv.call{g':sA GenState}{t':Z5}{d':Drawn}{ch:fy jl}(I:Inv X X4 σ H s)(u:Un (frs X.stack) ch H H' s.heap h')(l:HOk X.prog X.w H' h')(y:AllBare g')(g:∀ b∈ch,(b∈X.ex∨X.s₀.heap.objs.size≤b)/\b≠X.env.locals/\(∀x c,X.env.cells.lookup x=some c->c≠b)/\∀ p∈X.pn++X4,p.1≠b) :
  Inv X X4 σ H' {s with heap:=h',gens:=g',drawn:=d',toks:=t'}:=by
 let⟨m,⟨o,es,ep,q,r⟩,_⟩:=id I.loc;let⟨B,h⟩:=u.any q I.free λz=>(g _ z).2.1 J
 exact I.step (ch:=ch) g (λb o h v a e n=>u.keep b o e n (λz=>(aiV.mp<|I.AQ b z).elim h v) a) (λb o _ _ a e n=>u.any e n a) (λb o a e n=>u.free b o e n a) (λb o a e=>u.there b o e a) u.tups u.qp u.qS (λC t=>by let⟨o',j,i,f,A⟩:=t;rw[q] at f;cases f;exact{_,j,i,h,A}) l y
def Inv.turned{t':Z5}{it:jl}(I:Inv X X4 σ H s)(k:∀b o,b≠it->s.heap.get? b=some o->h'.get? b=some o)(hn:H it=Z0)(i:it≠X.env.locals)(h1:it∈X.ex∨X.s₀.heap.objs.size≤it)(h2:∀x c,X.env.cells.lookup x=some c->c≠it)(h3:∀ p∈X.pn++X4,p.1≠it):Inv X X4 σ H {s with heap:=h',toks:=t'}:=by
 let f:∀b u,H b=some u->b≠it:=λb u e z=>by rw[z,hn] at e;cases e
 refine I.step (g':=s.gens) (d':=s.drawn) (ch:=[it]) (λb j=>?_) (λb o _ _ a e _=>k b o (λz=>a (by simp[z])) e) (λb o _ _ a e _=>{o.slots,k b o (λz=>a (by simp[z])) e}) (λ_ _ _ _ n=>n)
  (λb o a e=>{o,k b o (λz=>a (by simp[z])) e}) (λ_ _ e=>e) (λ_ _ _ e=>e) (λb ps e=>{#[],by rw[e];simp}) (λm g=>?_) (λb u e=>?_) I.bare
 .grind
 .let⟨o,es,ep,h,r⟩:=g;exact{o,es,ep,k _ o (ajH i) h,r}
 .refine(I.hok b u e).stay (λc v a q=>k c v ?_ q) (λ_ q=>q) λ_ _ q=>q
  rcases a with z|z
  .grind
  .exact f c _ z
def Inv.tok(I:Inv X X4 σ H s)(t:Z5):Inv X X4 σ H {s with toks:=t}:=I.un (h':=s.heap) (t':=t) Un.refl I.hok
def Inv.kept{t':Z5}(I:Inv X X4 σ H s)(k:∀b u,s.heap.get? b=some u->h'.get? b=some u):Inv X X4 σ H {s with heap:=h',toks:=t'}:=I.un (Un.kept k)<|I.hok.kept k
def Inv.laid{a:jl}{o:HO}{t':Z5}(I:Inv X X4 σ H s)(k:∀b u,s.heap.get? b=some u->h'.get? b=some u)(c:( ~~~s)≤a)(new:bK X.prog X.w (Z9 H a o) h' a o) :
  Inv X X4 σ (Z9 H a o) {s with heap:=h',toks:=t'}:=I.un (Un.laid k c<|I.hok.fresh c)<|I.hok.laid k c new
def Inv.write{x e:jl}{o:HO}{t':Z5}(I:Inv X X4 σ H s)(c:Mut (H x))(f:e=x∨H e=some (.own x))(k:∀b u,b≠e->s.heap.get? b=some u->h'.get? b=some u)(a:∃u,h'.get? e=some u)(new:bK X.prog X.w (Z9 H x o) h' x o):Inv X X4 σ (Z9 H x o) {s with heap:=h',toks:=t'}:=I.un (Un.write c f k a)<|I.hok.write c f k a new
def Inv.CF{a:fy (jl×Obj)}(I:Inv X X4 σ H s)(h:∀ p∈a,s.heap.get? p.1=some p.2/\H p.1=Z0/\p.1≠X.env.locals/\p.1∉X.fs/\∀v,p.2.data≠.cell v):Inv X a σ H s:=
 {I.ok,I.os,I.bare,I.base,I.loc,I.cell,I.free,I.ig,λp b=>(aiX.mp b).elim (λz=>I.pin p<|ajZ _ z)<|h p,I.hok,I.len}
def AD{N:fy Z6}(e:N.Nodup){i j:Z5}{x:Z6}(a:N[i]?=some x)(b:N[j]?=some x):i=j:=by let⟨h1,c⟩:=aiH.mp a;let⟨h2,f⟩:=aiH.mp b;exact(List.getElem_inj e).mp (c.trans f.symm)
def yJ{M:Model}{A:Around}{E:mu->q8->Z3}{i:Z5}{x:Z6}{v:V}{u:mu}{Q:Unit->q8->Z3}(I:Inv X X4 σ H s)(hN:X.N.Nodup)(hi:X.N[i]?=some x)(l:Loc X.env.scope x)(r:RelV v u)(h:∀s',Inv X X4 (σ.set i (some v)) H s'->(∃a,Heap.SameBut a s.heap s'.heap/\(a=X.env.locals∨X.env.cells.lookup x=some a))->Q () s')(hf:X.fn x=Z1∨X.env.scope.names.lookup x=some .local:=by first|exact .inl rfl|exact .inr rfl|assumption):wpAny M A (storeName X.env x u) Q E s:=by
 let⟨m,hn,hl⟩:=id I.loc;let a0:(X.env.scope.kind==.class||(X.env.scope.kind==.module&&X.env.locals != X.env.globals))=Z2:=by rw[I.ok.kind]; rfl
 let C:i<σ.length:=by rw[I.len];exact(aiH.mp hi).1
 let cne:=I.cne;let g:∀{a:jl}{h':Heap},(∃o,s.heap.get? a=some o/\H a=Z0)->Heap.SameBut a s.heap h'->HOk X.prog X.w H h':=λ{a h'}ha hs b ob e=>by
  let⟨_,_,a4⟩:=ha;refine(I.hok b ob e).stay (λc w' t q=>(hs.2 c ?_).trans q) (λ_ q=>q) λ_ _ q=>q
  rintro rfl;rcases t with rfl|t
  .grind
  .grind
 rcases l with S|S
 .refine wpAny_storeName_local S hn (λh' a1 hs=>?_) a0;let⟨oL,_,_,a3,_⟩:=id hn;refine h _ {I.ok,I.os,I.bare,{λb o e n F l=>?_,λb o e n F l=>?_,I.base.free,λb o e l=>?_,I.base.tups,I.base.qp,I.base.qS},{_,a1,λj y v' f B e3=>?_},λy c e=>?_,I.free,I.ig,λp hp=>?_,g ⟨oL,a3,I.free⟩ hs,⇑I.len} {_,hs,.inl J}
  .exact(hs.2 b<|ajq<|aji (aiO e) I.ok.above).trans (I.base.keep b o e n F l)
  .let⟨sl,f⟩:=I.base.slot b o e n F l;exact{sl,(hs.2 b<|ajq<|aji (aiO e) I.ok.above).trans f}
  .let⟨o',f⟩:=I.base.there b o e l;exact{o',(hs.2 b<|ajq<|aji (aiO e) I.ok.above).trans f}
  .by_cases O:j=i
   .subst O;rw[hi] at f;cases f;rw[amE C] at B;cases B;exact{u,r,.inl ⟨S,o8⟩}
   .rw[amW<|ajH O] at B;let⟨u',r',q⟩:=hl j y v' f B e3;exists u',r';rcases q with⟨k,e⟩|⟨k,c,e,z⟩
    .refine .inl {k,?_};let:y≠x:=λe=>O (AD hN f<|e ▸ hi)
     simp[this,e]
    .exact .inr {k,c,e,z.sameBut hs<|cne y c e}
  .let⟨w',z⟩:=I.cell y c e;exact{w',z.sameBut hs<|cne y c e}
  .let⟨e,n,ne,nf,d⟩:=I.pin p hp;exact{(hs.2 p.1 ne).trans e,n,ne,nf,d}
 .let L:X.fn x=Z1:=by grind
  let⟨c,t⟩:=I.ok.has x<|.inl S;let⟨w',z⟩:=I.cell x c t;refine wpAny_storeName_cell I.ok.kind S t z λh' a2 hs=>?_;let⟨oc,Y,U⟩:=id z;refine h {s with heap:=h'} {I.ok,I.os,I.bare,{λb o e n F l=>?_,λb o e n F l=>?_,I.base.free,λb o e l=>?_,I.base.tups,I.base.qp,I.base.qS},{m,hn.sameBut hs<|ajH<|cne x c t,λj y v' f B e3=>?_},λy c' e=>?_,I.free,I.ig,λp hp=>?_,g {oc,Y,I.ig x c t} hs,⇑I.len} {c,hs,.inr t}
  .exact(hs.2 b<|ajq<|aji (aiO e)<|I.ok.cab x c L t).trans (I.base.keep b o e n F l)
  .let⟨sl,f⟩:=I.base.slot b o e n F l;exact{sl,(hs.2 b<|ajq<|aji (aiO e)<|I.ok.cab x c L t).trans f}
  .let⟨o',f⟩:=I.base.there b o e l;exact{o',(hs.2 b<|ajq<|aji (aiO e)<|I.ok.cab x c L t).trans f}
  .by_cases O:j=i
   .subst O;rw[hi] at f;cases f;rw[amE C] at B;cases B;exact{u,r,.inr {.inl S,c,t,a2}}
   .rw[amW<|ajH O] at B;let⟨u',r',q⟩:=hl j y v' f B e3;exists u',r';rcases q with q|⟨k,c',e,z'⟩
    .exact .inl q
    .refine .inr {k,c',e,z'.sameBut hs ?_};rintro rfl;exact O<|AD hN f<|I.ok.inj _ _ _ e t ▸ hi
  .by_cases a5:c'=c
   .grind
   .let⟨w2,z2⟩:=I.cell y c' e;exact{w2,z2.sameBut hs a5}
  .let⟨e,n,ne,nf,d⟩:=I.pin p hp;refine{(hs.2 p.1 ?_).trans e,n,ne,nf,d};intro q;rw[q,Y] at e;let q':oc=p.2:=aiY e;exact d w' (by rwa[←q'])
def A3{M:Model}{A:Around}{E:mu->q8->Z3}{i:Z5}{x:Z6}{v:V}{u:mu}{Q:Unit->q8->Z3}(I:Inv X X4 σ H s)(b:X.N.Nodup)(hi:X.N[i]?=some x)(e:Loc X.env.scope x)(r:RelV v u)(h:∀s',Inv X X4 (σ.set i (some v)) H s'->Q () s')(c:X.fn x=Z1∨X.env.scope.names.lookup x=some .local:=by first|exact .inl rfl|exact .inr rfl|assumption):wpAny M A (storeName X.env x u) Q E s:=
 yJ I b hi e r (λs' a _=>h s' a) c
def Inv.Eg{s':q8}{ch:fy jl}(I:Inv X X4 σ H s)(g:s'.os=s.os)(u:Un (frs X.stack) ch H H' s.heap s'.heap)(f:HOk X.prog X.w H' s'.heap)(h:AllBare s'.gens)(a:∀ b∈ch,(b∈X.ex∨X.s₀.heap.objs.size≤b)/\b≠X.env.locals/\(∀x c,X.env.cells.lookup x=some c->c≠b)/\∀ p∈X.pn++X4,p.1≠b):Inv X X4 σ H' s':=by let⟨h',g',d',t',o'⟩:=s';let e:o'=s.os:=g;subst e;exact I.call (g':=g') (t':=t') (d':=d') u f h a
end
abbrev XK:=mu->nt jl->Hp->Z3
abbrev St:=fy<|nt V
abbrev VK:=V->Hp->Z3
abbrev TE:=St->Hp->VK->Z3
abbrev TT:=St->Hp->(Bool->Hp->Z3)->Z3
abbrev TA:=St->Hp->(fy V->Hp->Z3)->Z3
structure Ends where
 nx:St->Hp->Z3
 rt:VK
 bk:St->Hp->Z3:=λ_ _=>False
 ct:St->Hp->Z3:=λ_ _=>False
abbrev TS:=Ends->St->Hp->Z3
inductive EP(X:Cx)(X4:fy (jl×Obj))(σ:St)(Q:VK)(u:mu)(s':q8):Z3
 |m v H'(_:Inv X X4 σ H' s')(_:RelV v u)(_:Q v H')
def TP(X:Cx)(X4:fy (jl×Obj))(σ:St)(Q:Bool->Hp->Z3)(b:Bool)(s':q8):Z3:=∃H',Inv X X4 σ H' s'/\Q b H'
inductive AP(X:Cx)(X4:fy (jl×Obj))(σ:St)(Q:fy V->Hp->Z3)(us:fy mu)(s':q8):Z3
 |m vs H'(_:Inv X X4 σ H' s')(_:Vals vs us)(_:Q vs H')
def SP(X:Cx)(X4:fy (jl×Obj))(D:Ends)(f:Flow)(s':q8):Z3:=
 match f with
 |.next=>∃σ' H',Inv X X4 σ' H' s'/\D.nx σ' H'
 |.brk=>∃σ' H',Inv X X4 σ' H' s'/\D.bk σ' H'
 |.cont=>∃σ' H',Inv X X4 σ' H' s'/\D.ct σ' H'
 |.ret u=>∃v σ' H',Inv X X4 σ' H' s'/\RelV v u/\D.rt v H'
def PE(X:Cx)(e:Expr)(t:TE):Z3:=
 ∀(X4:fy (jl×Obj))(s:q8)(σ:St)(H:Hp)(Q:VK),Inv X X4 σ H s->t σ H Q->wpAny (model X.prog X.w) X.A (eval e X.env) (EP X X4 σ Q) X.xe s
def PT(X:Cx)(e:Expr)(t:TT):Z3:=
 ∀(X4:fy (jl×Obj))(s:q8)(σ:St)(H:Hp)(Q:Bool->Hp->Z3),Inv X X4 σ H s->t σ H Q->wpAny (model X.prog X.w) X.A (isTrue e X.env<|eval e X.env) (TP X X4 σ Q) X.xe s
def PW(X:Cx)(e:Expr)(t:TT):Z3:=
 ∀(whole:Sem mu)(X4:fy (jl×Obj))(s:q8)(σ:St)(H:Hp)(Q:Bool->Hp->Z3),Inv X X4 σ H s->t σ H Q->wpAny (model X.prog X.w) X.A (isTrue e X.env whole) (TP X X4 σ Q) X.xe s
def PW.pt{X:Cx}{e:Expr}{t:TT}(h:PW X e t):PT X e t:=h _
def PA(X:Cx)(es:fy Expr)(t:TA):Z3:=
 ∀(pos:Pos)(X4:fy (jl×Obj))(s:q8)(σ:St)(H:Hp)(Q:fy V->Hp->Z3),Inv X X4 σ H s->t σ H Q->wpAny (model X.prog X.w) X.A (spliced<|backTo pos<|starEach es X.env) (AP X X4 σ Q) X.xe s
def PS(X:Cx)(st:Stmt)(t:TS):Z3:=
 ∀(X4:fy (jl×Obj))(s:q8)(σ:St)(H:Hp)(D:Ends),Inv X X4 σ H s->t D σ H->wpAny (model X.prog X.w) X.A (exec st X.env) (SP X X4 D) X.xe s
def PSs(X:Cx)(st:fy Stmt)(t:TS):Z3:=
 ∀(X4:fy (jl×Obj))(s:q8)(σ:St)(H:Hp)(D:Ends),Inv X X4 σ H s->t D σ H->wpAny (model X.prog X.w) X.A (execs st X.env) (SP X X4 D) X.xe s
def thn{α:Type}{t:Sem α}{Q b:α->q8->Z3}{M:Model}{A:Around}{E:mu->q8->Z3}{s:q8}(h:wpAny M A t Q E s)(c:∀a s,Q a s->b a s):wpAny M A t b E s:=ajy h c λ_ _ x=>x
section
variable{X:Cx}
inductive Ir(i:Z5)(σ:St)(H:Hp)(Q:VK):Z3
 |m v(_:σ[i]?=some (some v))(_:Q v H)
def tC(v:V):TE:=λ_ H Q=>Q v H
def Uv{i:Z5}{x:Z6}{pos:Pos}(p:X.N[i]?=some x)(q:Vis X.env.scope x)(g:(x ==("__debug__":Str))=Z2:=by decide)(f:(x ==("__classdict__":Str))=Z2:=by decide):PE X (.Name x pos) (Ir i):=by
 intro X4 s σ H Q I h;let⟨v,e,h⟩:=h;let⟨m,hn,o⟩:=I.loc;let⟨u,r,l⟩:=o i x v p e q;let fin:EP X X4 σ Q u s:=⟨v,H,I,r,h⟩;rcases l with⟨b,n⟩|⟨b,c,j,a⟩
 .exact wpAny_Name (wpAny_loadName_local I.ok.kind b hn n fin) g
 .rcases b with b|b
  .exact wpAny_Name (wpAny_loadName_cell I.ok.kind b j a fin) g
  .exact wpAny_Name (wpAny_loadName_free I.ok.kind b j a fin f) g
def au{i j pos}:PE X (.Constant (.int i) j pos) (tC (.int i)):=λ_ _ _ H _ I h=>wpAny_Constant_int {.int i,H,I.tok _,{1},h}
def nh{b j pos}:PE X (.Constant (.bool b) j pos) (tC (.bl b)):=λ_ _ _ H _ I h=>Constant_bool {.bl b,H,I,J,h}
def dO{j pos}:PE X (.Constant .none j pos) (tC .non):=λ_ _ _ H _ I h=>Constant_none {.non,H,I,J,h}
def aN{x j pos}:PE X (.Constant (.str x) j pos) (tC (.str x)):=λ_ _ _ H _ I h=>Calls.Constant_str {.str x,H,I.tok _,{1},h}
def Gl(X:Cx)(x:Z6):Z3:=X.env.kindOf x=some .globalImplicit
def oO{E:mu->q8->Z3}{X4:fy (jl×Obj)}{s:q8}{σ:St}{H:Hp}{x:Z6}{u:mu}{pos:Pos}{Q:mu->q8->Z3}(I:Inv X X4 σ H s)(c:Gl X x)(a:X.mg x=some u)(h:Q u s)(b:(x ==("__debug__":Str))=Z2:=by decide):wpAny (model X.prog X.w) X.A (eval (.Name x pos) X.env) Q E s:=
 al1 I.ok.kind c (Calls.loadGlobal_global (by rw[I.ok.glob];exact I.mod.glob.keeps I.bk) a h) b
def gO{E:mu->q8->Z3}{X4:fy (jl×Obj)}{s:q8}{σ:St}{H:Hp}{x:Z6}{u:mu}{pos:Pos}{Q:mu->q8->Z3}(I:Inv X X4 σ H s)(b:Gl X x)(a:X.mg x=Z0)(e:bootBuiltins x=some u)(h:Q u s)(hn:x≠"__name__":=by decide)(c:(x ==("__debug__":Str))=Z2:=by decide):wpAny (model X.prog X.w) X.A (eval (.Name x pos) X.env) Q E s:=by let⟨f,h1,h2⟩:=I.mod.blt;exact al1 I.ok.kind b (Calls.loadGlobal_builtin (by rw[I.ok.glob];exact I.mod.glob.keeps I.bk) a (by rw[I.ok.blt];exact h1.keeps I.bk) ((h2 x hn).trans e) h) c
def eL{x:Z6}{v:V}{u:mu}{pos:Pos}(c:Gl X x)(a:X.mg x=some u)(r:RelV v u)(b:(x ==("__debug__":Str))=Z2:=by decide):PE X (.Name x pos) (tC v):=
 λ_ _ _ H _ I h=>oO I c a ⟨v,H,I,r,h⟩ b
def Qe{x:Z6}{v:V}{u:mu}{pos:Pos}(e:Gl X x)(a:X.mg x=Z0)(c:bootBuiltins x=some u)(r:RelV v u)(hn:x≠"__name__":=by decide)(b:(x ==("__debug__":Str))=Z2:=by decide):PE X (.Name x pos) (tC v):=
 λ_ _ _ H _ I h=>gO I e a c ⟨v,H,I,r,h⟩ hn b
variable{a b:Expr}{ta tb:TE}{pos:Pos}
def PC(X:Cx)(op:CmpOp)(a b:Expr)(t:TE):Z3:=
 ∀(X4:fy (jl×Obj))(s:q8)(σ:St)(H:Hp)(Q:VK),Inv X X4 σ H s->t σ H Q →
  wpAny (model X.prog X.w) X.A (eval a X.env) (λv c=>wpAny (model X.prog X.w) X.A (eval b X.env) (λu e=>wpAny (model X.prog X.w) X.A (compareOp op v u) (EP X X4 σ Q) X.xe e) X.xe c) X.xe s
def zC(b:Expr){op:CmpOp}(h:op≠.In)(h2:op≠.NotIn):behindInMarks op b=Z2:=by
 let a:(op==CmpOp.In)=Z2:=by grind
 let c:(op==CmpOp.NotIn)=Z2:=by grind
 cases b <;> simp[behindInMarks,a,c]
inductive Vm(Q:Bool->Hp->Z3)(x:V)(H1:Hp):Z3
 |m c(_:x=.bl c)(_:Q c H1)
def tB(t:TE):TT:=λσ H Q=>t σ H λx H1=>Vm Q x H1
def Yl{op:CmpOp}{t:TE}(h:PC X op a b t)(h1:behindInMarks op b=Z2:=by first|exact zC _ o7 o7|rfl):PE X (.Compare a [op] [b] pos) t:=λX4 s σ H Q I c=>wpAny_Compare1 (h X4 s σ H Q I c) h1
def acd{op:CmpOp}{t:TE}(h:PC X op a b t)(h1:behindInMarks op b=Z2:=by first|exact zC _ o7 o7|rfl):PT X (.Compare a [op] [b] pos) (tB t):=by intro X4 s σ H Q I e;refine wpAny_isTrue_Compare1 (thn (h X4 s σ H _ I e) λv s1 h1=>thn h1 λu s2 h2=>thn h2 λ c s3 ⟨x,H1,I1,r1,q1⟩=>?_) h1;let⟨d,rfl,q⟩:=q1;cases r1;exact aj2 ⟨H1,I1,q⟩
def oV{e:Expr}{t:TE}(h:PE X e t)(b:∀whole,isTrue e X.env whole =(do let v ←whole;standAt e.pos;holding [v] (truthy v)):=by intro _;rfl):PT X e (tB t):=by intro X4 s σ H Q I a;refine isTrue_plain (thn (h X4 s σ H _ I a) λ v s1 ⟨x,H1,I1,r1,q1⟩=>?_)<|b _;let⟨d,rfl,q⟩:=q1;cases r1;exact aj2 ⟨H1,I1,q⟩
variable{tA tB':TT}{rest:fy Expr}
def aim(t u:TT):TT:=λσ H Q=>t σ H λc H1=>if c=Z1 then u σ H1 Q else Q Z2 H1
def tOr(t u:TT):TT:=λσ H Q=>t σ H λc H1=>if c=Z1 then Q Z1 H1 else u σ H1 Q
def ahh(t:TT):TT:=λσ H Q=>t σ H λc H1=>Q (!c) H1
def pw_and1(b:PT X a tA):PW X (.BoolOp .And [a] pos) tA:=by
 intro f X4 s σ H Q I h;refine isTrue_and (thn (b X4 s σ H Q I h) λc s1 e=>?_);cases c with
 |true=>exact isTrue_and_nil e
 |false=>exact e
def pw_or1(b:PT X a tA):PW X (.BoolOp .Or [a] pos) tA:=by
 intro f X4 s σ H Q I h;refine isTrue_or (thn (b X4 s σ H Q I h) λc s1 e=>?_);cases c with
 |false=>exact isTrue_or_nil e
 |true=>exact e
def pw_and(f:PT X a tA)(e:PW X (.BoolOp .And (b::rest) pos) tB'):PW X (.BoolOp .And (a::b::rest) pos) (aim tA tB'):=by
 intro g X4 s σ H Q I h;refine isTrue_and (thn (f X4 s σ H _ I h) λ c s1 ⟨H1,I1,q1⟩=>?_);cases c with
 |true=>exact e g X4 s1 σ H1 Q I1 q1
 |false=>exact⟨H1,I1,q1⟩
def pw_or(f:PT X a tA)(e:PW X (.BoolOp .Or (b::rest) pos) tB'):PW X (.BoolOp .Or (a::b::rest) pos) (tOr tA tB'):=by
 intro g X4 s σ H Q I h;refine isTrue_or (thn (f X4 s σ H _ I h) λ c s1 ⟨H1,I1,q1⟩=>?_);cases c with
 |true=>exact⟨H1,I1,q1⟩
 |false=>exact e g X4 s1 σ H1 Q I1 q1
def mX(b:PT X a tA):PT X (.UnaryOp .Not a pos) (ahh tA):=by intro X4 s σ H Q I h;exact isTrue_not<|b X4 s σ H (λc H1=>Q (!c) H1) I h
inductive Cb(tb:TE)(σ:St)(Q:VK)(x:V)(H1:Hp):Z3
 |m c(_:x=.bl c)(_:if c=Z1 then tb σ H1 Q else Q (.bl Z2) H1)
def ae2(ta tb:TE):TE:=λσ H Q=>ta σ H λx H1=>Cb tb σ Q x H1
inductive F3(tb:TE)(σ:St)(Q:VK)(x:V)(H1:Hp):Z3
 |m c(_:x=.bl c)(_:if c=Z1 then Q (.bl Z1) H1 else tb σ H1 Q)
def ahG(ta tb:TE):TE:=λσ H Q=>ta σ H λx H1=>F3 tb σ Q x H1
def sG{op}{t:TE}(h:PE X a t):PE X (.BoolOp op [a] pos) t:=λX4 s σ H Q I b=>BoolOp_one<|h X4 s σ H Q I b
def wR(f:PE X a ta)(e:PE X (.BoolOp .And (b::rest) pos) tb):PE X (.BoolOp .And (a::b::rest) pos) (ae2 ta tb):=by
 intro X4 s σ H Q I h;refine BoolOp_and (thn (f X4 s σ H _ I h) λ v s1 ⟨x,H1,I1,r1,q1⟩=>?_);let⟨c,rfl,q1⟩:=q1;cases r1;refine aj2 ?_;cases c with
 |true=>exact e X4 s1 σ H1 Q I1 q1
 |false=>exact{.bl Z2,H1,I1,J,q1}
def adD(f:PE X a ta)(e:PE X (.BoolOp .Or (b::rest) pos) tb):PE X (.BoolOp .Or (a::b::rest) pos) (ahG ta tb):=by
 intro X4 s σ H Q I h;refine BoolOp_or (thn (f X4 s σ H _ I h) λ v s1 ⟨x,H1,I1,r1,q1⟩=>?_);let⟨c,rfl,q1⟩:=q1;cases r1;refine aj2 ?_;cases c with
 |false=>exact e X4 s1 σ H1 Q I1 q1
 |true=>exact{.bl Z1,H1,I1,J,q1}
def tIf(t:TT)(ta tb:TE):TE:=λσ H Q=>t σ H λc H1=>if c=Z1 then ta σ H1 Q else tb σ H1 Q
def uQ{c:Expr}(f:PT X c tA)(g:PE X a ta)(e:PE X b tb):PE X (.IfExp c a b pos) (tIf tA ta tb):=by
 intro X4 s σ H Q I h;refine wpAny_IfExp (thn (f X4 s σ H _ I h) λ d s1 ⟨H1,I1,q1⟩=>?_);cases d with
 |true=>exact g X4 s1 σ H1 Q I1 q1
 |false=>exact e X4 s1 σ H1 Q I1 q1
end
def X0(K:Frag)(H:Hp)(a:jl)(xs:fy V):Z3:=
 Rd H a (.lst xs)∨
  ∃(o:Obj)(C5:sA mu)(n:Z5),K.lookup a=some o/\o.cls=.type "list"/\o.dict=Z0/\o.data=.seq C5 n/\C5.size≤Z7/\Vals xs C5.toList
def X3(K:Frag)(H:Hp)(a:jl)(xs:fy V):Z3:=
 Rd H a (.tup xs)∨
  ∃(o:Obj)(C5:sA mu)(n:Z5),K.lookup a=some o/\o.cls=.type "tuple"/\o.data=.seq C5 n/\C5.size≤Z7/\Vals xs C5.toList
def DY:mu->nt V
 |.none=>some .non
 |.bool b=>some<|.bl b
 |.int i _=>some<|.int i
 |.str x _=>some<|.str x
 |.bytes b _=>some<|.byt b
 |.float b _=>some<|.flt b
 |.ref a=>some<|.ref a
 |.type n=>some<|.ty n
 |_=>Z0
def RelV.abs{x:V}{u:mu}(r:RelV x u):DY u=some x:=by
 cases x with
 |non=>cases r;rfl
 |bl _=>cases r;rfl
 |int _=>let⟨t,rfl⟩:=r;rfl
 |str _=>let⟨t,rfl⟩:=r;rfl
 |byt _=>let⟨t,rfl⟩:=r;rfl
 |flt _=>let⟨t,rfl⟩:=r;rfl
 |ref _=>cases r;rfl
 |ty _=>cases r;rfl
def RelV.inj{x y:V}{u:mu}(r:RelV x u)(q:RelV y u):x=y:=aiY<|r.abs.symm.trans q.abs
def Vals.inj:∀{xs ys:fy V}{us:fy mu},Vals xs us->Vals ys us->xs=ys
 |_,_,_,.nil,.nil=>rfl
 |_,_,_,.cons r t,.cons r' t'=>by rw[r.inj r',Vals.inj t t']
section
variable{X:Cx}{X4:fy (jl×Obj)}{σ:St}{H:Hp}{s:q8}{a:jl}{xs ys:fy V}
def X0.of{K:Frag}(h:H a=some (.lst xs)):X0 K H a xs:=.inl<|.inl h
def X3.of{K:Frag}(h:H a=some (.tup xs)):X3 K H a xs:=.inl<|.inl h
def Inv.list(I:Inv X X4 σ H s)(h:X0 X.K H a xs):∃C5:fy mu,Vals xs C5/\PlainL s.heap a C5.toArray/\xs.length≤Z7:=by
 rcases h with h|⟨o,C5,n,f,b,c,hs,g,r⟩
 .let⟨z,C5,n,r,e⟩:=h.ok I.hok;exact{C5,r,{_,n,e,J,J,J},z}
 .exists C5.toList,r,{o,n,I.kIn a o f,b,c,⇑hs};let e:=r.length;simp only[Array.length_toList] at e;omega
def Inv.tuple(I:Inv X X4 σ H s)(h:X3 X.K H a xs):∃C5:fy mu,Vals xs C5/\IsTup s.heap a C5.toArray/\xs.length≤Z7:=by
 rcases h with h|⟨o,C5,n,c,b,hs,f,r⟩
 .let⟨z,C5,r,p⟩:=h.ok I.hok;exact⟨C5,r,p,z⟩
 .exists C5.toList,r,{o,I.kIn a o c,b,n,⇑hs};let e:=r.length;simp only[Array.length_toList] at e;omega
def Inv.uz(I:Inv X X4 σ H s)(h:X0 X.K H a xs)(h':X0 X.K H a ys):xs=ys:=by
 let⟨C5,r,⟨o,n,e,_,_,d⟩,_⟩:=I.list h;let⟨its',c,⟨o',f,b,_,_,d'⟩,_⟩:=I.list h';rw[e] at b;cases b;rw[d] at d';injection d' with d1 _
 let:C5=its':=by grind
 subst this;exact r.inj c
def Inv.yW(I:Inv X X4 σ H s)(h:X3 X.K H a xs)(h':X3 X.K H a ys):xs=ys:=by
 let⟨C5,r,⟨o,e,_,n,d⟩,_⟩:=I.tuple h;let⟨its',c,⟨o',b,_,f,d'⟩,_⟩:=I.tuple h';rw[e] at b;cases b;rw[d] at d';injection d' with d1 _
 let:C5=its':=by grind
 subst this;exact r.inj c
end
abbrev Cx.pU(X:Cx)(E:mu->q8->Z3):Cx:={X with xe:=E}
abbrev Cx.nox(X:Cx):Cx:=X.pU λ_ _=>False
def Cx.Ok.pU{X:Cx}(ok:X.Ok)(E:mu->q8->Z3):(X.pU E).Ok:=
 ⟨ok.mod,ok.kind,ok.glob,ok.blt,ok.above,ok.inj,ok.has,ok.cab,ok.hd,ok.frames,ok.stk,ok.exf,ok.bs,ok.bsz,ok.uH,ok.ue,ok.jw,ok.frf⟩
def Cx.Ok.zS{X:Cx}{E:mu->q8->Z3}(ok:(X.pU E).Ok):X.Ok:=
 ⟨ok.mod,ok.kind,ok.glob,ok.blt,ok.above,ok.inj,ok.has,ok.cab,ok.hd,ok.frames,ok.stk,ok.exf,ok.bs,ok.bsz,ok.uH,ok.ue,ok.jw,ok.frf⟩
section
variable{X:Cx}{X4:fy (jl×Obj)}{σ:St}{H:Hp}{s:q8}{E:mu->q8->Z3}
def Inv.pU(I:Inv X X4 σ H s)(E:mu->q8->Z3):Inv (X.pU E) X4 σ H s:={I.ok.pU E,I.os,I.bare,I.base,I.loc,I.cell,I.free,I.ig,I.pin,I.hok,I.len}
def Inv.zS(I:Inv (X.pU E) X4 σ H s):Inv X X4 σ H s:=⟨I.ok.zS,I.os,I.bare,I.base,I.loc,I.cell,I.free,I.ig,I.pin,I.hok,I.len⟩
end
section
variable{X:Cx}{st:Stmt}{rest:fy Stmt}{t u:TS}{e:Expr}{te:TE}{pos:Pos}
def qk:TS:=λD σ H=>D.nx σ H
def nV(t u:TS):TS:=λD σ H=>t {D with nx:=u D} σ H
def aP:PSs X [] qk:=λ_ _ σ H _ I h=>akX ⟨σ,H,I,h⟩
def ai(h1:PS X st t)(h2:PSs X rest u):PSs X (st::rest) (nV t u):=by
 intro X4 s σ H D I h;refine wpAny_execs_cons (thn (h1 X4 s σ H {D with nx:=u D} I h) λf s1 q=>?_);cases f with
 |next=>let⟨σ',H',a,q⟩:=q;exact h2 X4 s1 σ' H' D a q
 |ret v=>exact q
 |brk=>exact q
 |cont=>exact q
def aq(h1:PS X st t):PSs X [st] t:=by
 intro X4 s σ H D I h;refine wpAny_execs_cons (thn (h1 X4 s σ H D I h) λf s1 q=>?_);cases f with
 |next=>exact akX q
 |ret v=>exact q
 |brk=>exact q
 |cont=>exact q
def Inv.quiet{X4:fy (jl×Obj)}{σ:St}{H:Hp}{s:q8}(I:Inv X X4 σ H s):interactive X.env=Z2:=by simp[interactive,I.ok.kind]
def afU(te:TE):TS:=λD σ H=>te σ H λ_ H1=>D.nx σ H1
def aY(a:PE X e te)(hs:swapsWith e Z0 pos.line X.env=pure Z2:=by rfl):PS X (.Expr e pos) (afU te):=by intro X4 s σ H D I h;exact wpAny_Expr_any (thn (a X4 s σ H _ I h) λ v s1 ⟨x,H1,I1,r1,q1⟩=>⟨σ,H1,I1,q1⟩) I.quiet hs
def aik(te:TE):TS:=λD σ H=>te σ H D.rt
def aJ(a:PE X e te):PS X (.Return (some e) pos) (aik te):=by intro X4 s σ H D I h;exact wpAny_Return_some (thn (a X4 s σ H _ I h) λ v s1 ⟨x,H1,I1,r1,q1⟩=>⟨x,σ,H1,I1,r1,q1⟩)
def vc(c:TT)(t u:TS):TS:=λD σ H=>c σ H λb H1=>if b=Z1 then t D σ H1 else u D σ H1
def aV{c:Expr}{a b:fy Stmt}{tc:TT}(f:PT X c tc)(g:PSs X a t)(e:PSs X b u):PS X (.If c a b pos) (vc tc t u):=by
 intro X4 s σ H D I h;refine wpAny_If (thn (f X4 s σ H _ I h) λ d s1 ⟨H1,I1,q1⟩=>?_);cases d with
 |true=>exact g X4 s1 σ H1 D I1 q1
 |false=>exact e X4 s1 σ H1 D I1 q1
def Vc:TS:=λ_ _ _=>False
def cA:PS X st Vc:=λ_ _ _ _ _ _ h=>h.elim
end
abbrev TG:=V->St->Hp->(St->Hp->Z3)->Z3
abbrev TGs:=fy V->St->Hp->(St->Hp->Z3)->Z3
def PG(X:Cx)(a:Expr)(t:TG):Z3:=
 ∀(X4:fy (jl×Obj))(s:q8)(σ:St)(H:Hp)(v:V)(u:mu)(Q:St->Hp->Z3),Inv X X4 σ H s->RelV v u->t v σ H Q →
  wpAny (model X.prog X.w) X.A (assign a X.env u) (λ_ s'=>∃σ' H',Inv X X4 σ' H' s'/\Q σ' H') X.xe s
def PGs(X:Cx)(ts:fy Expr)(t:TGs):Z3:=
 ∀(X4:fy (jl×Obj))(s:q8)(σ:St)(H:Hp)(vs:fy V)(us:fy mu)(Q:St->Hp->Z3),Inv X X4 σ H s->Vals vs us->t vs σ H Q →
  wpAny (model X.prog X.w) X.A (assignInOrder ((assignEach ts X.env).map (·.2)) us) (λ_ s'=>∃σ' H',Inv X X4 σ' H' s'/\Q σ' H') X.xe s
abbrev GX:=V->V->V->Hp->(Hp->Z3)->Z3
def SO(X:Cx)(t:GX):Z3:=
 ∀(X4:fy (jl×Obj))(s:q8)(σ:St)(H:Hp)(o i v:V)(b a u:mu)(Q:Hp->Z3),Inv X X4 σ H s->RelV o b->RelV i a->RelV v u->t o i v H Q →
  wpAny (model X.prog X.w) X.A (setItem b a u) (λ_ s'=>∃H',Inv X X4 σ H' s'/\Q H') X.xe s
section
variable{X:Cx}{pos:Pos}
def nk(i:Z5):TG:=λv σ H Q=>Q (σ.set i<|some v) H
def Qm{i:Z5}{x:Z6}(b:X.N.Nodup)(hi:X.N[i]?=some x)(a:Loc X.env.scope x)(c:X.fn x=Z1∨X.env.scope.names.lookup x=some .local:=by first|exact .inl rfl|exact .inr rfl|assumption):PG X (.Name x pos) (nk i):=by intro X4 s σ H v u Q I r h;exact wpAny_assign_Name<|A3 I b hi a r (λs' e=>{_,H,e,h}) c
def aij:TGs:=λvs σ H Q=>vs=[]/\Q σ H
inductive K9(t:TG)(u:TGs)(vs:fy V)(σ:St)(H:Hp)(Q:St->Hp->Z3):Z3
 |m v r(_:vs=v::r)(_:t v σ H λσ' H'=>u r σ' H' Q)
def gD:PGs X [] aij:=by intro X4 s σ H vs us Q I r h;let⟨e,h⟩:=h;subst e;cases r;exact assignInOrder_nil ⟨σ,H,I,h⟩
def bS{e:Expr}{es:fy Expr}{t:TG}{u:TGs}(h1:PG X e t)(h2:PGs X es u)(hs:(assignEach (e::es) X.env).map (·.2)=assign e X.env ::(assignEach es X.env).map (·.2):=by rfl):PGs X (e::es) (K9 t u):=by
 intro X4 s σ H vs us Q I r h;let⟨v,f,b,h⟩:=h;subst b;cases r with
 |cons r c=>rw[hs];refine assignInOrder_cons (thn (h1 X4 s σ H _ _ _ I r h) λ _ s1 ⟨a,H1,I1,q1⟩=>?_);exact h2 X4 s1 a H1 _ _ Q I1 c q1
inductive Iz(K:Frag)(n:Z5)(t:TGs)(v:V)(σ:St)(H:Hp)(Q:St->Hp->Z3):Z3
 |m a xs(_:v=.ref a)(_:X3 K H a xs)(_:xs.length=n)(_:t xs σ H Q)
def mj{es:fy Expr}{k:Z5}{t:TGs}{n:Z5}(i:X.calm=Z1)(h:PGs X es t)(hn:(assignEach es X.env).length=n:=by rfl)(c:(assignEach es X.env).findIdx? (·.1)=Z0:=by rfl):PG X (.Tuple es k pos) (Iz X.K n t):=by
 intro X4 s σ H v u Q I r f;let⟨a,xs,x,p,j,f⟩:=f;subst x;cases r;let⟨C5,g,q,y⟩:=I.tuple p;refine assign_Tuple_tuple (I.ok.hd i) q (by simp[hn,←j,g.length]) c λh' m=>?_
 let l:Inv X X4 σ H {s with heap:=h'}:=I.kept (t':=s.toks) λb o e=>m b o (ajq<|aiO e) e
 exact h X4 _ σ H xs _ Q l (⇑g) f
def ahB(to b:TE)(t:GX):TG:=λv σ H Q=>to σ H λo H1=>b σ H1 λi H2=>t o i v H2 λa=>Q σ a
def Ax{o i:Expr}{to c:TE}{t:GX}(e:PE X o to)(hi:PE X i c)(hs:SO X t)(g:∀v,assign (.Subscript o i pos) X.env v =(do
   let a ←holding [v] (eval o X.env);let b ←holding [v,a] (eval i X.env)
   standAt pos
   holding [v,a,b] (setItem a b v)
   release [v,a,b] []):=by intro _;rfl):PG X (.Subscript o i pos) (ahB to c t):=by
 intro X4 s σ H v u Q I r h;rw[g];refine aiF<|aka (thn (e X4 s σ H _ I h) λ a s1 ⟨x,H1,I1,r1,q1⟩=>?_);refine aiF<|aka (thn (hi X4 s1 σ H1 _ I1 q1) λ b s2 ⟨y,H2,I2,r2,q2⟩=>?_);refine aiF<|wpAny_standAt<|aiF<|aka (thn (hs X4 s2 σ H2 x y v a b u _ I2 r1 r2 r q2) λ _ s3 ⟨f,I3,q3⟩=>?_);exact wpAny_release ⟨σ,f,I3,q3⟩
def Ec(te:TE)(g:TG):TS:=λD σ H=>te σ H λx H1=>g x σ H1 D.nx
def AI{tg e:Expr}{te:TE}{g:TG}(a:PE X e te)(c:PG X tg g)(hs:swapsWithSole [tg] e pos.line X.env=pure Z2:=by rfl)(b:swappedStores [tg] e X.env=pure Z0:=by rfl)(h1:(assignEach [tg] X.env).map (·.2)=[assign tg X.env]:=by rfl):PS X (.Assign [tg] e pos) (Ec te g):=by intro X4 s σ H D I h;refine wpAny_Assign_stores (thn (a X4 s σ H _ I h) λ v s1 ⟨x,H1,I1,r1,q1⟩=>?_) hs b;rw[h1];exact thn (c X4 s1 σ H1 x v _ I1 r1 q1) λ_ s2 q=>q
def rQ{i:Z5}{x:Z6}{e:Expr}{te:TE}{pos':Pos}(g:X.N.Nodup)(hi:X.N[i]?=some x)(b:Loc X.env.scope x)(a:PE X e te)(hs:swapsWith e (some (.Name x pos')) pos.line X.env=pure Z2:=by rfl)(c:X.fn x=Z1∨X.env.scope.names.lookup x=some .local:=by first|exact .inl rfl|exact .inr rfl|assumption) :
  PS X (.Assign [.Name x pos'] e pos) (Ec te (nk i)):=by
 intro X4 s σ H D I h;refine wpAny_Assign_Name (thn (a X4 s σ H _ I h) λ v s1 ⟨y,H1,I1,r1,q1⟩=>?_) hs;exact A3 I1 g hi b r1 (λs2 f=>{_,H1,f,q1}) c
end
section
variable{X:Cx}{pos:Pos}
inductive ER(c:TT)(tb:TS)(D:Ends)(σ:St)(H:Hp):Z3
 |m (W:Z5->St->Hp->Z3)(_:∃m,W m σ H)(_:∀m σ H,W m σ H->c σ H λb H1=>if b=Z1 then ∃N:St->Hp->Z3,(∀σ' H',N σ' H'->∃m',m'<m/\W m' σ' H')/\tb {D with nx:=N,ct:=N,bk:=D.nx} σ H1 else D.nx σ H1)
def Hh{c:Expr}{g:fy Stmt}{tc:TT}{tb:TS}(x:PassesOwn (model X.prog X.w) X.A X.env X.xe)(L:PT X c tc)(y:PSs X g tb):PS X (.While c g [] pos) (ER tc tb):=by
 intro X4 s σ H D I h;let⟨W,⟨F,C⟩,i⟩:=h;refine wpAny_While<|codeAny_whileLoop (λn s'=>∃σ' H',Inv X X4 σ' H' s'/\W n σ' H') ?_ F ⟨σ,H,I,C⟩;rintro n s1 ⟨e,H1,B,z⟩;refine akp x (thn (L X4 s1 e H1 _ B<|i n e H1 z) λ b s2 ⟨H2,I2,l⟩=>?_);cases b with
 |true=>
  let⟨N,u,l⟩:=l;rw[aiN rfl];refine akp x (thn (y X4 s2 e H2 _ I2 l) λf s3 m=>?_);cases f with
  |next=>let⟨a,j,t,o⟩:=m;let⟨r,q,p⟩:=u a j o;exact⟨r,q,a,j,t,p⟩
  |cont=>let⟨a,j,t,o⟩:=m;let⟨r,q,p⟩:=u a j o;exact⟨r,q,a,j,t,p⟩
  |brk=>exact m
  |ret v=>exact m
 |false=>rw[aiL ai5];exact akX ⟨e,H2,I2,l⟩
end
structure It where
 go:Z5->Hp->Z3
 yld:Z5->Hp->V->Hp->Z3
 stop:Z5->Hp->Z3
def fq(X:Cx)(X4:fy (jl×Obj))(H:Hp)(b:jl):Z3:=
 H b=Z0/\b≠X.env.locals/\b∉X.fs/\(b∈X.ex∨X.s₀.heap.objs.size≤b)/\(∀x c,X.env.cells.lookup x=some c->c≠b)/\∀ p∈X.pn++X4,p.1≠b
def Inv.nA{X:Cx}{X4:fy (jl×Obj)}{σ:St}{H H':Hp}{s:q8}{b:jl}(I:Inv X X4 σ H s)(a:( ~~~s)≤b)(hn:H' b=Z0):fq X X4 H' b:=by
 refine{hn,akM<|aji I.lt a,I.ais a,.inr<|ai8 I.sz a,λx c e z=>?_,λp f z=>?_}
 .let⟨v,q⟩:=I.cell x c e;exact absurd (aji q.lt (by rwa[z]))<|aj4 _
 .exact absurd (aji (aiO (I.pin p f).1) (by rwa[z])) (aj4 _)
structure Turn(P:t6)(w:t7)(K:Frag)(tg:Expr)(b4:It)(fp:fy jl)(it:jl)(tn:Z5->Heap->Z3):Z3 where
 mem:it∈fp
 obj:∀i h,tn i h->∀ b∈fp,∃o,h.get? b=some o/\∀v,o.data≠.cell v
 keep:∀i h h',tn i h->(∀ b∈fp,∀o,h.get? b=some o->h'.get? b=some o)->tn i h'
 item:∀(X:Cx),X.prog=P->X.w=w->X.K=K->X.calm=Z1->∀(i:Z5)(X4:fy (jl×Obj))(s:q8)(σ:St)(H:Hp)(E:mu->q8->Z3),Inv X X4 σ H s->(∀ b∈fp,fq X X4 H b)->tn i s.heap->b4.go i H →
  wpAny (model P w) X.A (pyNext (.ref it)) (λr s1=>∃u,r=some u∧
   wpAny (model P w) X.A (letOwnedTupleGo tg (.ref it) u) (λ_ s2=>∃x H',Inv X X4 σ H' s2/\RelV x u/\b4.yld i H x H'/\tn (i+1) s2.heap/\∀ b∈fp,H' b=Z0) E s1) E s
 done:∀(X:Cx),X.prog=P->X.w=w->X.K=K->X.calm=Z1->∀(i:Z5)(X4:fy (jl×Obj))(s:q8)(σ:St)(H:Hp)(E:mu->q8->Z3),Inv X X4 σ H s->(∀ b∈fp,fq X X4 H b)->tn i s.heap->b4.stop i H →
  wpAny (model P w) X.A (pyNext (.ref it)) (λr s1=>r=Z0/\Inv X X4 σ H s1) E s
 self:∀(A:Around)(i:Z5)(s:q8)(Q:mu->q8->Z3)(E:mu->q8->Z3),tn i s.heap->Q (.ref it) s->wpAny (model P w) A (pyIter (.ref it)) Q E s
abbrev TI:=St->Hp->(It->Hp->Z3)->Z3
def PIE(X:Cx)(X4:fy (jl×Obj))(σ:St)(tg:Expr)(R:It->Hp->Z3)(a:mu)(s2:q8):Z3:=
 ∃(it:jl)(fp:fy jl)(c:Z5->Heap->Z3)(b4:It)(H':Hp),a=.ref it/\Inv X X4 σ H' s2/\Turn X.prog X.w X.K tg b4 fp it c/\c 0 s2.heap/\(∀ b∈fp,fq X X4 H' b)/\R b4 H'
def PI(X:Cx)(tg iter:Expr)(wi:TI):Z3:=
 ∀(X4:fy (jl×Obj))(s:q8)(σ:St)(H:Hp)(R:It->Hp->Z3),Inv X X4 σ H s->wi σ H R →
  wpAny (model X.prog X.w) X.A (eval iter X.env) (λv s1=>wpAny (model X.prog X.w) X.A (pyIter v) (PIE X X4 σ tg R) X.xe s1) X.xe s
def wH{M:Model}{A:Around}{E:mu->q8->Z3}{s:q8}{tg:Expr}{it:jl}{u:mu}{o:Obj}{n:String}{vs:sA mu}{Q:Unit->q8->Z3}(b:s.heap.get? it=some o)(c:o.cls=.type n)(e:o.data=.fields vs)(hn:["enumerate","zip","dict_itemiterator","dict_reverseitemiterator","odict_iterator","itertools.zip_longest","itertools.pairwise"].contains n=Z2)(a:Q () s):wpAny M A (letOwnedTupleGo tg (.ref it) u) Q E s:=by
 unfold letOwnedTupleGo;cases tg <;> first
  |exact aiJ a
  |(cases u <;> first
    |exact aiJ a
    |(refine aiF (wpAny_load b ?_)
      rw[c,e];show wpAny M A (if (["enumerate","zip","dict_itemiterator","dict_reverseitemiterator","odict_iterator","itertools.zip_longest","itertools.pairwise"].contains n&&vs[0]? == some (rawInt _))=Z1 then _ else _) Q E s;rw[aiL (by grind)];exact aiJ a))
def Itl(K:Frag)(a:jl):It:=
 {λi H=>∃xs x,X0 K H a xs/\xs[i]?=some x,λi H x H'=>H'=H/\∀xs,X0 K H a xs->xs[i]?=some x,λi H=>∃xs,X0 K H a xs/\xs.length≤i}
def Itt(K:Frag)(a:jl):It:=
 {λi H=>∃xs x,X3 K H a xs/\xs[i]?=some x,λi H x H'=>H'=H/\∀xs,X3 K H a xs->xs[i]?=some x,λi H=>∃xs,X3 K H a xs/\xs.length≤i}
def Itr(lo:Z4)(n:Z5):It:={λi _=>i<n,λi H x H'=>H'=H/\x=.int (lo+i),λi _=>n≤i}
def F7{P:t6}{w:t7}{K:Frag}{tg:Expr}(a it:jl):Turn P w K tg (Itl K a) [it] it (λi h=>h.IsListIter it a i) where
 mem:=by simp
 obj:=λi h st b f=>by
  let e:b=it:=⇑f
  subst e;let⟨o,e,c,d⟩:=st;exact{o,e,λv z=>by rw[d] at z;cases z}
 keep:=λi h h' st k=>st.at λo e=>k it o8 o e
 item:=by
  intro X C y m F i X4 s σ H E I l st r;subst C y m;let⟨xs,x,j,t⟩:=r;let⟨C5,B,p,S⟩:=I.list j;let⟨u,hu,Y⟩:=B.get t;let⟨f0,f1,f2,n,A,q⟩:=l it o8;refine wpAny_pyNext_list_item st p.isList (x:=u) (⇑hu) λh' g L=>?_
  let O:Inv X X4 σ H {s with heap:=h'}:=I.turned (t':=s.toks) (λb o f e=>(L.2 b f).trans e) f0 f1 n A q;let⟨o,e,c,d⟩:=id g;exact{u,J,wH (s:={s with heap:=h'}) e c d o7 {x,H,O,Y,{J,λys hy=>by rwa[I.uz hy j]},g,λb f=>(l b f).1}}
 done:=by intro X C y m F i X4 s σ H E I l st r;subst C y m;let⟨xs,j,t⟩:=r;let⟨C5,B,p,S⟩:=I.list j;let⟨f0,f1,f2,n,A,q⟩:=l it o8;let hl:=B.length;exact wpAny_pyNext_list_end (I.ok.hd F) st p.isList (by simp;omega) λh' U=>{J,I.turned (t':=s.toks) (λb o f e=>U b o f e) f0 f1 n A q}
 self:=λ_ _ _ _ _ st h=>wpAny_pyIter_listiter st h
def DZ{P:t6}{w:t7}{K:Frag}{tg:Expr}(a it:jl):Turn P w K tg (Itt K a) [it] it (λi h=>h.IsTupleIter it a i) where
 mem:=by simp
 obj:=λi h st b f=>by
  let e:b=it:=⇑f
  subst e;let⟨o,e,c,d⟩:=st;exact{o,e,λv z=>by rw[d] at z;cases z}
 keep:=λi h h' st k=>st.at λo e=>k it o8 o e
 item:=by
  intro X C y m F i X4 s σ H E I l st r;subst C y m;let⟨xs,x,j,t⟩:=r;let⟨C5,B,p,S⟩:=I.tuple j;let⟨u,hu,Y⟩:=B.get t;let⟨f0,f1,f2,n,A,q⟩:=l it o8;refine wpAny_pyNext_tuple_item st (show s.heap.IsTuple a C5.toArray from p) (x:=u) (⇑hu) λh' g L=>?_
  let O:Inv X X4 σ H {s with heap:=h'}:=I.turned (t':=s.toks) (λb o f e=>(L.2 b f).trans e) f0 f1 n A q;let⟨o,e,c,d⟩:=id g;exact{u,J,wH (s:={s with heap:=h'}) e c d o7 {x,H,O,Y,{J,λys hy=>by rwa[I.yW hy j]},g,λb f=>(l b f).1}}
 done:=by intro X C y m F i X4 s σ H E I l st r;subst C y m;let⟨xs,j,t⟩:=r;let⟨C5,B,p,S⟩:=I.tuple j;let⟨f0,f1,f2,n,A,q⟩:=l it o8;let hl:=B.length;exact wpAny_pyNext_tuple_end (I.ok.hd F) st (show s.heap.IsTuple a C5.toArray from p) (by simp;omega) λh' U=>{J,I.turned (t':=s.toks) (λb o f e=>U b o f e) f0 f1 n A q}
 self:=λ_ _ _ _ _ st h=>wpAny_pyIter_tupleiter st h
def Eh{P:t6}{w:t7}{K:Frag}{tg:Expr}(it:jl)(lo:Z4)(n:Z5):Turn P w K tg (Itr lo n) [it] it (λi h=>IsRangeIter h it (lo +(i:Z5)*1) (↥n -(i:Z5)) 1) where
 mem:=by simp
 obj:=λi h st b a=>by
  let e:b=it:=⇑a
  subst e;exact⟨_,st,λv z=>by let F:Data.fields _=Data.cell v:=z;cases F⟩
 keep:=λi h h' st k=>k it o8 _ st
 item:=by
  intro X l u m j i X4 s σ H E I f st r;subst l u m;let⟨f0,f1,f2,p,g,q⟩:=f it o8;let W:=Walks.range (prog:=X.prog) (w:=X.w) (I.ok.hd j) it lo 1 n;refine W.item i s _ _ r st λv h' x C c y=>?_
  let⟨t,rfl⟩:=C;let A:Inv X X4 σ H {s with heap:=h',toks:=x}:=I.turned (λb o a e=>y b o (⇑a) e) f0 f1 p g q;refine{1,wH (s:={s with heap:=h',toks:=x}) (n:="range_iterator") c J J o7 {.int (lo+i),H,A,{t,?_},⟨J,J⟩,c,λb a=>(f b a).1}};rw[Int.mul_one]
 done:=by intro X l u m j i X4 s σ H E I f st r;subst l u m;let⟨f0,f1,f2,p,g,q⟩:=f it o8;exact wpAny_pyNext_range_end (I.ok.hd j) st (by let:n≤i:=r;omega) λh' B=>{J,I.turned (t':=s.toks) (λb o a e=>B b o a e) f0 f1 p g q}
 self:=λ_ _ _ _ _ st h=>wpAny_pyIter_rangeiter st h
section
variable{X:Cx}{tg:Expr}
inductive B8(K:Frag)(R:It->Hp->Z3)(x:V)(H1:Hp):Z3
 |m a(_:x=.ref a)(_:∃xs,X0 K H1 a xs)(_:R (Itl K a) H1)
def afX(K:Frag)(tl:TE):TI:=λσ H R=>tl σ H λx H1=>B8 K R x H1
inductive FT(K:Frag)(R:It->Hp->Z3)(x:V)(H1:Hp):Z3
 |m a(_:x=.ref a)(_:∃xs,X3 K H1 a xs)(_:R (Itt K a) H1)
def ahJ(K:Frag)(tl:TE):TI:=λσ H R=>tl σ H λx H1=>FT K R x H1
def cg{l:Expr}{tl:TE}(f:PE X l tl):PI X tg l (afX X.K tl):=by
 intro X4 s σ H R I h;refine thn (f X4 s σ H _ I h) λ v s1 ⟨x,H1,I1,r1,q1⟩=>?_
 let⟨a,e,⟨xs,g⟩,q⟩:=q1;subst e;cases r1;let⟨C5,j,p,i⟩:=I1.list g;refine alk p.isList ?_;refine{(~~~s1),[~~~s1],_,_,H1,J,I1.kept (t':=s1.toks) λb o e=>aiI _ e,F7 a _,{_,aiW _ J,J,J},λb c=>?_,q};let e:b=( ~~~s1):=⇑c
 subst e;exact I1.nA (aiK _)<|I1.hok.fresh<|aiK _
def wg{l:Expr}{tl:TE}(f:PE X l tl):PI X tg l (ahJ X.K tl):=by
 intro X4 s σ H R I h;refine thn (f X4 s σ H _ I h) λ v s1 ⟨x,H1,I1,r1,q1⟩=>?_
 let⟨a,e,⟨xs,g⟩,q⟩:=q1;subst e;cases r1;let⟨C5,j,p,i⟩:=I1.tuple g;refine ak1 (show s1.heap.IsTuple a C5.toArray from p) ?_;refine{(~~~s1),[~~~s1],_,_,H1,J,I1.kept (t':=s1.toks) λb o e=>aiI _ e,DZ a _,{_,aiW _ J,J,J},λb c=>?_,q};let e:b=( ~~~s1):=⇑c
 subst e;exact I1.nA (aiK _)<|I1.hok.fresh<|aiK _
def AS{X4:fy (jl×Obj)}{σ:St}{H:Hp}{s:q8}{R:It->Hp->Z3}{E:mu->q8->Z3}{lo hi:Z4}{t u v:Tok}{a:Z5}(I:Inv X X4 σ H s)(h1:-(2 ^ 62)≤lo)(h2:lo<2 ^ 62)(h3:-(2 ^ 62)≤hi)(h4:hi<2 ^ 62)(q:R (Itr lo (hi-lo).toNat) H):wpAny (model X.prog X.w) X.A (pyIter (.ref (~~~s))) (PIE X X4 σ tg R) E {s with heap:=s.heap.push {.type "range",Z0,.fields #[.int lo t,.int hi u,.int 1 v],#[]},toks:=a}:=by
 refine wpAny_pyIter_range (IsRange.new ..) (small_one h1 h2 h3 h4) ?_;let c:Inv X X4 σ H {s with heap:=s.heap.push {.type "range",Z0,.fields #[.int lo t,.int hi u,.int 1 v],#[]},toks:=a}:=I.kept λb o e=>aiI _ e
 refine⟨(s.heap.push {.type "range",Z0,.fields #[.int lo t,.int hi u,.int 1 v],#[]}).objs.size,[(s.heap.push {.type "range",Z0,.fields #[.int lo t,.int hi u,.int 1 v],#[]}).objs.size],_,_,H,J,
  c.kept (t':=a) λb o e=>aiI _ e,Eh _ lo (hi-lo).toNat,?_,λb f=>?_,q⟩
 .let h:lo +((0:Z5):Z4)*1=lo:=by simp
  let g:(((hi-lo).toNat:Z5):Z4) -((0:Z5):Z4)=Builtin.Range.rangeSize lo hi 1:=by rw[rangeSize_one];split <;> omega
  show IsRangeIter _ _ (lo +((0:Z5):Z4)*1) ((((hi-lo).toNat:Z5):Z4) -((0:Z5):Z4)) 1;rw[h,g];exact aiW _ J
 .let e:b =(s.heap.push {.type "range",Z0,.fields #[.int lo t,.int hi u,.int 1 v],#[]}).objs.size:=⇑f
  subst e;exact c.nA (aiK _)<|c.hok.fresh<|aiK _
inductive CH(R:It->Hp->Z3)(vs:fy V)(H1:Hp):Z3
 |m (j:Z4)(_:vs=[.int j])(_:-(2 ^ 62)≤j)(_:j<2 ^ 62)(_:R (Itr 0 j.toNat) H1)
def ae0(ta:TA):TI:=λσ H R=>ta σ H λvs H1=>CH R vs H1
inductive Co(R:It->Hp->Z3)(vs:fy V)(H1:Hp):Z3
 |m (i j:Z4)(_:vs=[.int i,.int j])(_:-(2 ^ 62)≤i/\i<2 ^ 62/\-(2 ^ 62)≤j/\j<2 ^ 62)(_:R (Itr i (j-i).toNat) H1)
def adT(ta:TA):TI:=λσ H R=>ta σ H λvs H1=>Co R vs H1
def eE{a:Expr}{ta:TA}{p pos:Pos}(g:Gl X "range")(b:X.mg "range" = Z0)(i:PA X [a] ta)(hs:starEach [a] X.env=[(Z2,eval a X.env)]:=by rfl):PI X tg (.Call (.Name "range" p) [a] [] pos) (ae0 ta):=by
 intro X4 s σ H R I h;refine Call_<|gO I g b boot_range<|ajt (thn (i pos X4 s σ H _ I h) λ us s1 ⟨vs,H1,I1,r1,q1⟩=>?_) hs J;let⟨j,e,q1,c,q⟩:=q1;subst e;cases r1 with
 |cons r f=>cases f;let⟨t,rfl⟩:=r;exact call_range_1<|AS I1 o6 o6 q1 c (⇑q)
def rL{a b:Expr}{ta:TA}{p pos:Pos}(n:Gl X "range")(g:X.mg "range" = Z0)(u:PA X [a,b] ta)(hs:starEach [a,b] X.env=[(Z2,eval a X.env),(Z2,eval b X.env)]:=by rfl)(c:starEach [b] X.env=[(Z2,eval b X.env)]:=by rfl) :
  PI X tg (.Call (.Name "range" p) [a,b] [] pos) (adT ta):=by
 intro X4 s σ H R I h;refine Call_<|gO I n g boot_range<|ajt (thn (u pos X4 s σ H _ I h) λ us s1 ⟨vs,H1,I1,r1,q1⟩=>?_) (by rw[hs,c]) (by rw[c];rfl);let⟨i,j,e,⟨q1,m,l,v⟩,q⟩:=q1;subst e;cases r1 with
 |cons r f=>
  cases f with
  |cons o f=>cases f;let⟨t,rfl⟩:=r;let⟨t',rfl⟩:=o;exact call_range_2<|AS I1 q1 m l v q
def ahu(wi:TI)(g:TG)(tb:TS):TS:=λD σ H=>wi σ H λb4 H1=>∃W:Z5->Z5->St->Hp->Z3,(∃m,W 0 m σ H1)/\∀i m σ H,W i m σ H →
 (b4.stop i H/\D.nx σ H)∨(b4.go i H/\∃N:St->Hp->Z3,(∀σ' H',N σ' H'->∃b,b<m/\W (i+1) b σ' H')/\∀x H',b4.yld i H x H'->g x σ H' λa H2=>tb {D with nx:=N,ct:=N,bk:=D.nx} a H2)
def rB(fp:fy jl)(h:Heap):fy (jl×Obj):=fp.filterMap λb=>(h.get? b).map λo=>(b,o)
def lq{fp:fy jl}{h:Heap}{b:jl}{o:Obj}(a:b∈fp)(e:h.get? b=some o):(b,o)∈rB fp h:=anl.mpr {b,a,by rw[e];rfl}
def Gb{fp:fy jl}{h:Heap}{p:jl×Obj}(a:p∈rB fp h):p.1∈fp/\h.get? p.1=some p.2:=by
 let⟨b,c,e⟩:=anl.mp a;cases q:h.get? b with
 |none=>rw[q] at e;cases e
 |some o=>rw[q] at e;let f:(b,o)=p:=aiY e;subst f;exact⟨c,q⟩
def Inv.pinned{X4:fy (jl×Obj)}{σ:St}{H:Hp}{s:q8}{fp:fy jl}(I:Inv X X4 σ H s)(g:∀ b∈fp,fq X X4 H b)(f:∀ b∈fp,∃o,s.heap.get? b=some o/\∀v,o.data≠.cell v):Inv X (X4++rB fp s.heap) σ H s:=
 I.CF λp h=>(aiX.mp h).elim (λz=>I.pin p<|ajh _ z) λz=>by let⟨a,e⟩:=Gb z;let⟨f0,f1,f2,_⟩:=g p.1 a;let⟨o,c,d⟩:=f p.1 a;rw[e] at c;cases c;exact⟨e,f0,f1,f2,d⟩
def Inv.qu{X4 pl:fy (jl×Obj)}{σ:St}{H:Hp}{s:q8}(I:Inv X (X4++pl) σ H s):Inv X X4 σ H s:=I.CF λp a=>I.pin p<|ajh _<|ajZ _ a
def cO{iter:Expr}{t:fy Stmt}{wi:TI}{g:TG}{tb:TS}{pos:Pos}(C:PassesOwn (model X.prog X.w) X.A X.env X.xe)(hc:X.calm=Z1)(hi:PI X tg iter wi)(hg:PG X tg g)(c:PSs X t tb)(hs:∀x,foldedSetIterable iter X.env x=pure x:=by intro _;rfl):PS X (.For tg iter t [] pos) (ahu wi g tb):=by
 intro X4 s σ H D I h;refine wpAny_For (thn (hi X4 s σ H _ I h) λv s1 h1=>thn h1 λa2 s2 h2=>?_) hs;let⟨it,fp,tn,b4,H2,e,I2,T,U,f2,W,⟨m0,w0⟩,z⟩:=h2;subst e;let q:∀{H':Hp},(∀ b∈fp,H' b=Z0)->∀ b∈fp,fq X X4 H' b:=λhn b c=>{hn b c,(f2 b c).2}
 refine codeAny_forLoop_any (λn s'=>∃i σ' H',Inv X X4 σ' H' s'/\tn i s'.heap/\(∀ b∈fp,H' b=Z0)/\W i n σ' H') ?_ m0 {(0),σ,H2,I2,U,λb c=>(f2 b c).1,w0};rintro n s3 ⟨i,p,S,I3,L,O,w3⟩;rcases z i n p S w3 with⟨B,qn⟩|⟨go,N,hN,step⟩
 .refine akp C (thn (T.done X J J J hc i X4 s3 p S X.xe I3 (q O) L B) λ r s4 ⟨Y,I4⟩=>?_);subst Y;exact akX ⟨p,S,I4,qn⟩
 .refine akp C (thn (T.item X J J J hc i X4 s3 p S X.xe I3 (q O) L go) λ r s4 ⟨u,Y,h4⟩=>?_);subst Y;refine akp C (thn h4 λ _ s5 ⟨x,H5,I5,r5,y5,st5,fr5⟩=>?_);let a0:=I5.pinned (q fr5)<|T.obj _ _ st5;refine akp C (thn (hg _ s5 p H5 x u _ a0 r5<|step x H5 y5) λ _ s6 ⟨a1,H6,I6,q6⟩=>?_);refine akp C (thn (c _ s6 a1 H6 _ I6 q6) λf s7 y=>?_);let again:∀{a:St}{l:Hp},Inv X (X4++rB fp s5.heap) a l s7->N a l->∃m,m<n/\∃i σ' H',Inv X X4 σ' H' s7/\tn i s7.heap/\(∀ b∈fp,H' b=Z0)/\W i m σ' H':=λ{a l}j F=>by let⟨m',hm,w7⟩:=hN a l F;refine{m',hm,i+1,a,l,j.qu,T.keep _ _ _ st5 λb c o e=>(j.pin (b,o)<|ajh _<|ajh _<|lq c e).1,λb c=>?_,w7};let⟨o,e,d⟩:=T.obj _ _ st5 b c;exact(j.pin (b,o)<|ajh _<|ajh _<|lq c e).2.1
  cases f with
  |next=>let⟨a,l,j,F⟩:=y;exact again j F
  |cont=>let⟨a,l,j,F⟩:=y;exact again j F
  |brk=>let⟨a,l,j,y⟩:=y;exact⟨a,l,j.qu,y⟩
  |ret v=>let⟨x7,a,l,j,r7,y⟩:=y;exact⟨x7,a,l,j.qu,r7,y⟩
end
def gv{K:Frag}{a:jl}{xs:fy V}{g:TG}{tb:TS}{D:Ends}{σ:St}{H:Hp}(b:Z5->St->Hp->Z3)(h0:b 0 σ H)(j:∀i σ H,i≤xs.length->b i σ H->X0 K H a xs)(hs:∀i x σ H,xs[i]?=some x->b i σ H->g x σ H λc H2=>tb {D with nx:=b (i+1),ct:=b (i+1),bk:=D.nx} c H2)(n:∀σ H,b xs.length σ H->D.nx σ H) :
  ∃W:Z5->Z5->St->Hp->Z3,(∃m,W 0 m σ H)/\∀i m σ H,W i m σ H →
   ((Itl K a).stop i H/\D.nx σ H)∨((Itl K a).go i H/\∃N:St->Hp->Z3,(∀σ' H',N σ' H'->∃h,h<m/\W (i+1) h σ' H')/\∀x H',(Itl K a).yld i H x H'->g x σ H' λc H2=>tb {D with nx:=N,ct:=N,bk:=D.nx} c H2):=by
 exists λi m σ H=>m=xs.length-i/\i≤xs.length/\b i σ H,{xs.length,o8,ajb _,h0};rintro i m σ H ⟨rfl,hi,p⟩;let q:=j i σ H hi p;by_cases f:i<xs.length
 .refine .inr {{xs,xs[i],q,by simp[f]},b (i+1),λσ' H' l=>{xs.length -(i+1),o6,J,f,l},λx H' y=>?_};let⟨e,y⟩:=y;subst e;exact hs i x σ _ (y xs q) p
 .let e:i=xs.length:=by omega
  subst e;exact .inl {{xs,q,aiK _},n σ H p}
def Qy{K:Frag}{a:jl}{xs:fy V}{g:TG}{tb:TS}{D:Ends}{σ:St}{H:Hp}(b:Z5->St->Hp->Z3)(h0:b 0 σ H)(j:∀i σ H,i≤xs.length->b i σ H->X3 K H a xs)(hs:∀i x σ H,xs[i]?=some x->b i σ H->g x σ H λc H2=>tb {D with nx:=b (i+1),ct:=b (i+1),bk:=D.nx} c H2)(n:∀σ H,b xs.length σ H->D.nx σ H) :
  ∃W:Z5->Z5->St->Hp->Z3,(∃m,W 0 m σ H)/\∀i m σ H,W i m σ H →
   ((Itt K a).stop i H/\D.nx σ H)∨((Itt K a).go i H/\∃N:St->Hp->Z3,(∀σ' H',N σ' H'->∃h,h<m/\W (i+1) h σ' H')/\∀x H',(Itt K a).yld i H x H'->g x σ H' λc H2=>tb {D with nx:=N,ct:=N,bk:=D.nx} c H2):=by
 exists λi m σ H=>m=xs.length-i/\i≤xs.length/\b i σ H,{xs.length,o8,ajb _,h0};rintro i m σ H ⟨rfl,hi,p⟩;let q:=j i σ H hi p;by_cases f:i<xs.length
 .refine .inr {{xs,xs[i],q,by simp[f]},b (i+1),λσ' H' l=>{xs.length -(i+1),o6,J,f,l},λx H' y=>?_};let⟨e,y⟩:=y;subst e;exact hs i x σ _ (y xs q) p
 .let e:i=xs.length:=by omega
  subst e;exact .inl {{xs,q,aiK _},n σ H p}
def fL{lo:Z4}{n:Z5}{g:TG}{tb:TS}{D:Ends}{σ:St}{H:Hp}(c:Z5->St->Hp->Z3)(h0:c 0 σ H)(hs:∀i σ H,i<n->c i σ H->g (.int (lo+i)) σ H λb H2=>tb {D with nx:=c (i+1),ct:=c (i+1),bk:=D.nx} b H2)(j:∀σ H,c n σ H->D.nx σ H) :
  ∃W:Z5->Z5->St->Hp->Z3,(∃m,W 0 m σ H)/\∀i m σ H,W i m σ H →
   ((Itr lo n).stop i H/\D.nx σ H)∨((Itr lo n).go i H/\∃N:St->Hp->Z3,(∀σ' H',N σ' H'->∃f,f<m/\W (i+1) f σ' H')/\∀x H',(Itr lo n).yld i H x H'->g x σ H' λb H2=>tb {D with nx:=N,ct:=N,bk:=D.nx} b H2):=by
 exists λi m σ H=>m=n-i/\i≤n/\c i σ H,{n,o8,ajb _,h0};rintro i m σ H ⟨rfl,hi,p⟩;by_cases a:i<n
 .refine .inr {a,c (i+1),λσ' H' h=>{n -(i+1),o6,J,a,h},λx H' y=>?_};let⟨e,y⟩:=y;subst e y;exact hs i σ _ a p
 .let e:i=n:=by omega
  subst e;exact .inl {aiK _,j σ H p}
abbrev R2:=V->V->Hp->VK->Z3
def OpR(X:Cx)(f:mu->mu->Sem mu)(r:R2):Z3:=
 ∀(X4:fy (jl×Obj))(s:q8)(σ:St)(H:Hp)(x y:V)(v u:mu)(Q:VK),Inv X X4 σ H s->RelV x v->RelV y u->r x y H Q →
  wpAny (model X.prog X.w) X.A (f v u) (EP X X4 σ Q) X.xe s
def UnR(X:Cx)(f:mu->Sem mu)(r:V->Hp->VK->Z3):Z3:=
 ∀(X4:fy (jl×Obj))(s:q8)(σ:St)(H:Hp)(x:V)(v:mu)(Q:VK),Inv X X4 σ H s->RelV x v->r x H Q →
  wpAny (model X.prog X.w) X.A (f v) (EP X X4 σ Q) X.xe s
def dh(X:Cx)(f:mu)(r:fy V->Hp->VK->Z3):Z3:=
 ∀(X4:fy (jl×Obj))(s:q8)(σ:St)(H:Hp)(xs:fy V)(us:fy mu)(Q:VK),Inv X X4 σ H s->Vals xs us->r xs H Q →
  wpAny (model X.prog X.w) X.A (call f us) (EP X X4 σ Q) X.xe s
def tOp(r:R2)(ta tb:TE):TE:=λσ H Q=>ta σ H λx H1=>tb σ H1 λy H2=>r x y H2 Q
def tUn(r:V->Hp->VK->Z3)(ta:TE):TE:=λσ H Q=>ta σ H λx H1=>r x H1 Q
inductive rI(C:Z4->Z4->Z3)(g:Z4->Z4->V)(x:V)(y:V)(H:Hp)(Q:VK):Z3
 |m i j(_:x=.int i)(_:y=.int j)(_:C i j)(_:Q (g i j) H)
inductive rI0(g:Z4->Z4->V)(x:V)(y:V)(H:Hp)(Q:VK):Z3
 |m i j(_:x=.int i)(_:y=.int j)(_:Q (g i j) H)
inductive rU(g:Z4->V)(x:V)(H:Hp)(Q:VK):Z3
 |m i(_:x=.int i)(_:Q (g i) H)
section
variable{X:Cx}{a b c:Expr}{ta tb tc:TE}{pos:Pos}
def G3(j:PE X a ta)(g:PE X b tb){X4:fy (jl×Obj)}{s:q8}{σ:St}{H:Hp}{R:V->V->Hp->Z3}(I:Inv X X4 σ H s)(h:ta σ H λx H1=>tb σ H1 λy H2=>R x y H2){Q:mu->q8->Z3}{f:mu->mu->Sem mu}(i:∀v u s2 x y H2,Inv X X4 σ H2 s2->RelV x v->RelV y u->R x y H2->wpAny (model X.prog X.w) X.A (f v u) Q X.xe s2) :
  wpAny (model X.prog X.w) X.A (eval a X.env) (λv e=>wpAny (model X.prog X.w) X.A (eval b X.env) (λu c=>wpAny (model X.prog X.w) X.A (f v u) Q X.xe c) X.xe e) X.xe s:=by
 refine thn (j X4 s σ H _ I h) λ v s1 ⟨x,H1,I1,r1,q1⟩=>?_
 refine thn (g X4 s1 σ H1 _ I1 q1) λ u s2 ⟨y,H2,I2,r2,q2⟩=>?_
 exact i v u s2 x y H2 I2 r1 r2 q2
def aB{op:Operator}{r:R2}(c:OpR X (binaryOp op) r)(j:PE X a ta)(e:PE X b tb):PE X (.BinOp a op b pos) (tOp r ta tb):=by intro X4 s σ H Q I h;exact wpAny_BinOp (G3 j e I h λv u s2 x y H2 g f i q=>c X4 s2 σ H2 x y v u Q g f i q)
def pG{op:UnaryOp}{r:V->Hp->VK->Z3}(b:UnR X (unaryOp op) r)(c:PE X a ta):PE X (.UnaryOp op a pos) (tUn r ta):=by intro X4 s σ H Q I h;exact UnaryOp_ (thn (c X4 s σ H _ I h) λ v s1 ⟨x,H1,I1,r1,q1⟩=>b X4 s1 σ H1 x v Q I1 r1 q1)
def opI{f:mu->mu->Sem mu}{C:Z4->Z4->Z3}{g:Z4->Z4->Z4}(rule:∀(i j:Z4)(t u:Tok)(s:q8)(Q:mu->q8->Z3)(E:mu->q8->Z3),C i j->Q (.int (g i j) s.toks) {s with toks:=s.toks+1}->wpAny (model X.prog X.w) X.A (f (.int i t) (.int j u)) Q E s) :
  OpR X f (rI C λi j=>.int (g i j)):=by
 intro X4 s σ H x y v u Q I c b h;let⟨i,j,rfl,rfl,a,q⟩:=h;let⟨t,rfl⟩:=c;let⟨t',rfl⟩:=b;exact rule i j t t' s _ _ a {.int<|g i j,H,I.tok _,{1},q}
def IB{f:mu->mu->Sem mu}{g:Z4->Z4->Z4}(rule:∀(i j:Z4)(t u:Tok)(s:q8)(Q:mu->q8->Z3)(E:mu->q8->Z3),Q (.int (g i j) s.toks) {s with toks:=s.toks+1}->wpAny (model X.prog X.w) X.A (f (.int i t) (.int j u)) Q E s) :
  OpR X f (rI0 λi j=>.int (g i j)):=by
 intro X4 s σ H x y v u Q I b a h;let⟨i,j,rfl,rfl,q⟩:=h;let⟨t,rfl⟩:=b;let⟨t',rfl⟩:=a;exact rule i j t t' s _ _ {.int<|g i j,H,I.tok _,{1},q}
def EC{f:mu->mu->Sem mu}{g:Z4->Z4->Bool}(rule:∀(i j:Z4)(t u:Tok)(s:q8)(Q:mu->q8->Z3)(E:mu->q8->Z3),Q (.bool (g i j)) s->wpAny (model X.prog X.w) X.A (f (.int i t) (.int j u)) Q E s) :
  OpR X f (rI0 λi j=>.bl (g i j)):=by
 intro X4 s σ H x y v u Q I b a h;let⟨i,j,rfl,rfl,q⟩:=h;let⟨t,rfl⟩:=b;let⟨t',rfl⟩:=a;exact rule i j t t' s _ _ {.bl<|g i j,H,I,J,q}
def ail(i j:Z4):Z3:=0≤j/\j≤1000000/\i.natAbs<2 ^ 64
def HE(i j:Z4):Z3:=(-(2 ^ 64)<i/\i<2 ^ 64)∨(-(2 ^ 64)<j/\j<2 ^ 64)
def HE.ok{i j:Z4}(h:HE i j):IntMulOk i j:=by
 rcases h with⟨h1,h2⟩|⟨h1,h2⟩
 .exact .of_left (intBits_le_64 h1 h2)
 .exact .of_right (intBits_le_64 h1 h2)
def bf:OpR X (binaryOp .Add) (rI0 λi j=>.int (i+j)):=IB λ_ _ _ _ _ _ _ q=>add_int q
def lR:OpR X (binaryOp .Sub) (rI0 λi j=>.int (i-j)):=IB λ_ _ _ _ _ _ _ q=>sub_int q
def fh:OpR X (binaryOp .Mult) (rI HE λi j=>.int (i*j)):=opI λ_ _ _ _ _ _ _ a q=>mul_int q a.ok
def bW:OpR X (binaryOp .Mod) (rI (λ_ j=>0<j) λi j=>.int (i % j)):=opI λi j _ _ _ _ _ a q=>by let h1:↥0<j:=a;exact mod_int' o6 (by grind)
def Ww:OpR X (binaryOp .Pow) (rI ail λi j=>.int (i ^ j.toNat)):=opI λ_ _ _ _ _ _ _ a q=>pow_int_small a.1 a.2.1 a.2.2 q
def UW:OpR X (binaryOp .BitXor) (rI0 λi j=>.int (Builtin.bitXor i j)):=IB λ_ _ _ _ _ _ _ q=>xor_int q
def unI{f:mu->Sem mu}{g:Z4->Z4}(rule:∀(i:Z4)(t:Tok)(s:q8)(Q:mu->q8->Z3)(E:mu->q8->Z3),Q (.int (g i) s.toks) {s with toks:=s.toks+1}->wpAny (model X.prog X.w) X.A (f (.int i t)) Q E s) :
  UnR X f (rU λi=>.int (g i)):=by
 intro X4 s σ H x v Q I a h;let⟨i,rfl,q⟩:=h;let⟨t,rfl⟩:=a;exact rule i t s _ _ {.int<|g i,H,I.tok _,{1},q}
def lP:UnR X (unaryOp .USub) (rU λi=>.int (-i)):=unI λ_ _ _ _ _ q=>neg_int q
end
def WI:V->V->Bool
 |.non,.non=>true|.non,.int _=>true|.int _,.non=>true|.non,.bl _=>true|.bl _,.non=>true|.non,.str _=>true|.str _,.non=>Z1
 |.int _,.int _=>true|.bl _,.bl _=>true|.str _,.str _=>true|.byt _,.byt _=>Z1
 |.int _,.str _=>true|.str _,.int _=>true|.bl _,.str _=>true|.str _,.bl _=>Z1
 |_,_=>Z2
def rEq:R2:=λx y H Q=>WI x y=Z1/\Q (.bl<|decide (x=y)) H
def rNe:R2:=λx y H Q=>WI x y=Z1/\Q (.bl (!decide (x=y))) H
def CO{i j:Z4}:decide (V.int i=V.int j) =(i==j):=by grind
def GJ{i j:Bool}:decide (V.bl i=V.bl j) =(i==j):=by grind
def Cg{i j:Z6}:decide (V.str i=V.str j) =(i==j):=by grind
def Dl{i j:sA UInt8}:decide (V.byt i=V.byt j) =(i.toList==j.toList):=by rw[amz];cases i;cases j;simp
section
variable{X:Cx}{a b c:Expr}{ta tb tc:TE}{pos:Pos}
def bC{X4:fy (jl×Obj)}{σ:St}{H:Hp}{s:q8}{Q:VK}{k a:Bool}(I:Inv X X4 σ H s)(q:Q (.bl k) H)(e:k=a):EP X X4 σ Q (.bool a) s:=by subst e;exact{.bl k,H,I,J,q}
def bL:OpR X (compareOp .Eq) rEq:=by
 intro X4 s σ H x y v u Q I b a h;let⟨hs,q⟩:=h;cases x with
 |non=>
  cases b;cases y with
  |non=>cases a;exact PySem.EqNone.eq_none_none<|bC I q o8
  |bl j=>cases a;exact PySem.EqNone.eq_none_bool<|bC I q o8
  |int j=>let⟨t',rfl⟩:=a;exact PySem.EqNone.eq_none_int<|bC I q o8
  |str j=>let⟨t',rfl⟩:=a;exact PySem.EqNone.eq_none_str<|bC I q o8
  |_=>exact absurd (show Z2=Z1 from hs) ai5
 |bl i=>
  cases b;cases y with
  |non=>cases a;exact PySem.EqNone.eq_bool_none<|bC I q o8
  |bl j=>cases a;exact eq_bool<|bC I q GJ
  |str j=>let⟨t',rfl⟩:=a;exact PySem.EqMixed.eq_bool_str<|bC I q o8
  |_=>exact absurd (show Z2=Z1 from hs) ai5
 |int i=>
  let⟨t,rfl⟩:=b;cases y with
  |non=>cases a;exact PySem.EqNone.eq_int_none<|bC I q o8
  |int j=>let⟨t',rfl⟩:=a;exact eq_int<|bC I q CO
  |str j=>let⟨t',rfl⟩:=a;exact PySem.EqMixed.eq_int_str<|bC I q o8
  |_=>exact absurd (show Z2=Z1 from hs) ai5
 |str i=>
  let⟨t,rfl⟩:=b;cases y with
  |non=>cases a;exact PySem.EqNone.eq_str_none<|bC I q o8
  |bl j=>cases a;exact PySem.EqMixed.eq_str_bool<|bC I q o8
  |int j=>let⟨t',rfl⟩:=a;exact PySem.EqMixed.eq_str_int<|bC I q o8
  |str j=>let⟨t',rfl⟩:=a;exact eq_str<|bC I q Cg
  |_=>exact absurd (show Z2=Z1 from hs) ai5
 |byt i=>
  let⟨t,rfl⟩:=b;cases y with
  |byt j=>let⟨t',rfl⟩:=a;exact PySem.W.eq_bytes<|bC I q Dl
  |_=>exact absurd (show Z2=Z1 from hs) ai5
 |_=>cases y <;> exact absurd (show Z2=Z1 from hs) ai5
def qb:OpR X (compareOp .NotEq) rNe:=by
 intro X4 s σ H x y v u Q I b a h;let⟨hs,q⟩:=h;cases x with
 |non=>
  cases b;cases y with
  |non=>cases a;exact PySem.EqNone.ne_none_none<|bC I q o8
  |bl j=>cases a;exact PySem.EqNone.ne_none_bool<|bC I q o8
  |int j=>let⟨t',rfl⟩:=a;exact PySem.EqNone.ne_none_int<|bC I q o8
  |str j=>let⟨t',rfl⟩:=a;exact PySem.EqNone.ne_none_str<|bC I q o8
  |_=>exact absurd (show Z2=Z1 from hs) ai5
 |bl i=>
  cases b;cases y with
  |non=>cases a;exact PySem.EqNone.ne_bool_none<|bC I q o8
  |bl j=>cases a;exact ne_bool<|bC I q<|congrArg not GJ
  |str j=>let⟨t',rfl⟩:=a;exact PySem.EqMixed.ne_bool_str<|bC I q o8
  |_=>exact absurd (show Z2=Z1 from hs) ai5
 |int i=>
  let⟨t,rfl⟩:=b;cases y with
  |non=>cases a;exact PySem.EqNone.ne_int_none<|bC I q o8
  |int j=>let⟨t',rfl⟩:=a;exact ne_int<|bC I q<|congrArg not CO
  |str j=>let⟨t',rfl⟩:=a;exact PySem.EqMixed.ne_int_str<|bC I q o8
  |_=>exact absurd (show Z2=Z1 from hs) ai5
 |str i=>
  let⟨t,rfl⟩:=b;cases y with
  |non=>cases a;exact PySem.EqNone.ne_str_none<|bC I q o8
  |bl j=>cases a;exact PySem.EqMixed.ne_str_bool<|bC I q o8
  |int j=>let⟨t',rfl⟩:=a;exact PySem.EqMixed.ne_str_int<|bC I q o8
  |str j=>let⟨t',rfl⟩:=a;exact ne_str<|bC I q<|congrArg not Cg
  |_=>exact absurd (show Z2=Z1 from hs) ai5
 |byt i=>
  let⟨t,rfl⟩:=b;cases y with
  |byt j=>let⟨t',rfl⟩:=a;exact PySem.W.ne_bytes<|bC I q<|congrArg not Dl
  |_=>exact absurd (show Z2=Z1 from hs) ai5
 |_=>cases y <;> exact absurd (show Z2=Z1 from hs) ai5
def kh:OpR X (compareOp .Lt) (rI0 λi j=>.bl (decide (i<j))):=EC λ_ _ _ _ _ _ _ q=>lt_int q
def vD:OpR X (compareOp .LtE) (rI0 λi j=>.bl (decide (i≤j))):=EC λ_ _ _ _ _ _ _ q=>le_int q
def jz:OpR X (compareOp .Gt) (rI0 λi j=>.bl (decide (j<i))):=EC λ_ _ _ _ _ _ _ q=>gt_int q
def wo:OpR X (compareOp .GtE) (rI0 λi j=>.bl (decide (j≤i))):=EC λ_ _ _ _ _ _ _ q=>ge_int q
def Gg:OpR X (compareOp .In) (λx y H Q=>∃i j,x=.str i/\y=.str j/\Q (.bl (!(Builtin.Str.occurrences j i 0 j.length 1).isEmpty)) H):=by intro X4 s σ H x y v u Q I b a h;let⟨i,j,rfl,rfl,q⟩:=h;let⟨t,rfl⟩:=b;let⟨t',rfl⟩:=a;exact in_str<|bC I q J
def oZ:OpR X (compareOp .Is) (λx y H Q=>y=.non/\Q (.bl (decide (x=.non))) H):=by
 intro X4 s σ H x y v u Q I a b h;let⟨rfl,q⟩:=h;cases b;refine is_none_gen<|bC I q ?_;cases x <;> first
  |(cases a;rfl)
  |(let⟨t,rfl⟩:=a;rfl)
def QN:OpR X (compareOp .IsNot) (λx y H Q=>y=.non/\Q (.bl (!decide (x=.non))) H):=by
 intro X4 s σ H x y v u Q I a b h;let⟨rfl,q⟩:=h;cases b;refine isnot_none_gen<|bC I q ?_;cases x <;> first
  |(cases a;rfl)
  |(let⟨t,rfl⟩:=a;rfl)
def zM:OpR X (compareOp .NotIn) (λx y H Q=>∃i j,x=.str i/\y=.str j/\Q (.bl (!(!(Builtin.Str.occurrences j i 0 j.length 1).isEmpty))) H):=by intro X4 s σ H x y v u Q I b a h;let⟨i,j,rfl,rfl,q⟩:=h;let⟨t,rfl⟩:=b;let⟨t',rfl⟩:=a;exact notIn_str<|bC I q J
def aH(b:Expr){op:CmpOp}(h:op≠.In:=by decide)(h2:op≠.NotIn:=by decide):behindInMarks op b=Z2:=by
 let a:(op==CmpOp.In)=Z2:=by grind
 let c:(op==CmpOp.NotIn)=Z2:=by grind
 cases b <;> simp[behindInMarks,a,c]
def fz{op:CmpOp}{r:R2}(e:OpR X (compareOp op) r)(l:PE X a ta)(f:PE X b tb)(c:behindInMarks op b=Z2):PE X (.Compare a [op] [b] pos) (tOp r ta tb):=by intro X4 s σ H Q I h;exact wpAny_Compare1 (G3 l f I h λv u s2 x y H2 i g j q=>e X4 s2 σ H2 x y v u Q i g j q) c
inductive Cc(Q:Bool->Hp->Z3)(x:V)(H':Hp):Z3
 |m k(_:x=.bl k)(_:Q k H')
def LF(t:TE):TT:=λσ H Q=>t σ H λx H'=>Cc Q x H'
def aC{op:CmpOp}{r:R2}(g:OpR X (compareOp op) r)(j:PE X a ta)(i:PE X b tb)(f:behindInMarks op b=Z2):PT X (.Compare a [op] [b] pos) (LF (tOp r ta tb)):=by
 intro X4 s σ H Q I h;refine wpAny_isTrue_Compare1 (thn (j X4 s σ H _ I h) λ v s1 ⟨x,H1,I1,r1,q1⟩=>thn (i X4 s1 σ H1 _ I1 q1) λ u s2 ⟨y,H2,I2,r2,q2⟩=>thn (g X4 s2 σ H2 x y v u _ I2 r1 r2 q2) λ c s3 ⟨z,H3,I3,r3,k,e,q3⟩=>?_) f
 subst e;cases r3;exact aj2 ⟨H3,I3,q3⟩
def Xs(r c:R2)(ta tb tc:TE):TE:=λσ H Q=>ta σ H λx H1=>tb σ H1 λy H2=>r x y H2 λz a=>∃k,z=.bl k∧
 (if k=Z1 then tc σ a λb e=>c y b e Q else Q (.bl Z2) a)
def GV{op f:CmpOp}{r i:R2}(l:OpR X (compareOp op) r)(g:OpR X (compareOp f) i)(t:PE X a ta)(n:PE X b tb)(p:PE X c tc)(j:lastMarks [op,f] [b,c]=Z2:=by with_unfolding_all rfl):PT X (.Compare a [op,f] [b,c] pos) (LF (Xs r i ta tb tc)):=by
 intro X4 s σ H Q I h;refine isTrue_chain (thn (t X4 s σ H _ I h) λ v s1 ⟨x,H1,I1,r1,q1⟩=>test_link (thn (n X4 s1 σ H1 _ I1 q1) λ u s2 ⟨y,H2,I2,r2,q2⟩=>thn (l X4 s2 σ H2 x y v u _ I2 r1 r2 q2) λ d s3 ⟨z,H3,I3,r3,k,e,q3⟩=>?_)) j
 subst e;cases r3;refine aj2 ?_;cases k with
 |false=>let⟨B,o,q⟩:=q3;cases o;exact ite_ff ⟨H3,I3,q⟩
 |true=>refine ite_tt<|test_last (thn (p X4 s3 σ H3 _ I3 q3) λ m s4 ⟨A,H4,I4,r4,q4⟩=>thn (g X4 s4 σ H4 y A u m _ I4 r2 r4 q4) λ d' s5 ⟨C,H5,I5,r5,k2,e2,q5⟩=>?_);subst e2;cases r5;exact aj2 ⟨H5,I5,q5⟩
def oG:(Z7:Z5)<2 ^ 63:=by rw[alW];decide
def wF:OpR X (binaryOp .Add) (λx y H Q=>∃i j,x=.str i/\y=.str j/\i.length+j.length≤Z7/\Q (.str (i++j)) H):=by intro X4 s σ H x y v u Q I b c h;let⟨i,j,rfl,rfl,a,q⟩:=h;let⟨t,rfl⟩:=b;let⟨t',rfl⟩:=c;exact add_str (λt' e=>{.str (i++j),H,I.tok _,{1},q}) a
def vals1{x:V}{us:fy mu}(r:Vals [x] us):∃u,us=[u]/\RelV x u:=by
 cases r with
 |cons r1 r2=>cases r2;exact{1,r1}
def vals2{x y:V}{us:fy mu}(r:Vals [x,y] us):∃u w',us=[u,w']/\RelV x u/\RelV y w':=by
 cases r with
 |cons r1 r2=>
  cases r2 with
  |cons r3 a=>cases a;exact{_,1,r1,r3}
inductive tU(xs:fy V)(H:Hp)(Q:VK):Z3
 |m i j(_:xs=[.int i,.int j])(_:Q (.int (if j>i then j else i)) H)
def m9(b:X.calm=Z1):dh X (.builtin "max") tU:=by
 intro X4 s σ H xs us Q I r h;let⟨i,j,rfl,q⟩:=h;let⟨u,c,rfl,⟨t,rfl⟩,⟨t',rfl⟩⟩:=vals2 r;refine max_two_ints (I.ok.hd b) λh' e k=>{_,H,I.kept k,?_,q}
 by_cases a:j>i
 .rw[aiN a,aiN a];exact{1}
 .rw[aiL a,aiL a];exact{1}
inductive tF(xs:fy V)(H:Hp)(Q:VK):Z3
 |m i j(_:xs=[.int i,.int j])(_:Q (.int (if j<i then j else i)) H)
def qK(b:X.calm=Z1):dh X (.builtin "min") tF:=by
 intro X4 s σ H xs us Q I r h;let⟨i,j,rfl,q⟩:=h;let⟨u,c,rfl,⟨t,rfl⟩,⟨t',rfl⟩⟩:=vals2 r;refine min_two_ints (I.ok.hd b) λh' e k=>{_,H,I.kept k,?_,q}
 by_cases a:j<i
 .rw[aiN a,aiN a];exact{1}
 .rw[aiL a,aiL a];exact{1}
inductive oR(xs:fy V)(H:Hp)(Q:VK):Z3
 |m i(_:xs=[.int i])(_:i.natAbs.log2<1920)(_:Q (.str (toString i)) H)
def eX:dh X (.type "str") oR:=by intro X4 s σ H xs us Q I r h;let⟨i,rfl,a,q⟩:=h;let⟨u,rfl,t,rfl⟩:=vals1 r;exact PySem.P.str_of_int a {.str _,H,I.tok _,{1},q}
end
structure uE(h:Heap)(x dx C:jl)(mA:Z6->nt mu):Z3 where
 obj:h.get? x=some (instObj C dx)
 ns:h.Ns1 dx mA
 ne:dx≠x
def Gy{h:Heap}{dx:jl}{mA:Z6->nt mu}(n:h.Ns1 dx mA):∃od,h.get? dx=some od/\∀name,lookIn name od=some (mA name):=by
 let⟨o,es,ep,f,l,j,_,c⟩:=n;refine{o,f,λname=>?_};let e:=c name;unfold nsFind findBy at e;rw[←Array.find?_toList] at e;unfold lookIn;rw[l];dsimp only;split
 .grind
 .rename_i q;rw[q] at e;let a:es.toList.any (·.refKey)=Z2:=by rw[List.any_eq_false];intro y i;let⟨z,t,b⟩:=j y<|Array.mem_toList_iff.mp i;simp[DictEntry.refKey,b]
  let g:¬es.toList.any (·.refKey)=Z1:=by grind
  rw[aiL g];exact congrArg some e
def uE.look{h:Heap}{x dx C:jl}{mA:Z6->nt mu}(I:uE h x dx C mA):∃od,PySem.W.InstAt h x (instObj C dx) C (some od)/\∀name,lookIn name od=some (mA name):=
 let ⟨od,ho,hl⟩:=Gy I.ns
 {od,⟨I.obj,J,J,ho⟩,hl}
section
variable{prog:t6}{w:t7}{A:Around}{E:mu->q8->Z3}{s:q8}{K:Frag}{x dx C f:jl}{mA:Z6->nt mu}{name:Z6}{v:mu}
def get_map{a:Bool}{Q:mu->q8->Z3}(X:K.In s.heap)(I:uE s.heap x dx C mA)(g:plainGet K C name=Z1)(e:hasDictIn K C=Z1)(f:findIn K (.ref C) name=some Z0)(i:mA name=some v)(b:handedIn v=Z1)(h:Q v {s with toks:=s.toks+1}) :
  wpAny (model prog w) A (getAttr (.ref x) name a) Q E s:=by
 let⟨od,b4,c⟩:=I.look;exact PySem.W.get_value X b4 (alQ g).1 (PySem.W.findObj_own e f J (by rw[c,i])) b h
def HL{pl:Sem Bool}{Q:mu×fy mu->q8->Z3}(X:K.In s.heap)(I:uE s.heap x dx C mA)(a:plainGet K C name=Z1)(c:findIn K (.ref C) name=some (some (.ref f)))(e:isFn K (.ref f)=Z1)(g:mA name=Z0)(h:Q (.ref f,[.ref x]) s) :
  wpAny (model prog w) A (getMethod (.ref x) name pl) Q E s:=by
 let⟨od,b4,b⟩:=I.look;exact PySem.W.method_fn X b4 (alQ a).1 (alQ a).2 c (amd.mp e) (by show(lookIn name od).map (·.isSome)=some Z2;rw[b,g];rfl) h
def QY{ns:fy Z6}{Q:Unit->q8->Z3}(X:K.In s.heap)(I:uE s.heap x dx C mA)(hs:findIn K (.ref C) "__setattr__" = some (some (.builtin "object.__setattr__")))(t:plainOver K C=Z1)(p:takerIn K C name=some Z0)(n:hasDictIn K C=Z1)(u:PySem.Within mA ns)(hsz:ns.length≤Z7)(h:∀h',uE h' x dx C (λy=>if y=name then some v else mA y)->Heap.SameBut dx s.heap h'->Q () {s with heap:=h',toks:=s.toks+2}) :
  wpAny (model prog w) A (setAttr (.ref x) name v) Q E s:=by
 let⟨od,b4,z⟩:=I.look;refine PySem.W.set_plain X b4 hs (PySem.W.osa_open (s:={s with toks:=s.toks+1}) (r:=Z0) X b4 t p λb=>?_);let⟨cd,m,f⟩:=PySem.W.any_some n;let o:s.heap.get? x=some ⟨.ref C,some dx,.plain,#[]⟩:=I.obj;refine aiF<|aiJ<|aiF<|aiF<|wpAny_loadPart o<|aiF<|Looks.here (s:={s with toks:=s.toks+1}) (PySem.W.looks_clsIn X m) ?_;rw[f];refine aiJ (a:=some dx)<|aiF<|aiJ<|aiF ?_;refine wpAny_nsSet1 (s:={s with toks:=s.toks+1}) I.ns λh' c e=>?_
 let⟨B,q,l,g,j,i⟩:=c.count<|PySem.Within.cons name v u;refine aiF<|wpAny_lookBehind g (by rw[j];exact pastItsLine_dict<|ai8 i (by grind)) ?_;exact aiJ<|h _ {(e.2 _<|ajH I.ne).trans I.obj,c,I.ne} e
def zD{R:Result->q8->Z3}{vs:fy mu}{a:fy (Z6×mu)}(X:K.In s.heap)(b:makesIn K C=Z1)(hi:findIn K (.ref C) "__init__" = some (some (.ref f)))(c:typeIn K (.ref f)=some (.type "function"))(h:codeAny (model prog w) (A.under (.builtin "type.__call__" {.ref C::vs,a})) (.call (.ref f) {.ref (~~~s+1)::vs,a}) (PySem.W.InitBack (~~~s+1) R)
   {s with heap:=(s.heap.push emptyDict).push (instObj C (~~~s))}) :
  codeAny (model prog w) A (.call (.ref C) ⟨vs,a⟩) R s:=by
 let⟨e,g,d,t,os⟩:=s;exact PySem.W.make_core (PySem.W.makes_of X b) (PySem.W.looks_findIn X hi) (λself=>PySem.W.bind_fn X self c) (.inl J) h
end
def bq(f:Z6)(v:V):fy (Z6×V)->fy (Z6×V)
 |[]=>[(f,v)]
 |(g,x)::r=>if g=f then(g,v)::r else(g,x)::bq f v r
def tG(f g:Z6)(v:V):∀fs:fy (Z6×V),(bq f v fs).lookup g=if g=f then some v else fs.lookup g
 |[]=>by
  show List.lookup g [(f,v)]=_;by_cases h:g=f
  .let a:(g==f)=Z1:=amd.mpr h;simp only[List.lookup,a,if_pos h]
  .grind
 |(k,x)::r=>by
  let c:=tG f g v r;rw[show bq f v ((k,x)::r) =(if k=f then(k,v)::r else(k,x)::bq f v r) from rfl];by_cases b:k=f
  .grind
  .grind
def rH(f:Z6)(v:V):∀fs:fy (Z6×V),f∈(bq f v fs).map (·.1)/\∀g,g∈fs.map (·.1)->g∈(bq f v fs).map (·.1)
 |[]=>{by simp[bq],λg h=>by simp at h}
 |(k,x)::r=>by
  let⟨a,c⟩:=rH f v r;rw[show bq f v ((k,x)::r) =(if k=f then(k,v)::r else(k,x)::bq f v r) from rfl];by_cases b:k=f
  .grind
  .grind
def fR(f:Z6)(v:V):∀fs:fy (Z6×V),(bq f v fs).length≤fs.length+1
 |[]=>by simp[bq]
 |(k,x)::r=>by
  let b:=fR f v r;rw[show bq f v ((k,x)::r) =(if k=f then(k,v)::r else(k,x)::bq f v r) from rfl];by_cases a:k=f
  .grind
  .grind
def gF.some_of{v:V}{o:nt mu}(r:gF (some v) o):∃u,o=some u/\RelV v u:=by
 cases o with
 |none=>exact(show False from r).elim
 |some u=>exact⟨u,J,r⟩
def gF.none_of{o:nt mu}(r:gF Z0 o):o=Z0:=by
 cases o with
 |none=>rfl
 |some u=>exact(show False from r).elim
def FE{v:V}{u:mu}(r:RelV v u):handedIn u=Z1:=by
 cases v with
 |non=>cases (show u=Value.none from r);rfl
 |bl b=>cases (show u=Value.bool b from r);rfl
 |int i=>let⟨t,e⟩:=(show ∃t,u=Value.int i t from r);cases e;rfl
 |str x=>let⟨t,e⟩:=(show ∃t,u=Value.str x t from r);cases e;rfl
 |byt b=>let⟨t,e⟩:=(show ∃t,u=Value.bytes b t from r);cases e;rfl
 |flt b=>let⟨t,e⟩:=(show ∃t,u=Value.float b t from r);cases e;rfl
 |ref a=>cases (show u=Value.ref a from r);rfl
 |ty n=>cases (show u=Value.type n from r);rfl
section
variable{P:t6}{w:t7}{H H':Hp}{h h':Heap}{a C dx:jl}{fs fs':fy (Z6×V)}
def sL(b:HOk P w H h)(e:H a=some (.ins C dx fs)):∃mA,uE h a dx C mA/\(∀f,gF (fs.lookup f) (mA f))/\PySem.Within mA (fs.map (·.1))/\fs.length≤1000/\H dx=some (.own a):=by let⟨d,z,g,c,mA,n,r,q⟩:=(show bK P w H h a (.ins C dx fs) from b a _ e);exact{mA,⟨c,n,g⟩,r,q,z,d}
end
structure Cls(K:Frag)(C:jl):Z3 where
 pg:plainGet K C Str.empty=Z1
 hd:hasDictIn K C=Z1
 po:plainOver K C=Z1
 sa:findIn K (.ref C) "__setattr__" = some (some (.builtin "object.__setattr__"))
def Cls.get{K:Frag}{C:jl}(c:Cls K C)(f:Z6):plainGet K C f=Z1:=c.pg
def aO(K:Frag)(C:jl)(f:Z6):Z3:=findIn K (.ref C) f=some Z0
def aO.afV{K:Frag}{C:jl}{f:Z6}(n:aO K C f):takerIn K C f=some Z0:=by unfold takerIn;rw[show findIn K (.ref C) f=some Z0 from n];rfl
structure Meth(K:Frag)(C:jl)(m:Z6)(f:jl):Z3 where
 at_:findIn K (.ref C) m=some (some (.ref f))
 fn:isFn K (.ref f)=Z1
 kp:keepIn K (.ref f)=Z1
section
variable{X:Cx}{X4:fy (jl×Obj)}{σ:St}{H:Hp}{s:q8}{a C dx:jl}{fs:fy (Z6×V)}{f:Z6}{v:V}{A:Around}{E:mu->q8->Z3}
def DK{b:Bool}{Q:mu->q8->Z3}(I:Inv X X4 σ H s)(e:H a=some (.ins C dx fs))(c:Cls X.K C)(n:aO X.K C f)(l:fs.lookup f=some v)(h:∀u s',Inv X X4 σ H s'->RelV v u->Q u s'):wpAny (model X.prog X.w) A (getAttr (.ref a) f b) Q E s:=by let⟨mA,O,r,_,_,_⟩:=sL I.hok e;let⟨u,i,g⟩:=gF.some_of (v:=v) (o:=mA f) (by rw[←l];exact r f);exact get_map I.kIn O (c.get f) c.hd n i (FE g)<|h u _ (I.tok _) g
def wk{m:Z6}{g:jl}{pl:Sem Bool}{Q:mu×fy mu->q8->Z3}(I:Inv X X4 σ H s)(e:H a=some (.ins C dx fs))(c:Cls X.K C)(k:Meth X.K C m g)(l:fs.lookup m=Z0)(h:Q (.ref g,[.ref a]) s):wpAny (model X.prog X.w) A (getMethod (.ref a) m pl) Q E s:=by let⟨mA,O,r,_,_,_⟩:=sL I.hok e;let hn:mA m=Z0:=gF.none_of (by rw[←l];exact r m);exact HL I.kIn O (c.get m) k.at_ k.fn hn h
def Ez{y:V}{u:mu}{Q:Unit->q8->Z3}(I:Inv X X4 σ H s)(e:H a=some (.ins C dx fs))(c:Cls X.K C)(n:aO X.K C f)(F:fs.length<1000)(p:RelV y u)(h:∀s',Inv X X4 σ (Z9 H a (.ins C dx (bq f y fs))) s'->Q () s'):wpAny (model X.prog X.w) A (setAttr (.ref a) f u) Q E s:=by
 let⟨mA,O,r,wi,_,j⟩:=sL I.hok e;let m:(fs.map (·.1)).length≤Z7:=by rw[aiE,alW];omega
 refine QY I.kIn O c.sa c.po n.afV c.hd wi m λh' i v=>h _ ?_
 let B:∃o,h'.get? dx=some o:=let ⟨o,_,_,e',_⟩:=i.ns;⟨o,e'⟩;refine I.write (x:=a) (e:=dx) (by rw[e];exact True.intro) (.inr j) (λb q l z=>(v.2 b l).trans z) B ?_;refine{by rwa[ak O.ne],?_,O.ne,i.obj,_,i.ns,λg=>?_,λg t=>?_}
 .let:=fR f y fs;omega
 .show gF ((bq f y fs).lookup g) (if g=f then some u else mA g);rw[tG];by_cases q:g=f
  .rw[aiN q,aiN q];exact p
  .grind
 .by_cases q:g=f
  .rw[q];exact(rH f y fs).1
  .refine(rH f y fs).2 g (wi g λz=>t ?_);show(if g=f then some u else mA g)=Z0;rwa[aiL q]
def Inv.made(I:Inv X X4 σ H s):Inv X X4 σ (Z9 (Z9 H (~~~s) (.own (~~~s+1))) (~~~s+1) (.ins C (~~~s) []))
  {s with heap:=(s.heap.push emptyDict).push (instObj C (~~~s))}:=by
 let f:(s.heap.push emptyDict).get? (~~~s)=some emptyDict:=aiW s.heap rfl;let j:((s.heap.push emptyDict).push (instObj C (~~~s))).get? (~~~s+1)=some (instObj C (~~~s)):=by let:=aiW (s.heap.push emptyDict) (o:=instObj C (~~~s)) rfl;rwa[aj0] at this
 let l:(s.heap.push emptyDict).Ns (~~~s) (λ_=>Z0):={emptyDict,#[],_,f,J,(λe h=>absurd h o8),λ_=>rfl};let g:=I.laid (a:= ~~~s) (o:=.own (~~~s+1)) (h':=s.heap.push emptyDict) (t':=s.toks) (λb u q=>aiI _ q) (aiK _) {_,f};refine g.laid (a:= ~~~s+1) (o:=.ins C (~~~s) []) (t':=s.toks) (λb u q=>aiI _ q) (ak2<|aj0 _ _) ?_;let c:( ~~~s)≠(~~~s)+1:=ajq<|aky _;refine{by rw[ak c,af],ajb _,c,j,λ_=>Z0,(Heap.Ns1.of_empty l).at λo q=>aiI _ q,λ_=>True.intro,λy i=>absurd J i}
def Qz{prog:t6}{w:t7}{env:Env}{e:Expr}{f:Z6}{pos:Pos}{s:q8}{Q:mu->q8->Z3}(b:attributeBase e f env (eval e env)=eval e env)(h:wpAny (model prog w) A (eval e env) (λo a=>wpAny (model prog w) A (getAttr o f Z1) Q E a) E s):wpAny (model prog w) A (eval (.Attribute e f pos) env) Q E s:=
 Attribute_any_ h (by rw[arm_eval_Attribute,b])
end
inductive Gm(K:Frag)(f:Z6)(Q:VK)(x:V)(H1:Hp):Z3
 |m a C dx fs v(_:x=.ref a)(_:H1 a=some (.ins C dx fs))(_:Cls K C)(_:aO K C f)(_:fs.lookup f=some v)(_:Q v H1)
def ahO(K:Frag)(ta:TE)(f:Z6):TE:=λσ H Q=>ta σ H λx H1=>Gm K f Q x H1
inductive EL(K:Frag)(f:Z6)(D:Ends)(σ:St)(y:V)(x:V)(H2:Hp):Z3
 |m a C dx fs(_:x=.ref a)(_:H2 a=some (.ins C dx fs))(_:Cls K C)(_:aO K C f)(_:fs.length<1000)(_:D.nx σ (Z9 H2 a (.ins C dx (bq f y fs))))
def YW(K:Frag)(ta tv:TE)(f:Z6):TS:=λD σ H=>tv σ H λy H1=>ta σ H1 λx H2=>EL K f D σ y x H2
section
variable{X:Cx}{o e value:Expr}{f:Z6}{pos pos' tpos:Pos}{ta tv:TE}
def aZ(g:PE X e ta)(b:attributeBase e f X.env (eval e X.env)=eval e X.env):PE X (.Attribute e f pos) (ahO X.K ta f):=by intro X4 s σ H Q I h;refine Qz b (thn (g X4 s σ H _ I h) λ u s1 ⟨x,H1,I1,rx,a,C,dx,fs,v,ex,ea,c,n,l,q⟩=>?_);subst ex;obtain rfl:u=Value.ref a:=rx;exact DK I1 ea c n l λm s2 j i=>⟨v,H1,j,i,q⟩
def bV(e:PE X o ta)(i:PE X value tv)(hs:swapsWith value (some (.Attribute o f pos')) pos.line X.env=pure Z2):PS X (.Assign [.Attribute o f pos'] value pos) (YW X.K ta tv f):=by intro X4 s σ H D I h;refine plainObj_wpAny_Assign_Attribute (thn (i X4 s σ H _ I h) λ u s1 ⟨y,H1,I1,ry,q⟩=>thn (e X4 s1 σ H1 _ I1 q) λ g s2 ⟨x,H2,I2,rx,a,C,dx,fs,ex,ea,c,n,l,q2⟩=>?_) hs;subst ex;obtain rfl:g=Value.ref a:=rx;exact Ez I2 ea c n l ry λs3 b=>{σ,_,b,q2}
end
section
variable{X:Cx}{X4:fy (jl×Obj)}{σ:St}{H:Hp}{s:q8}{A:Around}{E:mu->q8->Z3}{Q:mu->q8->Z3}{c:mu}{b:Bool}
inductive jZ (K:Frag) (H:Hp):V->mu->Z3 where
 |non:jZ K H .non (.type "NoneType")
 |bl (x:Bool):jZ K H (.bl x) (.type "bool")
 |int (i:Z4):jZ K H (.int i) (.type "int")
 |str (x:Z6):jZ K H (.str x) (.type "str")
 |flt (x:UInt64):jZ K H (.flt x) (.type "float")
 |lst {a:jl} {xs:fy V} (e:H a=some (.lst xs)):jZ K H (.ref a) (.type "list")
 |frz {a:jl} {o:Obj} {xs:fy V} (e:H a=some (.frz o (.lst xs))):jZ K H (.ref a) (.type "list")
 |tup {a:jl} {xs:fy V} (e:H a=some (.tup xs)):jZ K H (.ref a) (.type "tuple")
 |dK {a:jl} {C4:fy (Key×V)} (e:H a=some (.dK C4)):jZ K H (.ref a) (.type "dict")
 |dT {a:jl} {C4:fy (fy Key×V)} (e:H a=some (.dT C4)):jZ K H (.ref a) (.type "dict")
 |ins {a C dx:jl} {fs:fy (Z6×V)} (e:H a=some (.ins C dx fs)) (cl:Cls K C) (ha:findIn K (.ref C) "__class__" = some (some (.builtin "object.__class__")))
   (hn:specialIn K (.builtin "object.__class__") "__get__" = some (some (.builtin "getset_descriptor.__get__"))) (htk:PySem.W.takesIn K (.builtin "object.__class__")=some Z1)
   (hm:mroIn K C (.type "object")=some Z1):jZ K H (.ref a) (.ref C)
def GL{x:V}{u t:mu}(I:Inv X X4 σ H s)(f:RelV x u)(ty:jZ X.K H x t)(e:kitOne X.K t c=some b)(h:∀g,Q (.bool b) {s with toks:=g}) :
  wpAny (model X.prog X.w) A (call (.builtin "isinstance") [u,c]) Q E s:=by
 cases ty with
 |non=>cases (show u=Value.none from f);exact ajK PySem.W.kitx_none I.kIn True.intro e (λz=>nomatch z) h
 |bl y=>cases (show u=Value.bool y from f);exact ajK PySem.W.kitx_bool I.kIn True.intro e (λz=>nomatch z) h
 |int i=>let⟨t,q⟩:=(show ∃t,u=Value.int i t from f);cases q;exact ajK PySem.W.kitx_int I.kIn True.intro e (λz=>nomatch z) h
 |str y=>let⟨t,q⟩:=(show ∃t,u=Value.str y t from f);cases q;exact ajK PySem.W.kitx_str I.kIn True.intro e (λz=>nomatch z) h
 |flt y=>let⟨t,q⟩:=(show ∃t,u=Value.float y t from f);cases q;exact ajK PySem.W.kitx_float I.kIn True.intro e (λz=>nomatch z) h
 |@lst a xs ea=>cases (show u=Value.ref a from f);let⟨_,_,n,_,h1⟩:=(show bK X.prog X.w H s.heap a (.lst xs) from I.hok a _ ea);exact ajK kitx_list I.kIn {_,h1,J} e (λz=>nomatch z) h
 |@frz a ob xs ea=>cases (show u=Value.ref a from f);let⟨_,_,_,n,_,h1⟩:=(show bK X.prog X.w H s.heap a (.frz ob<|.lst xs) from I.hok a _ ea);exact ajK kitx_list I.kIn {_,h1,J} e (λz=>nomatch z) h
 |@tup a xs ea=>cases (show u=Value.ref a from f);let⟨_,_,_,p⟩:=(show bK X.prog X.w H s.heap a (.tup xs) from I.hok a _ ea);let⟨o,h1,h2,_⟩:=p;exact ajK PySem.W.kitx_tuple I.kIn ⟨o,h1,h2⟩ e (λz=>nomatch z) h
 |@dK a C4 ea=>cases (show u=Value.ref a from f);let⟨_,_,vs,_,p⟩:=(show bK X.prog X.w H s.heap a (.dK C4) from I.hok a _ ea);let⟨o,es,ep,h1,h2,_⟩:=p;exact ajK kitx_dict I.kIn ⟨o,h1,h2.1⟩ e (λz=>nomatch z) h
 |@dT a C4 ea=>cases (show u=Value.ref a from f);let⟨_,_,xs,_,o,es,ep,h1,h2,_⟩:=(show bK X.prog X.w H s.heap a (.dT C4) from I.hok a _ ea);exact ajK kitx_dict I.kIn ⟨o,h1,h2.1⟩ e (λz=>nomatch z) h
 |@ins a C dx fs ea cl ha hn htk hm=>cases (show u=Value.ref a from f);let⟨mA,O,_⟩:=sL I.hok ea;let⟨od,b4,_⟩:=O.look;exact ajK (PySem.W.kitx_own (cl.get _) cl.hd ha hn htk hm) I.kIn b4 e (λz=>nomatch z) h
end
structure cH(k:Z5)(A:Around):Z3 where
 hd:A.handled=Z0
 dp:A.depth+3*k+5<recursionLimit
 un:A.units+16*k+200<cLine
def cH.mono{j k:Z5}{A:Around}(r:cH k A)(h:j≤k):cH j A:={r.hd,by let:=r.dp;omega,by let:=r.un;omega}
def cH.deeper{k:Z5}{A:Around}(r:cH (k+1) A)(env:Env):cH k (A.deeper env):=
 {r.hd,by let:=r.dp;show A.depth+1+3*k+5<_;omega,by let:=r.un;show A.units+3+16*k+200<_;omega}
def DP{A:Around}{C:jl}{us:fy mu}{a:fy (Z6×mu)}:(A.under (.builtin "type.__call__" {.ref C::us,a})).depth=A.depth+1:=by first|rfl|simp[Around.under,Code.weight,Code.isCreation,Code.isGuard,Code.isCaller,Code.frames,Code.isFrame,guardIds]
def D9{A:Around}{C:jl}{us:fy mu}{a:fy (Z6×mu)}:(A.under (.builtin "type.__call__" {.ref C::us,a})).units=A.units+1:=by first|rfl|simp[Around.under,Code.cUnits,Code.frames,Code.isFrame]
def cH.make{k:Z5}{A:Around}(r:cH (k+1) A)(C:jl)(us:fy mu)(a:fy (Z6×mu)):cH k (A.under (.builtin "type.__call__" {.ref C::us,a})):=
 {r.hd,by let:=r.dp;rw[DP];omega,by let:=r.un;rw[D9];omega}
def cH.depth{k:Z5}{A:Around}(r:cH k A):A.depth<recursionLimit:=by let:=r.dp;omega
def cH.units{k:Z5}{A:Around}(r:cH k A):A.units+64<cLine:=by let:=r.un;omega
def HV:TA:=λ_ H Q=>Q [] H
def agv(ta:TE)(tr:TA):TA:=λσ H Q=>ta σ H λx H1=>tr σ H1 λxs H2=>Q (x::xs) H2
section
variable{X:Cx}{e:Expr}{es:fy Expr}{te:TE}{t:TA}{pos:Pos}
def ah:PA X [] HV:=λ_ _ _ _ H Q I h=>akw {[],H,I,.nil,h}
def aa(a:PE X e te)(b:PA X es t)(hs:starEach (e::es) X.env =(Z2,eval e X.env)::starEach es X.env:=by rfl):PA X (e::es) (agv te t):=by intro pos X4 s σ H Q I h;rw[hs];show wpAny _ _ (spliced ((Z2,eval e X.env)::backTo pos (starEach es X.env))) _ _ s;refine akj (thn (a X4 s σ H _ I h) λ u s1 ⟨x,H1,I1,r1,q1⟩=>?_);exact thn (b pos X4 s1 σ H1 _ I1 q1) λ us s2 ⟨xs,H2,I2,r2,q2⟩=>{x::xs,H2,I2,.cons r1 r2,q2}
def ahD(t:TA):TE:=λσ H Q=>t σ H λxs H1=>xs.length≤Z7/\∀p,H1 p=Z0->Q (.ref p) (Z9 H1 p<|.tup xs)
def agU(t:TA):TE:=λσ H Q=>t σ H λxs H1=>xs.length≤Z7/\∀p,H1 p=Z0->Q (.ref p) (Z9 H1 p<|.lst xs)
def eW{x1}(h:PA X es t):PE X (.Tuple es x1 pos) (ahD t):=by intro X4 s σ H Q I a;refine wpAny_Tuple_spliced (thn (h pos X4 s σ H _ I a) λ us s1 ⟨xs,H1,I1,r,z,q⟩=>{by rwa[←r.length],?_});let c:H1 (~~~s1)=Z0:=I1.hok.fresh<|aiK _;refine{.ref (~~~s1),Z9 H1 (~~~s1)<|.tup xs,I1.laid (t':=s1.toks) (λb u e=>aiI _ e) (aiK _) ?_,J,q _ c};exact{z,us,r,{_,aiW _ J,J,1}}
def bI(h:PA X es t):PE X (.List es pos) (agU t):=by intro X4 s σ H Q I a;refine wpAny_List_spliced (thn (h pos X4 s σ H _ I a) λ us s1 ⟨xs,H1,I1,r,z,q⟩=>{by rwa[←r.length],?_});let c:H1 (~~~s1)=Z0:=I1.hok.fresh<|aiK _;refine{.ref (~~~s1),Z9 H1 (~~~s1)<|.lst xs,I1.laid (t':=s1.toks) (λb u e=>aiI _ e) (aiK _) ?_,J,q _ c};exact{z,us,(0),r,aiW _ J}
end
abbrev Sp:=fy V->Hp->VK->XK->Z3
abbrev CXT:=fy Env->Hp->q8->XK->mu->q8->Z3
structure uT(P:t6)(w:t7)(K:Frag)(mg:Z6->nt mu)(base:Heap)(A:Around)(outer:fy Env)(s:q8)(H:Hp):Z3 where
 frames:A.frames=some outer
 mod:Mod K mg base
 bs:∀b o,base.get? b=some o->s.heap.get? b=some o/\H b=Z0
 bsz:base.objs.size≤~~~s
 jw:s.heap.FunFrames base outer
 frf:∀ b∈frs outer,H b=Z0
 hok:HOk P w H s.heap
 bare:AllBare s.gens
inductive CE(outer:fy Env)(P:t6)(w:t7)(H:Hp)(s:q8)(Q:VK)(u:mu)(s':q8):Z3
 |m v H'(_:s'.os=s.os)(_:AllBare s'.gens)(_:Un (frs outer) [] H H' s.heap s'.heap)(_:HOk P w H' s'.heap)(_:RelV v u)(_:Q v H')
def CR(CX:CXT)(outer:fy Env)(P:t6)(w:t7)(H:Hp)(s:q8)(Q:VK)(E:XK)(r:Result)(s':q8):Z3:=
 match r with
 |.ok (.ret u)=>CE outer P w H s Q u s'
 |.ok _=>False
 |.error e=>CX outer H s E e s'
structure aM(P:t6)(w:t7)(K:Frag)(mg:Z6->nt mu)(base:Heap)(CX:CXT)(k:Z5)(f:jl)(fd:q9)(ps:fy Z6)(sp:Sp):Z3 where
 len:∀vs H Q E,sp vs H Q E->vs.length=ps.length
 run:∀(A:Around)(outer:fy Env)(s:q8)(H:Hp)(args:Args)(us:fy mu)(vs:fy V)(Q:VK)(E:XK),cH k A->uT P w K mg base A outer s H->BindsTo s fd args (ps.zip us)->Vals vs us->sp vs H Q E →
  codeAny (model P w) A (.call (.ref f) args) (CR CX outer P w H s Q E) s
def uT.make{P:t6}{w:t7}{K:Frag}{mg:Z6->nt mu}{base:Heap}{A:Around}{outer:fy Env}{s:q8}{H:Hp}(e:uT P w K mg base A outer s H)(C:jl)(us:fy mu)(a:fy (Z6×mu)) :
  uT P w K mg base (A.under (.builtin "type.__call__" {.ref C::us,a})) outer s H:={by first|exact e.frames|(simpa[Around.under,Code.envs,Code.isFrame,pushEnvs] using e.frames),e.mod,e.bs,e.bsz,e.jw,e.frf,e.hok,e.bare}
section
variable{X:Cx}{X4:fy (jl×Obj)}{σ:St}{H:Hp}{s s':q8}
def Inv.Hw(I:Inv X X4 σ H s):uT X.prog X.w X.K X.mg X.base X.A X.stack s H:=
 {I.ok.frames,I.ok.mod,I.bs,ai8 I.ok.bsz I.sz,I.stack,I.xZ,I.hok,I.bare}
def Inv.after{Q:VK}{u:mu}(I:Inv X X4 σ H s)(h:CE X.stack X.prog X.w H s Q u s'):EP X X4 σ Q u s':=by let⟨v,H',os,a,un,e,r,q⟩:=h;let⟨f,g,d,t,c⟩:=s';obtain rfl:c=s.os:=os;exact{v,H',I.call (h':=f) (g':=g) (d':=d) (t':=t) (ch:=[]) un e a λb z=>absurd z o8,r,q}
end
def Binds(K:Frag)(fd:q9)(ps:fy Z6)(ds:fy mu):Z3:=
 ∀(s:q8)(us:fy mu),K.In s.heap->(us++ds).length=ps.length->BindsTo s fd {us,[]} (ps.zip (us++ds))
def Binds.all{K:Frag}{fd:q9}{ps:fy Z6}(h:∀us:fy mu,us.length=ps.length->bindArgs fd {us,[]}=pure (ps.zip us)):Binds K fd ps []:=λs us _ a=>by rw[akq] at a ⊢;exact .of_eq<|h us a
section
variable{X:Cx}{CX:CXT}{k:Z5}{f C:jl}{fd:q9}{ps:fy Z6}{sp:Sp}{dvs:fy V}{ds:fy mu}{E:XK}{x m:Z6}{p pos apos:Pos}{e o:Expr}{es:fy Expr}{ta:TE}{t:TA}
structure Mk(K:Frag)(C f:jl):Z3 where
 makes:makesIn K C=Z1
 init:findIn K (.ref C) "__init__" = some (some (.ref f))
 fn:isFn K (.ref f)=Z1
 kp:keepIn K (.ref C)=Z1
end
structure aE(N P:fy Z6)(sc:Scope):Z3 where
 kind:sc.kind=.function
 co:sc.isCoroutine=Z2
 gen:sc.isGenerator=Z2
 nd:N.Nodup
 pre:N.take P.length=P
 par:∀ x∈P,sc.names.lookup x=some .local∨sc.names.lookup x=some .cell
 VH:∀ y∈sc.names,y.2≠.free
def yQ{kindOf:Z6->nt NameKind}{x:Z6}:∀{binds:fy (Z6×mu)}{m:Z6->nt mu},(∀v,(x,v)∉binds)->bindL kindOf binds m x=m x
 |[],_,_=>rfl
 |(n,v)::r,m,h=>by
  unfold bindL;rw[yQ λw a=>h w<|ai3 _ a];split
  .let:x≠n:=by rintro rfl;exact h v ajM
   simp[this]
  .rfl
def yD{kindOf:Z6->nt NameKind}{x:Z6}:∀{binds:fy (Z6×mu)}{m:Z6->nt mu},(∀v,(x,v)∉binds)->bindC kindOf binds m x=m x
 |[],_,_=>rfl
 |(n,v)::r,m,h=>by
  unfold bindC;rw[yD λw a=>h w<|ai3 _ a];split
  .rfl
  .let:x≠n:=by rintro rfl;exact h v ajM
   simp[this]
def yu{kindOf:Z6->nt NameKind}{x:Z6}{v:mu}:∀{P:fy Z6}{vs:fy mu}{i:Z5}{m:Z6->nt mu},P.Nodup->P[i]?=some x->vs[i]?=some v->kindOf x=some .local →
  bindL kindOf (P.zip vs) m x=some v
 |[],_,_,_,_,h,_,_=>by simp at h
 |_::_,[],_,_,_,_,h,_=>by simp at h
 |p::P,w::vs,0,m,nd,h1,h2,hk=>by simp at h1 h2;subst h1;subst h2;show bindL kindOf ((p,w)::P.zip vs) m p=_;unfold bindL;rw[yQ λv a=>(ajg.mp nd).1 (amA a).1,aiN hk];simp
 |p::P,w::vs,i+1,m,nd,h1,h2,hk=>by show bindL kindOf ((p,w)::P.zip vs) m x=_;unfold bindL;exact yu (i:=i) (ajg.mp nd).2 (⇑h1) (⇑h2) hk
def yp{kindOf:Z6->nt NameKind}{x:Z6}{v:mu}:∀{P:fy Z6}{vs:fy mu}{i:Z5}{m:Z6->nt mu},P.Nodup->P[i]?=some x->vs[i]?=some v->kindOf x≠some .local →
  bindC kindOf (P.zip vs) m x=some v
 |[],_,_,_,_,h,_,_=>by simp at h
 |_::_,[],_,_,_,_,h,_=>by simp at h
 |p::P,w::vs,0,m,nd,h1,h2,hk=>by simp at h1 h2;subst h1;subst h2;show bindC kindOf ((p,w)::P.zip vs) m p=_;unfold bindC;rw[yD λv a=>(ajg.mp nd).1 (amA a).1,aiL hk];simp
 |p::P,w::vs,i+1,m,nd,h1,h2,hk=>by show bindC kindOf ((p,w)::P.zip vs) m x=_;unfold bindC;exact yp (i:=i) (ajg.mp nd).2 (⇑h1) (⇑h2) hk
def start(N:fy Z6)(vs:fy V):St:=vs.map some++List.replicate (N.length-vs.length) Z0
def aX(CX:CXT)(P:t6)(w:t7)(K:Frag)(mg:Z6->nt mu)(base:Heap)(N:fy Z6)(qual:Z6)(scope:Scope)(f:jl)(cd:mu)(A:Around)(outer:fy Env)(s:q8)(H:Hp)(E:XK):Cx where
 prog:=P
 w:=w
 K:=K
 mg:=mg
 base:=base
 A:=A.deeper (envOfC qual scope (~~~s) f cd)
 N:=N
 s₀:=s
 H₀:=H
 env:=envOfC qual scope (~~~s) f cd
 outer:=outer
 stack:=envOfC qual scope (~~~s) f cd::outer
 ex:=[]
 calm:=Z1
 fn:=λ_=>Z1
 pn:=[]
 xe:=λe s'=>wpAny (model P w) (A.deeper<|envOfC qual scope (~~~s) f cd) (leaving (envOfC qual scope (~~~s) f cd) e) (λ_ a=>CX outer H s E e a) (λb a=>CX outer H s E b a) s'
def z8{a:Scope}{n:Z5}{x:Z6}(h:a.names.lookup x=some .cell):∃c,(cellsFrom n a.names []).lookup x=some c:=by let q:=amF a.names n []<|.inl h;exact akz.mp q
def Gn{CX:CXT}{P:t6}{w:t7}{K:Frag}{mg:Z6->nt mu}{base:Heap}{N ps:fy Z6}{qual:Z6}{scope:Scope}{f:jl}{cd:mu}{A:Around}{outer:fy Env}{s s1:q8}{H:Hp}{E:XK}{us:fy mu}{vs:fy V}(S:aE N ps scope)(L:A.handled=Z0)(g:uT P w K mg base A outer s H)(Y:vs.length=ps.length)(r:Vals vs us)(x:InCallC s (~~~s) (bindL (envOfC qual scope (~~~s) f cd).kindOf (ps.zip us) λ_=>Z0) (cellsFrom (~~~s+1) scope.names []) (bindC (envOfC qual scope (~~~s) f cd).kindOf (ps.zip us) λ_=>Z0) s1) :
  Inv (aX CX P w K mg base N qual scope f cd A outer s H E) [] (start N vs) H s1:=by
 let O:ps.length≤N.length:=by let:=congrArg List.length S.pre;rw[aiU] at this;omega
 let⟨h1,U,rfl,B⟩:=x.done;let l:∀b:jl,b∉(aX CX P w K mg base N qual scope f cd A outer s H E).ex:=λb z=>absurd (show b∈([]:fy jl) from z) o8
 refine⟨{g.mod,S.kind,J,J,aiK _,λy z c h1 h2=>?_,λy j=>?_,λy c _ h=>?_,λ_=>L,Around.frames_deeper g.frames,.inr ⟨J,J⟩,λb z=>absurd z<|l b,g.bs,g.bsz,λb _ _=>l b,λb z=>absurd z<|l b,g.jw,g.frf},
  J,g.bare,Un.kept B,{_,x.toInCall.ns,λi y v h1 h2 h3=>?_},λy c h=>{_,x.cell y c h},g.hok.fresh<|aiK _,λy c h=>?_,λp o=>absurd (show p∈([]:fy (jl×Obj)) from o) o8,g.hok.kept B,?_⟩
 .exact name_of_addr x.apart (akB h1) (akB h2)
 .let j:scope.names.lookup y=some .cell∨scope.names.lookup y=some .free:=j;rcases j with j|j
  .exact z8 j
  .exact absurd J (S.VH _<|akB j)
 .exact ajr (x.above y c<|akB h)
 .let hi:i<vs.length:=by
   unfold start at h2;by_cases hi:i<vs.length
   .exact hi
   .grind
  let F:vs[i]?=some v:=by
   unfold start at h2;rw[aiM (⇑hi),aiR] at h2;cases e:vs[i]? with
   |none=>rw[e] at h2;cases h2
   |some a=>rw[e] at h2;cases h2;rfl
  let⟨u,t,C⟩:=r.get F;let o:ps[i]?=some y:=by rwa[←S.pre,aj7 o6]
  let m:ps.Nodup:=by rw[←S.pre];exact S.nd.sublist<|List.take_sublist _ _
  exists u,C;rcases S.par y (aiQ o) with k|k
  .exact .inl {k,yu m o t k}
  .let⟨c,e⟩:=z8 (n:= ~~~s+1) k;refine .inr {.inl k,c,e,?_};let q:=x.cell y c e;rw[yp m o t (by show scope.names.lookup y≠_;rw[k];decide)] at q;exact q
 .exact g.hok.fresh (ajr<|x.above y c<|akB h)
 .unfold start;show _=N.length;rw[ajj,aiE,ajV];omega
def LN{CX:CXT}{P:t6}{w:t7}{K:Frag}{mg:Z6->nt mu}{base:Heap}{k:Z5}{f:jl}{name qual:Z6}{c:Arguments}{g:fy Stmt}{scope:Scope}{U kV m L a ct oc:mu}{O od:nt jl}{C:sA (nt mu)}{N ps:fy Z6}{sp:Sp}(lk:K.lookup f=some {oc,od,.func (fnOf name qual c g scope U kV m L O a ct),C})(B:codeIn K a qual=Z1)(S:aE N ps scope)(len:∀vs H Q E,sp vs H Q E->vs.length=ps.length)(h:∀(A:Around)(outer:fy Env)(s:q8)(H:Hp)(vs:fy V)(Q:VK)(E:XK),cH k (A.deeper (envOfC qual scope (~~~s) f a))->sp vs H Q E →
   ∃t,PSs (aX CX P w K mg base N qual scope f a A outer s H E) g t/\t {nx:=λ_ H'=>Q .non H',rt:=Q} (start N vs) H) :
  aM P w K mg base CX (k+1) f (fnOf name qual c g scope U kV m L O a ct) ps sp:=by
 refine{len,λA outer s H args us vs Q E z j hb r l=>?_};let hl:=len _ _ _ _ l;let Y:K.In s.heap:=j.mod.kin.keeps λb o e=>(j.bs b o e).1
 let p:s.heap.NoLimit:=j.mod.nolimit.keeps λb o e=>(j.bs b o e).1
 let i:∀ y∈ps.zip us,scope.names.lookup y.1=some .local∨(scope.names.lookup y.1=some .cell/\((cellsFrom (~~~s+1) scope.names []).lookup y.1).isSome=Z1):=fun ⟨n,v⟩ hy=>by
  rcases S.par n (amA hy).1 with q|q
  .exact .inl q
  .exact .inr {q,amF _ _ _<|.inl q}
 refine codeAny_call_function z.depth (Y _ _ lk) J S.co S.gen J (PySem.W.codeRec_of Y B)<|hb _ _ _ _ ?_;refine wpAny_newFunctionEnv_cells S.kind i λenv he s1 x=>?_
 subst he;refine{p.keeps x.toInCall.keep,codeAny_func ?_};let⟨t,ht,hq⟩:=h A outer s H vs Q E (z.deeper _) l;let I:Inv (aX CX P w K mg base N qual scope f a A outer s H E) [] (start N vs) H s1:=Gn S z.hd j hl r x;refine ajy (ht [] s1 (start N vs) H _ I hq) (λfl s' hs=>?_) λe s' hs=>hs
 let fin:∀{σ':St}{H':Hp}{v:V}{u:mu},Inv (aX CX P w K mg base N qual scope f a A outer s H E) [] σ' H' s'->RelV v u->Q v H'->CE outer P w H s Q u s':=
  λ{σ' H' v u}b4 F q=>⟨v,H',b4.os,b4.bare,b4.base,b4.hok,F,q⟩
 cases fl with
 |ret u=>let⟨v,σ',H',b4,F,q⟩:=hs;exact fin b4 F q
 |next=>let⟨σ',H',b4,q⟩:=hs;exact fin (v:=V.non) (u:=Value.none) b4 J q
 |brk=>let⟨_,_,_,q⟩:=hs;exact False.elim q
 |cont=>let⟨_,_,_,q⟩:=hs;exact False.elim q
section
variable{X:Cx}{x:Z6}{p pos:Pos}{e:Expr}{es:fy Expr}{t:TA}{id T:String}{r:fy V->Hp->VK->Z3}
def tCB(r:fy V->Hp->VK->Z3)(t:TA):TE:=λσ H Q=>t σ H λvs H1=>r vs H1 Q
def aL(f:dh X (.builtin id) r)(i:Gl X x)(c:X.mg x=Z0)(l:bootBuiltins x=some (.builtin id))(j:PA X (e::es) t)(hn:x≠"__name__":=by decide)(a:(x ==("__debug__":Str))=Z2:=by decide)(g:starEach (e::es) X.env =(Z2,eval e X.env)::starEach es X.env:=by rfl)(b:(backTo pos (starEach es X.env)).any (·.1)=Z2:=by rfl):PE X (.Call (.Name x p) (e::es) [] pos) (tCB r t):=by intro X4 s σ H Q I h;refine ajC<|gO I i c l ?_ hn a;exact alG (thn (j pos X4 s σ H _ I h) λ us s1 ⟨vs,H1,I1,r1,q1⟩=>f X4 s1 σ H1 vs us Q I1 r1 q1) g b
def bF(f:dh X (.type T) r)(i:Gl X x)(c:X.mg x=Z0)(l:bootBuiltins x=some (.type T))(j:PA X (e::es) t)(hn:x≠"__name__":=by decide)(a:(x ==("__debug__":Str))=Z2:=by decide)(g:starEach (e::es) X.env =(Z2,eval e X.env)::starEach es X.env:=by rfl)(b:(backTo pos (starEach es X.env)).any (·.1)=Z2:=by rfl):PE X (.Call (.Name x p) (e::es) [] pos) (tCB r t):=by intro X4 s σ H Q I h;refine ajC<|gO I i c l ?_ hn a;exact ajt (thn (j pos X4 s σ H _ I h) λ us s1 ⟨vs,H1,I1,r1,q1⟩=>f X4 s1 σ H1 vs us Q I1 r1 q1) g b
end
end L2
namespace HT
open PySem PyProof.Rows
def lexLt:fy Z4->fy Z4->Bool
 |[],[]=>Z2
 |[],_::_=>Z1
 |_::_,[]=>Z2
 |x::xs,y::ys=>if x=y then lexLt xs ys else decide (x<y)
def gr(x y:Z4)(xs ys:fy Z4):lexLt (x::xs) (y::ys)=if x=y then lexLt xs ys else decide (x<y):=rfl
def za:lexLt [] []=Z2:=rfl
def IA(A:Around)(s:q8)(a:Z4)(t:Tok)(c:Z4)(u:Tok):∃e,SeqAt.EqAt A s (.int a t) (.int c u) e/\(e=Z1↔a=c):=
 {(a==c),SeqAt.EqAt.int_int a t c u,o8}
section
variable{prog:t6}{w:t7}{A:Around}{E:mu->q8->Z3}{s:q8}
def P9{t b:jl}{vs ws:fy mu}{Q:mu->q8->Z3}(v:IsTup s.heap t vs.toArray)(u:IsTup s.heap b ws.toArray)(r:vs≠[])(h1:ws=[]->Q (.ref t) s)(h2:ws≠[]->Q (.ref (~~~s)) {s with heap:=s.heap.push {.type "tuple",Z0,.seq (vs++ws).toArray,#[]}})(hsz:vs.length+ws.length≤Z7):wpAny (model prog w) A (binaryOp .Add (.ref t) (.ref b)) Q E s:=by
 let⟨⟨cls,dd,data,p⟩,i,l,n,o⟩:=id v;let⟨⟨q,h,data2,c⟩,a,f,m,g⟩:=id u;simp only at l o f g;subst l o f g;let e:vs.toArray++ws.toArray =(vs++ws).toArray:=by simp
 by_cases j:ws=[]
 .exact concat_meets {_,i,J} {_,a,J} amj seq_tuple_add alq alf (ak3 _ _)
   (tuple_addW1 t b vs.toArray ws.toArray n m dd h p c (⇑r) (by simp[j])) {i,a,h1 j}
 .refine concat_meets {_,i,J} {_,a,J} amj seq_tuple_add alq alf (ak3 _ _)
   (tuple_addW2 t b vs.toArray ws.toArray n m dd h p c (⇑r) (⇑j) (by grind)) {i,a,?_}
  rw[e];exact h2 j
def sIx(n d:Z5):nt Z4->Z5
 |none=>d
 |some v=>if v<0 then(v +↥n).toNat else min v.toNat n
def jT(n d:Z5):sIx n d Z0=d:=rfl
def g8(n d k:Z5):sIx n d (some ↥k)=min k n:=by show(if ↥k<0 then(↥k +↥n).toNat else min (k:Z4).toNat n)=min k n;rw[aiL o6,Int.toNat_natCast]
def aci(n d:Z5)(a:d≤n)(o:nt Z4):sIx n d o≤n:=by
 cases o with
 |none=>exact a
 |some v=>
  show(if v<0 then(v +↥n).toNat else min v.toNat n)≤n;by_cases b:v<0
  .rw[aiN b];omega
  .grind
def Dm(v:Z4)(n d:Z5):(if v<0 then max (v +↥n) 0 else min v ↥n) =((sIx n d (some v):Z5):Z4):=by
 show(if v<0 then max (v +↥n) 0 else min v ↥n) =(((if v<0 then(v +↥n).toNat else min v.toNat n):Z5):Z4);by_cases a:v<0
 .grind
 .grind
def Ex(lo hi:nt Z4)(n:Z5):Builtin.Slice.sliceAdjust lo hi 1 ↥n =(((sIx n 0 lo:Z5):Z4),((sIx n n hi:Z5):Z4)):=by
 let h1:¬(↥1<0):=by omega
 unfold Builtin.Slice.sliceAdjust;simp only[h1,if_false];refine Prod.ext ?_ ?_
 .cases lo with
  |none=>rfl
  |some v=>exact Dm v n 0
 .cases hi with
  |none=>rfl
  |some v=>exact Dm v n n
def DQ(i j:Z5):Builtin.Slice.slicePlaces ↥i ↥j 1=j-i:=by
 unfold Builtin.Slice.slicePlaces;let h1:↥1>0:=by omega
 simp only[h1,if_true,Int.ediv_one];split <;> omega
def wC{v:mu}{o:nt Z4}{Q:nt Z4->q8->Z3}(p:IsPart v o)(h:Q o s):wpAny (model prog w) A (Builtin.Slice.slicePartIndex v) Q E s:=by
 cases p with
 |none=>exact slicePart_none h
 |int i t=>exact slicePart_int h
def vg{f:jl}{e c:mu}{lo hi:nt Z4}{n:Z5}{Q:Z4×Z4×Z5->q8->Z3}(hs:s.heap.IsSliceOf f e c .none)(pl:IsPart e lo)(i:IsPart c hi)(h:Q (((sIx n 0 lo:Z5):Z4),1,sIx n n hi-sIx n 0 lo) s):wpAny (model prog w) A (Builtin.Slice.sliceApplied (.ref f) (pure ↥n)) Q E s:=by let⟨os,b,g,a⟩:=id hs;unfold Builtin.Slice.sliceApplied Builtin.Slice.sliceFields;refine aiF<|aiF<|ajD b a (x:=e) J<|aiF<|ajD b a (x:=c) J<|aiF<|ajD b a (x:=.none) J<|aiJ ?_;refine aiF<|slicePart_none ?_;show wpAny _ _ (if (↥1==0)=Z1 then _ else _) _ _ s;rw[aiL o7];refine aiF<|wC pl<|aiF<|wC i<|aiF<|aiJ ?_;show wpAny _ _ (match Builtin.Slice.sliceAdjust lo hi 1 ↥n with|(lo,hi)=>pure (lo,↥1,Builtin.Slice.slicePlaces lo hi 1)) _ _ s;rw[Ex lo hi n];show wpAny _ _ (pure (((sIx n 0 lo:Z5):Z4),↥1,Builtin.Slice.slicePlaces ((sIx n 0 lo:Z5):Z4) ((sIx n n hi:Z5):Z4) 1)) _ _ s;rw[DQ];exact aiJ h
def Ie(xs:sA mu)(i k:Z5):((List.range k).filterMap λ(m:Z5)=>xs[(↥i +↥m*1).toNat]?).toArray =((xs.toList.drop i).take k).toArray:=by
 let e:(λ(m:Z5)=>xs[(↥i +↥m*1).toNat]?)=λm=>xs[i+m]?:=by grind
 rw[e];let:=pick_run xs i k;rw[alX] at this;let a:((λx=>xs[x]?) ∘ λx=>i+x)=λm=>xs[i+m]?:=rfl
 rw[a] at this;rw[this]
def sZ{t e:jl}{items:sA mu}{l j:mu}{lo hi:nt Z4}{Q:mu->q8->Z3}(b:IsTup s.heap t items)(hs:s.heap.IsSliceOf e l j .none)(pl:IsPart l lo)(n:IsPart j hi)(q:¬(sIx items.size 0 lo=0/\sIx items.size items.size hi=items.size))(h:Q (.ref (~~~s)) {s with heap:=s.heap.push {.type "tuple",Z0,.seq ((items.toList.drop (sIx items.size 0 lo)).take (sIx items.size items.size hi-sIx items.size 0 lo)).toArray,#[]}})(hsz:items.size≤Z7):wpAny (model prog w) A (getItem (.ref t) (.ref e)) Q E s:=by
 let a:sizeOk (.seq ((items.toList.drop (sIx items.size 0 lo)).take (sIx items.size items.size hi-sIx items.size 0 lo)).toArray):=by show((items.toList.drop<|sIx items.size 0 lo).take<|sIx items.size items.size hi-sIx items.size 0 lo).toArray.size≤Z7;rw[ajx,aiU,alx,ajS];omega
 let p:sIx items.size items.size hi≤items.size:=aci _ _ (aiK _) hi;let⟨os,g,f,o⟩:=id hs;let c:s.TypeIs (.ref e) "slice":=⟨os,g,f⟩;unfold getItem
 try with_reducible refine aka ?_
 first|refine aiF (aiJ ?_)|skip
 refine aiF<|wpAny_sequenceKey b.typeIs o7 ?_;refine aiF (ajP (name:=Str.ofString "__getitem__") b.typeIs akD
  (ajR akD b.typeIs entry_tuple_getitem ?_<|args_tuple_getitem _ _))
 show wpAny _ _ (Builtin.Tuple.tupleItemsOf (.ref t) >>= _) _ _ s;refine aiF<|tupleItemsOf_ b ?_;refine aiF<|wpAny_typeOf c ?_;rw[aiN o7];refine aiF<|vg hs pl n ?_;let i:¬((((sIx items.size 0 lo:Z5):Z4)==0 &&↥1==1 &&(sIx items.size items.size hi-sIx items.size 0 lo)==items.size)=Z1):=by grind
 show wpAny _ _ (if (((sIx items.size 0 lo:Z5):Z4)==0 &&↥1==1 &&(sIx items.size items.size hi-sIx items.size 0 lo)==items.size)=Z1 then _ else _) _ _ s;rw[aiL i,Ie]
 first
  |exact aiF (m:=Builtin.Tuple.tupleExact _)<|ajB (aiJ {1,aiJ h}) a
  |exact aiF (m:=Builtin.Tuple.tupleExact _)<|ajB (aiF<|aiJ<|aiJ {1,aiJ h}) a
  |exact aiF<|aiF (m:=Builtin.Tuple.tupleExact _)<|ajB (aiJ<|aiJ {1,aiJ h}) a
  |exact aiF<|aiF (m:=Builtin.Tuple.tupleExact _)<|ajB (aiJ {1,aiJ h}) a
end
end HT
namespace L2
open PySem PySem.Spec PyProof.Rows
abbrev TO:=St->Hp->(nt Z4->Hp->Z3)->Z3
def PO(X:Cx)(e:nt Expr)(t:TO):Z3:=
 ∀(X4:fy (jl×Obj))(s:q8)(σ:St)(H:Hp)(Q:nt Z4->Hp->Z3),Inv X X4 σ H s->t σ H Q →
  wpAny (model X.prog X.w) X.A (evalPart e X.env) (λu s'=>∃o H',Inv X X4 σ H' s'/\IsPart u o/\Q o H') X.xe s
def QT:TO:=λ_ H Q=>Q Z0 H
inductive Ce(Q:nt Z4->Hp->Z3)(x:V)(H1:Hp):Z3
 |m i(_:x=.int i)(_:Q (some i) H1)
def adC(t:TE):TO:=λσ H Q=>t σ H λx H1=>Ce Q x H1
def alH{ns:fy Z4}:∀{us:fy mu},Vals (ns.map Z8) us->IntsAre us ns:=by
 induction ns with
 |nil=>intro us r;rw[ak4] at r;cases r;exact .nil
 |cons n ns a=>
  intro us r;rw[ajl] at r;cases r with
  |cons r1 r2=>let⟨t,e⟩:=r1;subst e;exact .cons n t<|a r2
section
variable{X:Cx}{e:Expr}{te:TE}{lo hi:nt Expr}{tl th:TO}{pos p2:Pos}
def ic:PO X Z0 QT:=by intro X4 s σ H Q I h;rw[evalPart_none];exact aiJ {Z0,H,I,.none,h}
def dw(h:PE X e te):PO X (some e) (adC te):=by
 intro X4 s σ H Q I a;rw[evalPart_some];refine thn (h X4 s σ H _ I a) λ u s1 ⟨x,H1,I1,r1,q1⟩=>?_
 let⟨i,rfl,q⟩:=q1;let⟨t,rfl⟩:=r1;exact{some i,H1,I1,.int i t,q}
def SlR(X:Cx)(r:V->nt Z4->nt Z4->Hp->VK->Z3):Z3:=
 ∀(X4:fy (jl×Obj))(s:q8)(σ:St)(H:Hp)(x:V)(v c b:mu)(lo hi:nt Z4)(a:jl)(Q:VK),Inv X X4 σ H s->RelV x v->s.heap.IsSliceOf a c b .none->IsPart c lo->IsPart b hi->r x lo hi H Q →
  ∃T id,typeLookup (.type T) "__getitem__" = pure (some<|.builtin id)/\s.TypeIs v T/\wpAny (model X.prog X.w) X.A (getItem v<|.ref a) (EP X X4 σ Q) X.xe s
def tSl(r:V->nt Z4->nt Z4->Hp->VK->Z3)(te:TE)(tl th:TO):TE:=λσ H Q=>te σ H λx H1=>tl σ H1 λl H2=>th σ H2 λu a=>r x l u a Q
def dY{r:V->nt Z4->nt Z4->Hp->VK->Z3}(j:SlR X r)(i:PE X e te)(f:PO X lo tl)(m:PO X hi th):PE X (.Subscript e (.Slice lo hi Z0 p2) pos) (tSl r te tl th):=by
 intro X4 s σ H Q I h;refine Subscript_ (thn (i X4 s σ H _ I h) λ v s1 ⟨x,H1,I1,r1,q1⟩=>?_);refine wpAny_Slice (thn (f X4 s1 σ H1 _ I1 q1) λ c s2 ⟨l,H2,I2,pl,q2⟩=>thn (m X4 s2 σ H2 _ I2 q2) λ a s3 ⟨u,H3,I3,pu,q3⟩=>?_);rw[evalPart_none];refine aiJ ?_;let o:Inv X X4 σ H3 {s3 with heap:=s3.heap.push {.type "slice",Z0,.fields #[c,a,.none],#[]}}:=I3.kept (t':=s3.toks) λb t q=>aiI _ q
 let⟨T,id,g,n,p⟩:=j X4 {s3 with heap:=s3.heap.push {.type "slice",Z0,.fields #[c,a,.none],#[]}} σ H3 x v c a l u (~~~s3) Q o r1 (Heap.IsSliceOf.new ..) pl pu q3;show wpAny (model X.prog X.w) X.A (subscriptTail e (.Slice lo hi Z0 p2) v<|.ref (~~~s3)) (EP X X4 σ Q) X.xe {s3 with heap:=s3.heap.push {.type "slice",Z0,.fields #[c,a,.none],#[]}};exact tail_any (ops:=[.ref (~~~s3),v]) n g p (by with_unfolding_all rfl)
def cT(xs:fy V)(lo hi:nt Z4):fy V:=(xs.drop<|HT.sIx xs.length 0 lo).take<|HT.sIx xs.length xs.length hi-HT.sIx xs.length 0 lo
def tH(xs:fy V)(lo hi:nt Z4):(cT xs lo hi).length≤xs.length:=by unfold cT;rw[aiU,alx];omega
inductive Ij(K:Frag)(x:V)(lo:nt Z4)(hi:nt Z4)(H:Hp)(Q:VK):Z3
 |m a xs(_:x=.ref a)(_:X3 K H a xs)(_:¬(HT.sIx xs.length 0 lo=0/\HT.sIx xs.length xs.length hi=xs.length))(_:∀p,H p=Z0->Q (.ref p) (Z9 H p (.tup (cT xs lo hi))))
def XD:SlR X (Ij X.K):=by
 intro X4 s σ H x v t n lo hi p Q I i hs pl j h;let⟨a,xs,rfl,g,l,q⟩:=h;cases i;let⟨C5,r,f,e⟩:=I.tuple g;let c:C5.toArray.size=xs.length:=by rw[ajx];exact r.length.symm
 exists "tuple",_,akD.lookup,f.typeIs;refine HT.sZ f hs pl j (by rwa[c]) ?_ (by rwa[c]);rw[c];refine{.ref (~~~s),_,I.laid (t':=s.toks) (o:=.tup<|cT xs lo hi) (λb m q=>aiI _ q) (aiK _) ?_,J,q _<|I.hok.fresh<|aiK _};exact{ai8 (tH xs lo hi) e,_,(r.drop<|HT.sIx xs.length 0 lo).take<|HT.sIx xs.length xs.length hi-HT.sIx xs.length 0 lo,IsTup.new _ _}
def Vals.xu{xs:fy V}{us:fy mu}(r:Vals xs us):us=[]↔xs=[]:=by
 cases r with
 |nil=>simp
 |cons _ _=>simp
end
def ixN(n:Z5)(i:Z4):nt Z5:=if 0≤i then(if i<n then some i.toNat else Z0) else if -↥n≤i then some (i+n).toNat else Z0
def atI{α:Type}(xs:fy α)(i:Z4):nt α:=(ixN xs.length i).bind λj=>xs[j]?
def Cr{n:Z5}{i:Z4}{j:Z5}(h:ixN n i=some j):seqIndex? i n=some j/\j<n/\-↥n≤i/\i<n:=by
 unfold ixN at h;by_cases h0:0≤i
 .rw[aiN h0] at h;by_cases h1:i<n
  .rw[aiN h1] at h;let e:i.toNat=j:=aiY h;exact{by rw[seqIndex_of h0 h1,e],o6,o6,h1}
  .grind
 .rw[aiL h0] at h;by_cases h1:-↥n≤i
  .rw[aiN h1] at h;let e:(i+n).toNat=j:=aiY h;exact{by rw[seqIndex_neg o6 h1,e],o6,h1,o6}
  .grind
def xy{α:Type}{xs:fy α}{i:Z4}{v:α}(h:atI xs i=some v):∃j,seqIndex? i xs.length=some j/\xs[j]?=some v/\j<xs.length/\-↥xs.length≤i/\i<xs.length:=by
 unfold atI at h;cases e:ixN xs.length i with
 |none=>rw[e] at h;cases h
 |some j=>rw[e] at h;let⟨h1,h2,h3,h4⟩:=Cr e;exact⟨j,h1,h,h2,h3,h4⟩
def bx{α:Type}{xs:fy α}{j:Z5}{v:α}(h:xs[j]?=some v):atI xs ↥j=some v:=by
 let a:j<xs.length:=(aiH.mp h).1;let e:ixN xs.length ↥j=some j:=by unfold ixN;rw[aiN o6,aiN o6];simp
 unfold atI;rwa[e]
def QL(b:Expr):Z3:=∀o i,subscripted b Z2 o i=operate [o,i] (getItem o i)
def IxR(X:Cx)(r:R2):Z3:=
 ∀(value a:Expr)(X4:fy (jl×Obj))(s:q8)(σ:St)(H:Hp)(x y:V)(v u:mu)(Q:VK),Inv X X4 σ H s->RelV x v->RelV y u->r x y H Q →
  subscripted a Z2 v u=operate [v,u] (getItem v u)->wpAny (model X.prog X.w) X.A (subscriptTail value a v u) (EP X X4 σ Q) X.xe s
def MtR(X:Cx)(id:String)(r:V->fy V->Hp->VK->Z3):Z3:=
 ∀(X4:fy (jl×Obj))(s:q8)(σ:St)(H:Hp)(x:V)(xs:fy V)(v:mu)(us:fy mu)(Q:VK),Inv X X4 σ H s->RelV x v->Vals xs us->r x xs H Q →
  wpAny (model X.prog X.w) X.A (call (.builtin id) (v::us)) (EP X X4 σ Q) X.xe s
section
variable{X:Cx}{a b:Expr}{ta tb:TE}{pos:Pos}
def aQ{r:R2}(i:IxR X r)(j:PE X a ta)(c:PE X b tb)(hs:QL b):PE X (.Subscript a b pos) (tOp r ta tb):=by intro X4 s σ H Q I h;exact Subscript_ (G3 j c I h λv u s2 x y H2 f e g q=>i a b X4 s2 σ H2 x y v u Q f e g q<|hs _ _)
inductive aaG(K:Frag)(x:V)(y:V)(H:Hp)(Q:VK):Z3
 |m p xs i v(_:x=.ref p)(_:y=.int i)(_:X0 K H p xs)(_:atI xs i=some v)(_:Q v H)
inductive IJ(K:Frag)(x:V)(y:V)(H:Hp)(Q:VK):Z3
 |m p xs i v(_:x=.ref p)(_:y=.int i)(_:X3 K H p xs)(_:atI xs i=some v)(_:Q v H)
inductive Y9(x:V)(y:V)(H:Hp)(Q:VK):Z3
 |m z i c(_:x=.str z)(_:y=.int i)(_:z.length≤Z7)(_:atI z.cps.toList i=some c)(_:Q (.str ⟨#[c]⟩) H)
def aT:IxR X (aaG X.K):=by
 intro value a X4 s σ H x y v u Q I f l h hs;let⟨p,xs,i,z,rfl,rfl,g,e,q⟩:=h;cases f;let⟨t,rfl⟩:=l;let⟨C5,r,pl,n⟩:=I.list g;let⟨j,h1,h2,h3,h4,h5⟩:=xy e;let⟨w,o,b⟩:=r.get h2;let c:=r.length;let hn:=oG;let fin:EP X X4 σ Q w s:=⟨z,H,I,b,q⟩;by_cases h0:0≤i
 .let m:i.toNat=j:=by rw[seqIndex_of h0 h5] at h1;exact aiY h1
  exact item_listR pl.isList h0 o6 (by grind) fin hs
 .let m:(i +↥C5.toArray.size).toNat=j:=by rw[seqIndex_neg o6 h4] at h1;rw[ajx,←c];exact aiY h1
  exact subscriptTail_builtinR (x:=w) pl.isList.typeIs slot_list_getitem.lookup
   (wpAny_getItem_list_neg (Q:=λr s'=>r=w/\EP X X4 σ Q r s') pl.isList o6 (by grind) o6 (by grind) ⟨J,fin⟩) hs
def bX:IxR X (IJ X.K):=by
 intro value a X4 s σ H x y v u Q I e l h hs;let⟨p,xs,i,z,rfl,rfl,g,c,q⟩:=h;cases e;let⟨t,rfl⟩:=l;let⟨C5,r,pl,n⟩:=I.tuple g;let⟨j,h1,h2,h3,h4,h5⟩:=xy c;let⟨w,f,b⟩:=r.get h2;let m:=r.length;let hn:=oG;let fin:EP X X4 σ Q w s:=⟨z,H,I,b,q⟩;exact subscriptTail_builtinR (x:=w) pl.typeIs slot_tuple_getitem.lookup
  (getItem_tuple (j:=j) (Q:=λr s'=>r=w/\EP X X4 σ Q r s') pl o6 o6 (by grind) (⇑f) ⟨J,fin⟩) hs
def YF:IxR X Y9:=by
 intro value a X4 s σ H x y v u Q I f g h hs;let⟨z,i,c,rfl,rfl,n,e,q⟩:=h;let⟨t,rfl⟩:=f;let⟨t',rfl⟩:=g;let⟨j,h1,h2,h3,h4,h5⟩:=xy e;let b:z.cps.toList.length=z.length:=by simp[Str.length]
 rw[b] at h1 h4 h5;let hn:=oG;exact tail_any (ame s z t) slot_str_getitem.lookup (getItem_str (c:=c) (by let m:decide (i < -(2 ^ 63:Z4))=Z2:=ai1 o6;let l:decide (i≥2 ^ 63)=Z2:=ai1 o6;rw[m,l,Bool.or_false]) (by grind) {.str ⟨#[c]⟩,H,I.tok _,{1},q}) hs
def DW(C5:fy mu)(n j:Z5)(u:mu):Obj.mapSeq (·.setIfInBounds j u) {.type "list",Z0,.seq C5.toArray n,#[]}={.type "list",Z0,.seq (C5.set j u).toArray n,#[]}:=by simp[Obj.mapSeq]
def Inv.lst{X4:fy (jl×Obj)}{σ:St}{H:Hp}{s:q8}{p:jl}{xs:fy V}(I:Inv X X4 σ H s)(h:H p=some (.lst xs)) :
  ∃(C5:fy mu)(n:Z5),Vals xs C5/\s.heap.get? p=some {.type "list",Z0,.seq C5.toArray n,#[]}/\xs.length≤Z7:=by
 let⟨z,C5,n,r,e⟩:=I.hok p _ h;exact⟨C5,n,r,e,z⟩
def Inv.ac0{X4:fy (jl×Obj)}{σ:St}{H:Hp}{s:q8}{p:jl}{xs ys:fy V}{C5 its':fy mu}{n a:Z5}{f:Obj->Obj}(I:Inv X X4 σ H s)(h:H p=some (.lst xs))(g:s.heap.get? p=some {.type "list",Z0,.seq C5.toArray n,#[]})(c:f {.type "list",Z0,.seq C5.toArray n,#[]}={.type "list",Z0,.seq its'.toArray a,#[]})(r:Vals ys its')(j:ys.length≤Z7)(t:Z5) :
  Inv X X4 σ (Z9 H p (.lst ys)) {s with heap:=s.heap.update p f,toks:=t}:=by
 let e:(s.heap.update p f).get? p=some {.type "list",Z0,.seq its'.toArray a,#[]}:=by rw[aju f g (by rw[c] <;> rfl),c]
 refine I.write (x:=p) (e:=p) (by rw[h];trivial) (.inl J) (λb u i q=>(ajz _ _<|ajH i).trans q) {_,e} ?_;exact⟨j,its',a,r,e⟩
inductive Og(o:V)(i:V)(v:V)(H:Hp)(Q:Hp->Z3):Z3
 |m p xs k j(_:o=.ref p)(_:i=.int k)(_:H p=some (.lst xs))(_:ixN xs.length k=some j)(_:Q (Z9 H p (.lst (xs.set j v))))
def set_list:SO X Og:=by
 intro X4 s σ H o i v x y u Q I g l e h;let⟨p,xs,k,j,rfl,rfl,b,m,q⟩:=h;cases g;let⟨t,rfl⟩:=l;let⟨C5,n,r,a,z⟩:=I.lst b;let⟨h1,h2,h3,h4⟩:=Cr m;let c:=r.length;let hn:=oG;let A:Inv X X4 σ (Z9 H p (.lst (xs.set j v))) {s with heap:=s.heap.update p (Obj.mapSeq (·.setIfInBounds j u))}:=
  I.ac0 b a (DW C5 n j u) (r.set e j) (by grind) s.toks
 by_cases h0:0≤k
 .let f:k.toNat=j:=by rw[seqIndex_of h0 h4] at h1;exact aiY h1
  exact PySem.W.ki_setAt a h0 o6 (by grind) (by grind)
 .let f:(k +↥C5.toArray.size).toNat=j:=by rw[seqIndex_neg o6 h3] at h1;rw[ajx,←c];exact aiY h1
  exact PySem.W.ki_setBack a o6 (by grind) o6 (by grind)
def zN(lo hi:nt Z4)(n:Z5):(sliceBounds lo hi Z0 n).1 =((HT.sIx n 0 lo:Z5):Z4)/\(sliceBounds lo hi Z0 n).2.1 =((HT.sIx n n hi:Z5):Z4)/\(sliceBounds lo hi Z0 n).2.2=1:=by
 refine{?_,?_,J}
 .cases lo with
  |none=>simp[sliceBounds,HT.sIx]
  |some i=>
   simp only[sliceBounds,HT.sIx,Option.getD_none,show↥1>0 by decide,if_true];by_cases h:i<0
   .grind
   .grind
 .cases hi with
  |none=>simp[sliceBounds,HT.sIx]
  |some i=>
   simp only[sliceBounds,HT.sIx,Option.getD_none,show↥1>0 by decide,if_true];by_cases h:i<0
   .grind
   .grind
def y9(C5:fy mu)(lo hi:nt Z4):slicePick C5.toArray lo hi Z0 =((C5.drop (HT.sIx C5.length 0 lo)).take (HT.sIx C5.length C5.length hi-HT.sIx C5.length 0 lo)).toArray:=by let⟨h1,h2,h3⟩:=zN lo hi C5.toArray.size;unfold slicePick;rw[h1,h2,h3];simp only[sliceRange_one,pick_run,List.size_toArray] <;> rfl
inductive Il(K:Frag)(x:V)(lo:nt Z4)(hi:nt Z4)(H:Hp)(Q:VK):Z3
 |m a xs(_:x=.ref a)(_:X0 K H a xs)(_:∀p,H p=Z0->Q (.ref p) (Z9 H p (.lst (cT xs lo hi))))
def fY:SlR X (Il X.K):=by intro X4 s σ H x v p m lo hi n Q I i hs pl j h;let⟨a,xs,rfl,f,q⟩:=h;cases i;let⟨C5,r,e,g⟩:=I.list f;let c:=r.length;exists "list",_,slot_list_getitem.lookup,e.isList.typeIs;refine wpAny_getItem_list_slice e.isList hs pl j .none o8 ?_ (by grind);rw[y9,←c];refine{.ref (~~~s),_,I.laid (t':=s.toks) (o:=.lst<|cT xs lo hi) (λb l q=>aiI _ q) (aiK _) ?_,J,q _<|I.hok.fresh<|aiK _};exact{ai8 (tH xs lo hi) g,_,(0),(r.drop<|HT.sIx xs.length 0 lo).take<|HT.sIx xs.length xs.length hi-HT.sIx xs.length 0 lo,aiW _ J}
def kr:V->Bool
 |.non=>Z1
 |.bl _=>Z1
 |.int _=>Z1
 |.str _=>Z1
 |_=>Z2
def eqV:V->V->Bool
 |.non,.non=>Z1
 |.bl a,.bl b=>a==b
 |.bl a,.int b=>(if a then 1 else 0)==b
 |.int a,.bl b=>a ==(if b then 1 else 0)
 |.int a,.int b=>a==b
 |.str a,.str b=>a==b
 |_,_=>Z2
def abL{A:Around}{s:q8}{y x:V}{u v:mu}(f:RelV y u)(c:RelV x v)(g:kr y=Z1)(e:kr x=Z1):SeqAt.EqAt A s u v (eqV y x):=by
 cases y with
 |non=>
  cases f;cases x with
  |non=>cases c;exact SeqAt.EqAt.same _
  |bl b=>cases c;exact SeqAt.EqAt.none_bool b
  |int b=>let⟨t,rfl⟩:=c;exact SeqAt.EqAt.none_int b t
  |str b=>let⟨t,rfl⟩:=c;exact SeqAt.EqAt.none_str b t
  |_=>exact absurd (show Z2=Z1 from e) ai5
 |bl a=>
  cases f;cases x with
  |non=>cases c;exact SeqAt.EqAt.bool_none a
  |bl b=>cases c;exact SeqAt.EqAt.bool_bool a b
  |int b=>let⟨t,rfl⟩:=c;exact SeqAt.EqAt.bool_int a b t
  |str b=>let⟨t,rfl⟩:=c;exact SeqAt.EqAt.bool_str a b t
  |_=>exact absurd (show Z2=Z1 from e) ai5
 |int a=>
  let⟨t',rfl⟩:=f;cases x with
  |non=>cases c;exact SeqAt.EqAt.int_none a t'
  |bl b=>cases c;exact SeqAt.EqAt.int_bool a t' b
  |int b=>let⟨t,rfl⟩:=c;exact SeqAt.EqAt.int_int a t' b t
  |str b=>let⟨t,rfl⟩:=c;exact SeqAt.EqAt.int_str a t' b t
  |_=>exact absurd (show Z2=Z1 from e) ai5
 |str a=>
  let⟨t',rfl⟩:=f;cases x with
  |non=>cases c;exact SeqAt.EqAt.str_none a t'
  |bl b=>cases c;exact SeqAt.EqAt.str_bool a t' b
  |int b=>let⟨t,rfl⟩:=c;exact SeqAt.EqAt.str_int a t' b t
  |str b=>let⟨t,rfl⟩:=c;exact SeqAt.EqAt.str_str a t' b t
  |_=>exact absurd (show Z2=Z1 from e) ai5
 |_=>exact absurd (show Z2=Z1 from g) ai5
def eqU(x:V)(u:mu):Bool:=match u with
 |.none=>eqV .non x
 |.bool b=>eqV (.bl b) x
 |.int i _=>eqV (.int i) x
 |.str z _=>eqV (.str z) x
 |_=>Z2
def Gf{x y:V}{u:mu}(r:RelV y u)(f:kr y=Z1):eqU x u=eqV y x:=by
 cases y with
 |non=>cases r;rfl
 |bl b=>cases r;rfl
 |int i=>let⟨t,rfl⟩:=r;rfl
 |str z=>let⟨t,rfl⟩:=r;rfl
 |_=>exact absurd (show Z2=Z1 from f) ai5
def oK{x:V}:∀{xs:fy V}{us:fy mu},Vals xs us->xs.all kr=Z1->us.any (eqU x)=xs.any λy=>eqV y x
 |_,_,.nil,_=>rfl
 |y::xs,u::us,.cons r t,f=>by rw[List.all_cons,aly] at f;rw[akT,akT,Gf r f.1,oK t f.2]
def lU{A:Around}{s:q8}{x:V}{v:mu}(c:RelV x v)(b:kr x=Z1):∀{xs:fy V}{us:fy mu},Vals xs us->xs.all kr=Z1->∀ u∈us,SeqAt.EqAt A s u v (eqU x u)
 |_,_,.nil,_=>λu a=>by cases a
 |y::xs,u::us,.cons r t,f=>λe a=>by
  rw[List.all_cons,aly] at f;rcases aiV.mp a with rfl|a
  .rw[Gf r f.1];exact abL r c f.1 b
  .exact lU c b t f.2 e a
def inV(x:V)(xs:fy V):Bool:=xs.any λy=>eqV y x
inductive rIn(K:Frag)(neg:Bool)(x:V)(y:V)(H:Hp)(Q:VK):Z3
 |m p xs(_:y=.ref p)(_:X0 K H p xs∨X3 K H p xs)(_:kr x=Z1)(_:xs.all kr=Z1)(_:Q (.bl (if neg then !inV x xs else inV x xs)) H)
def kC:OpR X (compareOp .In) (rIn X.K Z2):=by
 intro X4 s σ H x y v u Q I c g h;let⟨p,xs,rfl,a,e,fs,q⟩:=h;cases g;rcases a with a|a
 .let⟨C5,r,pl,f⟩:=I.list a;refine SeqAt.in_listAt (eqU x) pl.isList (λw b=>lU c e r fs w (⇑b)) {.bl _,H,I,J,?_};rwa[show C5.toArray.any (eqU x)=C5.any (eqU x) by simp,oK r fs]
 .let⟨C5,r,pl,f⟩:=I.tuple a;refine SeqAt.in_tupleAt (eqU x) pl (λw b=>lU c e r fs w (⇑b)) {.bl _,H,I,J,?_};rwa[show C5.toArray.any (eqU x)=C5.any (eqU x) by simp,oK r fs]
def A2:OpR X (compareOp .NotIn) (rIn X.K Z1):=by
 intro X4 s σ H x y v u Q I c g h;let⟨p,xs,rfl,a,e,fs,q⟩:=h;cases g;rcases a with a|a
 .let⟨C5,r,pl,f⟩:=I.list a;refine SeqAt.notIn_listAt (eqU x) pl.isList (λw b=>lU c e r fs w (⇑b)) {.bl _,H,I,J,?_};rwa[show C5.toArray.any (eqU x)=C5.any (eqU x) by simp,oK r fs]
 .let⟨C5,r,pl,f⟩:=I.tuple a;refine SeqAt.notIn_tupleAt (eqU x) pl (λw b=>lU c e r fs w (⇑b)) {.bl _,H,I,J,?_};rwa[show C5.toArray.any (eqU x)=C5.any (eqU x) by simp,oK r fs]
inductive jU(K:Frag)(xs:fy V)(H:Hp)(Q:VK):Z3
 |m p ys(_:xs=[.ref p])(_:X0 K H p ys∨X3 K H p ys)(_:Q (.int ys.length) H)
def aK:dh X (.builtin "len") (jU X.K):=by
 intro X4 s σ H xs us Q I r h;let⟨p,ys,rfl,b,q⟩:=h;let⟨u,rfl,f⟩:=vals1 r;cases f;let hn:=oG;rcases b with b|b
 .let⟨C5,c,pl,e⟩:=I.list b;let a:=c.length;exact Calls.call_len_list pl.isList (by grind) {.int ys.length,H,I.tok _,{s.toks+1,by rw[ajx,a]},q}
 .let⟨C5,c,pl,e⟩:=I.tuple b;let a:=c.length;exact len_tuple pl (by grind) {.int ys.length,H,I.tok _,{s.toks+1,by rw[ajx,a]},q}
inductive oS(xs:fy V)(H:Hp)(Q:VK):Z3
 |m z(_:xs=[.str z])(_:z.length≤Z7)(_:Q (.int z.length) H)
def lV:dh X (.builtin "len") oS:=by intro X4 s σ H xs us Q I r h;let⟨z,rfl,a,q⟩:=h;let⟨u,rfl,t,rfl⟩:=vals1 r;let hn:=oG;exact len_str o6 {.int z.length,H,I.tok _,{1},q}
inductive oN(K:Frag)(xs:fy V)(H:Hp)(Q:VK):Z3
 |m p ys(_:xs=[.ref p])(_:X0 K H p ys∨X3 K H p ys)(_:∀l,H l=Z0->Q (.ref l) (Z9 H l (.lst ys)))
def rR:dh X (.type "list") (oN X.K):=by
 intro X4 s σ H xs us Q I r h;let⟨p,ys,rfl,j,q⟩:=h;let⟨u,rfl,v⟩:=vals1 r;cases v;let fin:∀(C5:fy mu),Vals ys C5->ys.length≤Z7->∀(h':Heap)(a:Z5),(∀b o',s.heap.get? b=some o'->h'.get? b=some o') →
   h'.get? (~~~s)=some {.type "list",Z0,.seq C5.toArray a,#[]}->EP X X4 σ Q (.ref (~~~s)) {s with heap:=h'}:=λC5 c i h' a g e=>
  {.ref (~~~s),_,I.laid (t':=s.toks) g (aiK _) (show bK X.prog X.w _ h' _ (.lst ys) from⟨i,C5,a,c,e⟩),J,q _<|I.hok.fresh<|aiK _}
 rcases j with j|j
 .let⟨C5,c,pl,i⟩:=I.list j;let f:=c.length;let⟨o,l,m,n,t⟩:=pl.isList;exact call_list_seq p (.inl J) l m t (λh' a g e=>fin C5 c i h' a g e) (by grind)
 .let⟨C5,c,pl,i⟩:=I.tuple j;let f:=c.length;let⟨o,l,m,n,t⟩:=pl;exact call_list_seq p (.inr J) l m t (λh' a g e=>fin C5 c i h' a g e) (by grind)
inductive jk(K:Frag)(xs:fy V)(H:Hp)(Q:VK):Z3
 |m p ys(_:xs=[.ref p])(_:(X0 K H p ys/\∀l,H l=Z0->Q (.ref l) (Z9 H l (.tup ys)))∨(X3 K H p ys/\Q (.ref p) H))
def d7:dh X (.type "tuple") (jk X.K):=by
 intro X4 s σ H xs us Q I r h;let⟨p,ys,rfl,h⟩:=h;let⟨u,rfl,l⟩:=vals1 r;cases l;rcases h with⟨a,q⟩|⟨a,q⟩
 .let⟨C5,c,pl,i⟩:=I.list a;let f:=c.length;refine call_tuple_list pl.isList (λh' j=>?_) (by grind);let g:Inv X X4 σ H {s with heap:=h'}:=I.kept (t':=s.toks) j;let m:Inv X X4 σ (Z9 H h'.objs.size (.tup ys)) {s with heap:=h'.push {.type "tuple",Z0,.seq C5.toArray,#[]}}:=
   g.laid (t':=s.toks) (λb o e=>aiI _ e) (aiK _) (show bK X.prog X.w _ _ _ (.tup ys) from{i,C5,c,IsTup.new _ _})
  exact{.ref h'.objs.size,_,m,J,q _<|g.hok.fresh<|aiK _}
 .let⟨C5,c,pl,i⟩:=I.tuple a;exact call_tuple_same pl {.ref p,H,I,J,q}
def tyV(K:Frag)(T:String)(x:V)(H:Hp):Z3:=match x with
 |.str _=>T = "str"
 |.int _=>T = "int"
 |.ref p=>(T = "list"/\∃xs,X0 K H p xs)∨(T = "tuple"/\∃o,K.lookup p=some o/\o.cls=.type "tuple"/\o.dict=Z0)∨
   (T = "dict"/\((∃C4,H p=some (.dK C4))∨∃C4,H p=some (.dT C4)))∨(T = "set"/\∃S n,H p=some (.set S n))
 |_=>False
def ET{X4:fy (jl×Obj)}{σ:St}{H:Hp}{s:q8}{T:String}{x:V}{v:mu}(I:Inv X X4 σ H s)(r:RelV x v)(ty:tyV X.K T x H) :
  s.TypeIs v T/\∀a,v=.ref a->∃h,s.heap.get? a=some h/\h.dict=Z0:=by
 cases x with
 |str z=>let⟨t,rfl⟩:=r;cases (show T = "str" from ty);exact{ame s z t,λ_ e=>nomatch e}
 |int i=>let⟨t,rfl⟩:=r;cases (show T = "int" from ty);exact{typeIs_int s i t,λ_ e=>nomatch e}
 |ref p=>
  cases r;rcases ty with⟨rfl,xs,l⟩|⟨rfl,o,b,j,g⟩|⟨rfl,b⟩|⟨rfl,S,n,b⟩
  .let⟨C5,_,pl,_⟩:=I.list l;refine{pl.isList.typeIs,λa e=>?_};cases e;let⟨o,n,e,c,g,_⟩:=pl;exact⟨o,e,g⟩
  .refine{{o,I.kIn p o b,j},λa e=>?_};cases e;exact{o,I.kIn _ o b,g}
  .let z:∃o,s.heap.get? p=some o/\o.ExactDict:=by
    rcases b with⟨C4,b⟩|⟨C4,b⟩
    .let⟨_,_,_,_,o,_,_,e,ex,_⟩:=I.hok p _ b;exact⟨o,e,ex⟩
    .let⟨_,_,_,_,o,_,_,e,ex,_⟩:=I.hok p _ b;exact⟨o,e,ex⟩
   let⟨o,e,ex⟩:=z;refine{⟨o,e,ex.1⟩,λa f=>?_};cases f;exact⟨o,e,ex.2.1⟩
  .let⟨o,_,_,_,e,ex,_⟩:=I.hok p _ b;refine{⟨o,e,ex.1⟩,λa f=>?_};cases f;exact⟨o,e,ex.2.1⟩
 |_=>exact False.elim ty
def ahV(K:Frag)(T:String)(r:V->fy V->Hp->VK->Z3)(to:TE):TE:=λσ H Q=>to σ H λx H1=>tyV K T x H1/\r x [] H1 Q
def tBM(K:Frag)(T:String)(r:V->fy V->Hp->VK->Z3)(to:TE)(t:TA):TE:=λσ H Q=>to σ H λx H1=>tyV K T x H1/\t σ H1 λxs H2=>r x xs H2 Q
variable{o e:Expr}{es:fy Expr}{to:TE}{t:TA}{name:Z6}{apos cpos:Pos}{T id:String}{r:V->fy V->Hp->VK->Z3}
def acV(i:PlainAttrs T)(c:Slot T name id)(e:typeOf (.builtin id)=pure (.type "method_descriptor"))(f:MtR X id r)(g:PE X o to)(b:attributeBase o name X.env (eval o X.env)=eval o X.env:=by rfl)(a:(apos.endLine==cpos.line)=Z1:=by rfl):PE X (.Call (.Attribute o name apos) [] [] cpos) (ahV X.K T r to):=by intro X4 s σ H Q I h;refine wpAny_Call_method0_late b a (thn (g X4 s σ H _ I h) λ v s1 ⟨x,H1,I1,r1,ty,q1⟩=>?_);let⟨h1,h2⟩:=ET I1 r1 ty;exact{T,id,i,c,e,h1,h2,alr J<|PySem.evalArgs_none<|f X4 s1 σ H1 x [] v [] Q I1 r1 .nil q1}
def cK(p:PlainAttrs T)(f:Slot T name id)(i:typeOf (.builtin id)=pure (.type "method_descriptor"))(l:MtR X id r)(m:PE X o to)(n:PA X (e::es) t)(a:attributeBase o name X.env (eval o X.env)=eval o X.env:=by rfl)(c:((backTo cpos (starEach (e::es) X.env)).all (λx=>!x.1) &&(backToKw cpos (keywordEach [] X.env)).all (λx=>x.1.isSome)
   && decide ((e::es).length +([]:fy Keyword).length +(if ([]:fy Keyword).isEmpty then 0 else 1)<30))=Z1:=by rfl)(b:(apos.endLine==cpos.line)=Z1:=by rfl)(hs:starEach (e::es) X.env =(Z2,eval e X.env)::starEach es X.env:=by rfl)(g:(backTo cpos (starEach es X.env)).any (·.1)=Z2:=by rfl) :
  PE X (.Call (.Attribute o name apos) (e::es) [] cpos) (tBM X.K T r to t):=by
 intro X4 s σ H Q I h;refine wpAny_Call_method_late a c b J (thn (m X4 s σ H _ I h) λ v s1 ⟨x,H1,I1,r1,ty,q1⟩=>?_);let⟨h1,h2⟩:=ET I1 r1 ty;exists T,id,p,f,i,h1,h2;let j:=n cpos X4 s1 σ H1 _ I1 q1;rw[hs] at j ⊢;refine alr (by grind)<|Calls.evalArgs_plain ?_;exact thn j λ us s2 ⟨vs,H2,I2,r2,q2⟩=>l X4 s2 σ H2 x vs v us Q I2 r1 r2 q2
end
def MtM(X:Cx)(id:String)(r:V->fy V->Hp->VK->Z3):Z3:=
 ∀(X4:fy (jl×Obj))(s:q8)(σ:St)(H:Hp)(x:V)(xs:fy V)(v:mu)(us:fy mu)(Q:VK),Inv X X4 σ H s->RelV x v->Vals xs us->r x xs H Q →
  wpAny (model X.prog X.w) X.A (call (.builtin id) (v::us)) (EP X X4 σ Q) X.xe s
def Vals.one:∀{x:V}{us:fy mu},Vals [x] us->∃u,us=[u]/\RelV x u
 |_,_,.cons r .nil=>{1,r}
def Vals.zero:∀{us:fy mu},Vals [] us->us=[]
 |_,.nil=>rfl
def Vals.dropLast{xs:fy V}{us:fy mu}(h:Vals xs us):Vals xs.dropLast us.dropLast:=by
 induction h with
 |nil=>exact .nil
 |cons r t a=>
  cases t with
  |nil=>exact .nil
  |cons q t'=>exact .cons r a
def Vals.rep{xs:fy V}{us:fy mu}(h:Vals xs us):∀k:Z5,Vals (List.replicate k xs).flatten (List.replicate k us).flatten
 |0=>.nil
 |k+1=>by rw[akV,akV,al3,al3];exact Vals.append h<|Vals.rep h k
def afl{α:Type}(l:fy α):l.eraseIdx (l.length-1)=l.dropLast:=by grind
def foldl_rep(C5:fy mu):∀(k:Z5)(acc:fy mu),
  List.foldl (λa b=>a++b) acc.toArray (List.replicate k C5.toArray) =(acc ++(List.replicate k C5).flatten).toArray
 |0,acc=>by simp
 |k+1,acc=>by
  let e:acc.toArray++C5.toArray =(acc++C5).toArray:=by simp
  let c:(acc++C5) ++(List.replicate k C5).flatten=acc ++(List.replicate (k+1) C5).flatten:=by grind
  rw[←c,←foldl_rep C5 k (acc++C5),←e,akV,amB]
section
variable{X:Cx}{X4:fy (jl×Obj)}{σ:St}{H:Hp}{s:q8}{l b:jl}{xs ys zs:fy V}
def Inv.EG{C5 its':fy mu}{n:Z5}{f:sA mu->sA mu}{t':Z5}(I:Inv X X4 σ H s)(b:H l=some (.lst xs))(e:s.heap.get? l=some {.type "list",Z0,.seq C5.toArray n,#[]})(g:f C5.toArray=its'.toArray)(i:Vals ys its')(c:ys.length≤Z7) :
  Inv X X4 σ (Z9 H l (.lst ys)) {s with heap:=s.heap.update l (Obj.mapSeq f),toks:=t'}:=by
 let q:=PySem.IsL.update e f;rw[g] at q;refine I.write (x:=l) (e:=l) (by rw[b];exact trivial) (.inl J) (λj u a h=>(ajz s.heap (Obj.mapSeq f)<|ajH a).trans h) {_,q} ?_;exact{c,its',_,i,q}
def Inv.R4{C5:fy mu}{t':Z5}(I:Inv X X4 σ H s)(b:Vals ys C5)(a:ys.length≤Z7) :
  Inv X X4 σ (Z9 H (~~~s) (.lst ys)) {s with heap:=s.heap.push {.type "list",Z0,.seq C5.toArray,#[]},toks:=t'}:=
 I.laid (λ_ _ q=>aiI _ q) (aiK _) {a,C5,(0),b,aiW _ J}
def Inv.fresh(I:Inv X X4 σ H s):H (~~~s)=Z0:=I.hok.fresh<|aiK _
def Inv.mU(I:Inv X X4 σ H s)(a:H l=some (.lst xs)):xs.length≤Z7/\∃(C5:fy mu)(n:Z5),Vals xs C5/\xs.length=C5.length/\s.heap.get? l=some {.type "list",Z0,.seq C5.toArray n,#[]}:=by let⟨z,C5,n,r,e⟩:=I.hok l _ a;exact⟨z,C5,n,r,r.length,e⟩
def Bc{n:Z5}(h:n≤Z7):Builtin.List.listTooLong n=Z2:=by unfold Builtin.List.listTooLong;exact ai1 o6
end
section
variable{X:Cx}
inductive Dn(x:V)(vs:fy V)(H:Hp)(Q:VK):Z3
 |m l xs y(_:x=.ref l)(_:vs=[y])(_:H l=some (.lst xs))(_:xs.length<Z7)(_:Q .non (Z9 H l (.lst (xs++[y]))))
def cC:MtM X "list.append" Dn:=by intro X4 s σ H x vs v us Q I c f h;let⟨l,xs,y,rfl,rfl,a,i,q⟩:=h;cases c;let⟨u,rfl,b⟩:=f.one;let⟨z,C5,n,r,g,e⟩:=I.mU a;refine akE F.slot_list_append {_,e,J} F.entry_list_append (F.args_list_append_2 _ _) (PySem.list_append l C5.toArray n u (by grind)) {e,?_};refine{.non,_,I.EG (its':=C5++[u]) a e o8 (r.append<|.cons b .nil) ?_,J,q};rw[ajj,List.length_singleton];omega
inductive Dh(x:V)(vs:fy V)(H:Hp)(Q:VK):Z3
 |m l b xs zs(_:x=.ref l)(_:vs=[.ref b])(_:H l=some (.lst xs))(_:H b=some (.lst zs))(_:xs.length+zs.length≤Z7)(_:Q .non (Z9 H l (.lst (xs++zs))))
def rm:MtM X "list.extend" Dh:=by
 intro X4 s σ H x vs v us Q I j o h;let⟨l,b,xs,zs,rfl,rfl,f,m,A,q⟩:=h;cases j;let⟨u,rfl,i⟩:=o.one;cases i;let⟨z,C5,n,r,y,e⟩:=I.mU f;let⟨B,a,g,r2,p,t⟩:=I.mU m;let hsz:C5.toArray.size+a.toArray.size≤Z7:=by grind
 let c:¬(!C5.toArray.isEmpty&&Builtin.List.listTooLong (C5.toArray.size+a.toArray.size))=Z1:=by rw[Bc hsz,Bool.and_false];exact ai5
 refine akE F.slot_list_extend {_,e,J} F.entry_list_extend (F.args_list_extend_2 _ _)
  (AutoSeq1.list_extend_list_list_0 l C5.toArray n b a.toArray g c (by grind) o6) {e,t,?_}
 refine{.non,_,I.EG (its':=C5++a) f e o8 (r.append r2) ?_,J,q};rw[ajj];omega
inductive Xo(x:V)(vs:fy V)(H:Hp)(Q:VK):Z3
 |m l xs y(_:x=.ref l)(_:vs=[])(_:H l=some (.lst xs))(_:xs[xs.length-1]?=some y)(_:Q y (Z9 H l (.lst xs.dropLast)))
def YR:MtM X "list.pop" Xo:=by
 intro X4 s σ H x vs v us Q I g i h;let⟨l,xs,y,rfl,rfl,c,j,q⟩:=h;cases g;let a:=i.zero;subst a;let⟨z,C5,n,r,m,e⟩:=I.mU c;let⟨u,o,f⟩:=r.get j;let b:C5.toArray[C5.toArray.size-1]?=some u:=by grind
 refine akE F.slot_list_pop {_,e,J} F.entry_list_pop (F.args_list_pop_1 _) (MeetsSeq.list_pop_last l C5.toArray n u b (by grind)) {e,?_};refine{y,_,I.EG (its':=C5.dropLast) c e ?_ r.dropLast ?_,f,q}
 .grind
 .grind
inductive Vy(x:V)(y:V)(H:Hp)(Q:VK):Z3
 |m l b xs zs(_:x=.ref l)(_:y=.ref b)(_:H l=some (.lst xs))(_:H b=some (.lst zs))(_:xs.length+zs.length≤Z7)(_:∀p,H p=Z0->Q (.ref p) (Z9 H p (.lst (xs++zs))))
def oA:OpR X (binaryOp .Add) Vy:=by
 intro X4 s σ H x y v u Q I f i h;let⟨l,b,xs,zs,rfl,rfl,c,g,A,q⟩:=h;cases f;cases i;let⟨z,C5,n,r,p,e⟩:=I.mU c;let⟨B,a,t,r2,j,o⟩:=I.mU g;refine PySem.P.add_list e o ?_ (by grind);let m:C5.toArray++a.toArray =(C5++a).toArray:=by simp
 rw[m];exact{.ref _,_,I.R4 (t':=s.toks) (r.append r2) (by grind),J,q _ I.fresh}
inductive Tz(x:V)(y:V)(H:Hp)(Q:VK):Z3
 |m l k xs(_:x=.ref l)(_:y=.int k)(_:H l=some (.lst xs))(_:-(2 ^ 63)≤k)(_:k<2 ^ 63)(_:xs.length*k.toNat≤Z7)(_:∀p,H p=Z0->Q (.ref p) (Z9 H p (.lst (List.replicate k.toNat xs).flatten)))
def len_rep{α:Type}(xs:fy α)(k:Z5):(List.replicate k xs).flatten.length=k*xs.length:=by
 induction k with
 |zero=>simp
 |succ k a=>rw[akV,al3,ajj,a,Nat.succ_mul,Nat.add_comm]
def S3:OpR X (binaryOp .Mult) Tz:=by
 intro X4 s σ H x y v u Q I B C h;let⟨l,k,xs,rfl,rfl,p,h1,h2,A,q⟩:=h;cases B;let⟨t,rfl⟩:=C;let⟨z,C5,n,r,L,e⟩:=I.mU p;let c:C5.toArray.size*k.toNat≤Z7:=by grind
 let i:¬C5.toArray.size*k.toNat >(2 ^ 63-1) / 8:=by
  let:(Z7:Z5)≤(2 ^ 63-1) / 8:=by decide
  omega
 let g:¬(!Builtin.List.listFitsIndex k)=Z1:=by rw[fitsIndex_both h1 h2];exact ai5
 let b:¬Builtin.List.listTooLong (C5.toArray.size*k.toNat)=Z1:=by rw[Bc c];exact ai5
 let f:List.foldl (λo j=>o++j) #[] (List.replicate (if C5.toArray.isEmpty=Z1 then 0 else k.toNat) C5.toArray) =(List.replicate k.toNat C5).flatten.toArray:=by
  let f0:∀m:Z5,List.foldl (λo j=>o++j) #[] (List.replicate m C5.toArray) =(List.replicate m C5).flatten.toArray:=λm=>by let:=foldl_rep C5 m [];rwa[List.nil_append] at this
  rw[f0];cases C5 with
  |nil=>simp
  |cons a O=>rw[aiL o8]
 refine wpAny_binaryOp_repeat_ref (T:="list") (U:="int") o7 {_,e,J} (λs'=>typeIs_int s' k t) noFill_list_mul F.fills_int_mul F.slot_int_rmul repeat_list F.slot_int_index.lookup
  (akE F.slot_int_rmul (typeIs_int s k t) F.entry_int_rmul (F.args_int_rmul_2 _ _) (int___rmul___int_list k t l C5.toArray n)
   {e,J,{_,e,J},akE F.slot_list_mul {_,e,J} F.entry_list_mul (F.args_list_mul_2 _ _) (AutoListH.list___mul___list_int_3 l C5.toArray n k t g i b) {e,?_}})
 rw[f];exact{.ref _,_,I.R4 (t':=s.toks) (r.rep k.toNat) (by rwa[len_rep,Nat.mul_comm]),J,q _ I.fresh}
end
section
variable{prog:t6}{w:t7}{A:Around}{E:mu->q8->Z3}{s:q8}
set_option maxRecDepth 100000 in
end
end L2
namespace Att
open PySem PySem.W PySem.Calls PyProof.Rows
def vV{P:Params}{h:Heap}:∀(ns:fy Z4)(vs:fy mu),WellAll P h vs (ns.map WData.int)->IntsAre vs ns:=by
 intro ns
 induction ns with
 |nil=>intro vs w;rw[ak4] at w;cases w;exact .nil
 |cons n ns c=>
  intro vs w;rw[ajl] at w;cases w with
  |cons a b=>cases a;exact .cons _ _<|c _ b
def F8{l:OpenLaw}{n:Z5}(hn:l.most=some n){P:Params}{h:Heap}{args:fy WData}{b:fy mu}(c:l.row.toRowW.claim.pre args=Z1)(i:WellAll P h b args) :
  ∃a vs ns,b=[Value.ref a]/\args=[WData.list (ns.map WData.int)]/\h.get? a=some {.type "list",Z0,.seq vs.toArray,#[]}/\IntsAre vs ns/\ns.length≤n:=by
 let g:WShape.hasAll [] args [.list .int]=Z1:=(pre_splitW c).1;let j:l.pre.holds [] {args:=args}=Z1:=(pre_splitW c).2;let⟨d,r,rfl,h1,h2⟩:=hasAllW_cons g;obtain rfl:=hasAllW_nil h2;let⟨xs,rfl,h3⟩:=hasW_list h1;let⟨ns,rfl⟩:=items_int h3;let e:ns.length≤n:=by
  unfold OpenLaw.pre at j;let h4:(WTm.not (.lt (.lit (.int ↥n)) (.len (.arg 0)))).holds [] {args:=[.list (ns.map .int)]}=Z1:=by let h4:=(holds_andW j).1;rwa[hn] at h4
  let h5:=condW_of h4<|w_not<|w_lt w_lit<|w_len_list<|w_arg J;rw[aiE] at h5;refine alz λq=>?_
  let o:↥n <((ns.length:Z5):Z4):=by omega
  first
   |(rw[aiS o] at h5;exact absurd h5 o7)
   |(simp at h5;omega)
 cases i with
 |cons p s=>
  cases s;cases p with
  |list m f=>exact{_,_,ns,J,J,m,vV ns _ f,e}
def Fc(l:OpenLaw)(args:fy WData):l.row.toRowW.claim.post args (.bool Z1) args=Z1:=
 postW_of (r:=l.row.toRowW) (X:=(Z1==Z1))
  (show WShape.has [] (.bool Z1) .bool=Z1 by first|rfl|decide|simp[WShape.has,WShape.arms,WShape.armsAll])
  (show(WTm.eq .res<|.lit<|.bool Z1).value [] {args:=args,res:=some<|.bool Z1,after:=args}=some (.bool (Z1==Z1)) from w_eq_bool (w_res J) w_lit) J
def BY{l:OpenLaw}{n:Z5}{q:t6}{c:fy Z6}{B:(Z6->nt mu)->Heap->Z3}{y:t7->Heap->Z3}{d:DefRec}(hn:l.most=some n)(t:d.params.defaults=[])(call:∀(w:t7)(s₀ b:q8)(mg u:Z6->nt mu)(i:jl)(o:Obj)(p cd g:mu)(a:jl)(vs:fy mu)(ns:fy Z4),
   Ground q c [] B w s₀ mg u b.heap->y w b.heap →
   b.heap.get? i=some o->o.data=.func (docDef d.name d.params d.body d.scope p cd g)->b.heap.CodeRec cd d.name->mg d.name=some (.ref i) →
   b.heap.get? a=some {.type "list",Z0,.seq vs.toArray,#[]}->IntsAre vs ns->ns.length≤n->b.gens=#[] →
   codeAny (model l.prog w) callerA (.call (.ref i) {[.ref a],[]}) (λr s'=>r=.ok (.ret (.bool Z1))/\OldK b.heap s'.heap/\s'.os=b.os/\AllBare s'.gens) b) :
  WalkO q c B y l.row.toRowW d [] (λf vs=>PySem.call f vs):=by
 intro w s₀ b mg u G Y i o p cd g S kV ho hd v z x H args A as m C U s F;obtain rfl:S=.none:=Dflts.none z t;obtain rfl:kV=.none:=Dflts.noKw z;let⟨a,vs,ns,rfl,rfl,j,e,h⟩:=F8 hn m s;refine enter_call (akN (call w s₀ b mg u i o p cd g a vs ns G Y ho (fd_plain hd) v x j e h H) λr s' O=>?_);let⟨rfl,h2,h3,h4⟩:=O;exact{.inl {.bool Z1,.bool Z1,[],J,λ_=>rfl,.bool Z1,Fc l _,λ_=>{List.Pairwise.nil,λ_ L=>(nomatch L)}},h2,h3,h4}
section
variable{prog:t6}{w:t7}{A:Around}{E:mu->q8->Z3}{s:q8}{K:Frag}
def ledger(h:Heap)(L d:jl):fy (jl×Obj):=(List.range h.objs.size).filterMap λa=>if a=L∨a=d then Z0 else(h.get? a).map λo=>(a,o)
end
end Att
namespace L2
open PySem PySem.Spec PyProof.Rows
def yr:∀{vs:fy mu}{ns:fy Z4},IntsAre vs ns->Vals (ns.map Z8) vs
 |_,_,.nil=>.nil
 |_,_,.cons n t h=>.cons ⟨t,J⟩<|yr h
def HA(H:Hp):Z3:=∀b,H b=Z0∨∃o xs,H b=some (.frz o<|.lst xs)
def Hu{P:t6}{w:t7}{K:Frag}{mg mb:Z6->nt mu}{CX:CXT}{k:Z5}{O a:jl}{fd:q9}{x:Z6}{sp:Sp}{s₁:q8}{vs:fy mu}{ns:fy Z4}(KX:K.In s₁.heap)(C:s₁.heap.Ns mainGlobals mg)(j:s₁.heap.Ns builtinsNs mb)(a1:∀x:Z6,x≠"__name__"->mb x=bootBuiltins x)(y:s₁.heap.NoLimit)(hg:s₁.gens=#[])(L:s₁.heap.get? a=some {.type "list",Z0,.seq vs.toArray,#[]})(hi:IntsAre vs ns)(hl:ns.length≤Z7)(hr:cH k callerA)(F:∀base:Heap,K.In base->base.Ns mainGlobals mg->aM P w K mg base CX k O fd [x] sp)(i:∀(s:q8)(u:mu),BindsTo s fd {[u],[]} [(x,u)])(a0:∀H:Hp,HA H->X0 K H a (ns.map Z8)->sp [.ref a] H (λv _=>v=.bl Z1) λ_ _ _=>False)(U:∀H e s',CX [] H s₁ (λ_ _ _=>False) e s'->False) :
  codeAny (model P w) callerA (.call (.ref O) {[.ref a],[]}) (λr s'=>r=.ok (.ret (.bool Z1))/\OldK s₁.heap s'.heap/\s'.os=s₁.os/\AllBare s'.gens) s₁:=by
 let rv:=yr hi;let A:=hi.length;let g:∀H:Hp,HA H->X0 K H a (ns.map Z8)->HOk P w H s₁.heap->(∀b,H b≠Z0->b=a)->(H a≠Z0->K.lookup a=Z0) →
   codeAny (model P w) callerA (.call (.ref O) {[.ref a],[]}) (λr s'=>r=.ok (.ret<|.bool Z1)/\OldK s₁.heap s'.heap/\s'.os=s₁.os/\AllBare s'.gens) s₁:=by
  intro H hO hS p hA hK;let c:∀{b:jl}{o:Obj},s₁.heap.get? b=some o->H b=Z0->(qd s₁.heap H).get? b=some o:=λe n=>HC e n
  let a2:∀{b:jl}{o:Obj}{es:sA DictEntry}{ep:Z5},s₁.heap.get? b=some o->o.data=.dict es ep->H b=Z0:=λ{b o es ep}e d=>by
   cases q:H b with
   |none=>rfl
   |some u=>have S:b=a:=hA b (by rw[q];simp);subst S;rw[L] at e;cases e;let d':Data.seq vs.toArray _=Data.dict es ep:=d;cases d'
  let f:∀{b:jl}{m:Z6->nt mu},s₁.heap.Ns b m->(qd s₁.heap H).Ns b m:=λ {b m} ⟨o,es,ep,e,d,r⟩=>{o,es,ep,c e<|a2 e d,d,r}
  let B:K.In (qd s₁.heap H):=λb o e=>c (KX b o e) (by
   cases q:H b with
   |none=>rfl
   |some u=>have S:b=a:=hA b (by rw[q];simp);subst S;rw[hK (by rw[q];simp)] at e;cases e)
  let hM:Mod K mg (qd s₁.heap H):={B,f C,{mb,f j,a1},let ⟨mc,h1,h2⟩:=y;{mc,f h1,h2}};let e0:uT P w K mg (qd s₁.heap H) callerA [] s₁ H:={J,hM,λb o e=>QK e,ak2<|FO _ _,trivial,λb j=>absurd (show b∈([]:fy jl) from j) o8,p,.of_eq hg};refine akN ((F _ B<|f C).run callerA [] s₁ H {[.ref a],[]} [.ref a] [.ref a] _ _ hr e0 (i s₁<|.ref a) (.cons J .nil)<|a0 H hO hS) λr s' h=>?_
  cases r with
  |error e=>exact(U H e s' h).elim
  |ok fl=>
   cases fl with
   |next=>exact False.elim h
   |brk=>exact False.elim h
   |cont=>exact False.elim h
   |ret u=>
    let⟨v,H',os,t,un,l,r',q⟩:=h;let q':v=.bl Z1:=q;subst q';obtain rfl:u=Value.bool Z1:=r';refine{J,OldK.of_keep λb o e=>?_,os,t};cases q:H b with
    |none=>exact un.keep b o e q (by intro z;exact absurd (show b∈([]:fy jl) from z) o8) o8
    |some u=>
     rcases hO b with z|⟨ob,xs,z⟩
     .rw[q] at z;cases z
     .let z2:=un.qp b ob _ z;let⟨e1,_⟩:=p b _ z;let⟨e2,_⟩:=l b _ z2;rw[e] at e1;cases e1;exact e2
 cases hk:K.lookup a with
 |some o=>have e:=KX a o hk;rw[L] at e;cases e;refine g (λ_=>Z0) (λ_=>.inl J) (.inr {_,vs.toArray,_,hk,J,J,J,by rwa[ajx,A],⇑rv}) (λb u z=>by let Y:(Z0:nt HO)=some u:=z;cases Y) (λb z=>absurd J z) λz=>absurd J z
 |none=>
  refine g (λb=>if b=a then some (.frz {.type "list",Z0,.seq vs.toArray,#[]}<|.lst<|ns.map Z8) else Z0) (λb=>?_) (.inl<|.inr {{.type "list",Z0,.seq vs.toArray,#[]},aiN J}) (λb u z=>?_) (λb z=>?_) λ_=>hk
  .grind
  .by_cases j:b=a
   .let Y:=(aiN j).symm.trans z;cases Y;subst j;exact{L,by rwa[aiE],vs,_,rv,L}
   .grind
  .grind
abbrev KOf{K:Frag}{h:Heap}(_:K.In h):Frag:=K
def Qq{l:OpenLaw}{n k:Z5}{q:t6}{j:fy Z6}{XP:(Z6->nt mu)->Heap->Z3}{C:t7->Heap->Z3}{d:DefRec}{K:Params->Frag}{CX:t7->CXT}{sp:t7->Sp}{x:Z6}(hn:l.most=some n)(B:n≤Z7)(y:d.params.defaults=[])(hr:cH k callerA)(hY:∀(w:t7)(h:Heap),C w h->(K w.params).In h)(F:∀(w:t7)(mg:Z6->nt mu)(r:jl)(h:Heap),(K w.params).In h->h.Ns mainGlobals mg->mg d.name=some (.ref r) →
   ∃fd:q9,(∀(s:q8)(u:mu),BindsTo s fd {[u],[]} [(x,u)])∧
    ∀base:Heap,(K w.params).In base->base.Ns mainGlobals mg->aM l.prog w (K w.params) mg base (CX w) k r fd [x] (sp w))(A:∀(w:t7)(H:Hp)(a:jl)(ns:fy Z4),ns.length≤n->HA H->X0 (K w.params) H a (ns.map Z8)->sp w [.ref a] H (λv _=>v=.bl Z1) λ_ _ _=>False)(t:∀(w:t7)(H:Hp)(s:q8)(e:mu)(s':q8),CX w [] H s (λ_ _ _=>False) e s'->False) :
  WalkO q j XP C l.row.toRowW d [] (λf vs=>PySem.call f vs):=by
 refine Att.BY hn y λw s₀ p mg mb r o pm cd a1 a vs ns G Y ho hd a0 z m i c U=>?_
 let L:=hY w _ Y;let⟨fd,O,hF⟩:=F w mg r _ L G.T.g z;exact Hu L G.T.g G.T.b G.T.builtins G.T.nolimit U m i (ai8 c B) hr hF O (λH S hS=>A w H a ns c S hS) λH e s'=>t w H p e s'
end L2
namespace L2
open PySem PySem.Spec PyProof.Rows
def inClass(s:Stmt)(j:Z5):Stmt:=match s with
 |.ClassDef _ _ _ a _ _ _ _ _ _ _=>a.getD j<|.Pass {(0),(0),(0),(0)}
 |_=>.Pass {(0),(0),(0),(0)}
def fu(s:Stmt):Arguments:=match s with
 |.FunctionDef _ a _ _ _ _ _ _ _ _=>a
 |_=>{posonlyargs:=[],args:=[],vararg:=Z0,kwonlyargs:=[],kw_defaults:=[],kwarg:=Z0,defaults:=[]}
def dB(s:Stmt):fy Stmt:=match s with
 |.FunctionDef _ _ b _ _ _ _ _ _ _=>b
 |_=>[]
def ay(s:Stmt):Scope:=match s with
 |.FunctionDef _ _ _ _ _ _ a _ _ _=>a
 |_=>{kind:=.function,names:=[],isGenerator:=Z2,isCoroutine:=Z2}
abbrev E0:XK:=λ_ _ _=>False
structure Fun(K:Frag)(x qual:Z6)(st:Stmt)(f:jl)(fd:q9):Z3 where
 ex:∃(oc:mu)(od:nt jl)(kV doc pm:mu)(an:nt jl)(cdv ct:mu)(osl:sA (nt mu)),
  fd=fnOf x qual (fu st) (dB st) (ay st) .none kV doc pm an cdv ct/\K.lookup f=some {oc,od,.func fd,osl}/\codeIn K cdv qual=Z1
 kp:keepIn K (.ref f)=Z1
section
variable{P:t6}{w:t7}{K:Frag}{mg:Z6->nt mu}{base:Heap}
def Fun.binds{x qual:Z6}{st:Stmt}{f:jl}{fd:q9}{ps:fy Z6}(F:Fun K x qual st f fd)(h:∀(kV a e:mu)(c:nt jl)(b ct:mu)(us:fy mu),us.length=ps.length->bindArgs (fnOf x qual (fu st) (dB st) (ay st) .none kV a e c b ct) {us,[]}=pure (ps.zip us)):Binds K fd ps []:=by let⟨l,od,kV,a,e,c,b,ct,i,rfl,j,g⟩:=F.ex;exact .all<|h kV a e c b ct
def acw{x qual:Z6}{st:Stmt}{f:jl}{i:mu}{od g:nt jl}{e:sA (nt mu)}{kV b h a ct:mu}(l:K.lookup f=some {i,od,.func (fnOf x qual (fu st) (dB st) (ay st) .none kV b h g a ct),e})(c:codeIn K a qual=Z1)(k:keepIn K (.ref f)=Z1):Fun K x qual st f (fnOf x qual (fu st) (dB st) (ay st) .none kV b h g a ct):={⟨i,od,kV,b,h,g,a,ct,e,J,l,c⟩,k}
end
def ku{A:Around}{k:Z5}(a:cH k A):A.units+1<cLine:=akk (Nat.add_le_add_left (by decide:1≤64) _) a.units
def aF{n:Z5}(h:n≤1000):n<Z7:=akk h o7
section
variable{X:Cx}
def pv(i:Z5){x:Z6}{pos:Pos}(b:X.N[i]?=some x:=by rfl)(e:Vis X.env.scope x:=by first|exact Or.inl rfl|exact Or.inr (Or.inl J)|exact Or.inr (Or.inr J))(c:(x ==("__debug__":Str))=Z2:=by decide)(a:(x ==("__classdict__":Str))=Z2:=by decide):PE X (.Name x pos) (Ir i):=Uv b e c a
end
def gb{A B:Z3}(h:B):if Z2=Z1 then A else B:=by grind
def fQ{A B:Z3}(h:A):if Z1=Z1 then A else B:=by grind
def xj{c A B:Z3}[Decidable c](h1:c->A)(h2:¬c->B):if c then A else B:=by grind
def zB{c A B:Z3}[Decidable c](a:c)(h:B):if (!decide c)=Z1 then A else B:=by grind
def aj(H H':Hp):Z3:=∀b o,H b=some o->H' b=some o
def aj.refl(H:Hp):aj H H:=λ_ _ h=>h
def aj.trans{H H1 H2:Hp}(a:aj H H1)(b:aj H1 H2):aj H H2:=λc o h=>b c o<|a c o h
def aj.free{H H':Hp}(e:aj H H'){l:jl}(h:H' l=Option.none):H l=Option.none:=by
 cases q:H l with
 |none=>rfl
 |some o=>rw[e l o q] at h;cases h
def aj.seq{K:Frag}{H H':Hp}{a:jl}{xs:fy V}(e:aj H H')(h:X0 K H a xs):X0 K H' a xs:=by
 rcases h with(h|⟨o,h⟩)|h
 .exact .inl (.inl<|e _ _ h)
 .exact .inl (.inr {o,e _ _ h})
 .exact .inr h
end L2
set_option maxHeartbeats 4000000
namespace L2
open PySem PySem.Spec PyProof.Rows
section
variable{κ:Type}[DecidableEq κ]
def bD(C4:fy (κ×V))(k:κ):nt V:=(C4.find? λa=>decide (a.1=k)).map (·.2)
def putK(C4:fy (κ×V))(k:κ)(v:V):fy (κ×V):=
 if (C4.any λa=>decide (a.1=k))=Z1 then C4.map (λa=>if a.1=k then(a.1,v) else a) else C4++[(k,v)]
def G1{k:κ}:bD ([]:fy (κ×V)) k=Z0:=rfl
def dW{p:κ×V}{r:fy (κ×V)}{k:κ}(e:p.1=k):bD (p::r) k=some p.2:=by simp[bD,List.find?_cons,e]
def dX{p:κ×V}{r:fy (κ×V)}{k:κ}(e:¬p.1=k):bD (p::r) k=bD r k:=by simp[bD,List.find?_cons,e]
def gP(k:κ):∀C4:fy (κ×V),(C4.any λa=>decide (a.1=k)) =(bD C4 k).isSome
 |[]=>rfl
 |p::r=>by
  rw[akT];by_cases e:p.1=k
  .simp only[dW e,decide_eq_true e,Bool.true_or,Option.isSome_some]
  .rw[dX e,ai1 e,Bool.false_or];exact gP k r
def zI(k j:κ)(y:V):∀C4:fy (κ×V),bD (C4.map λa=>if a.1=k then(a.1,y) else a) j =(bD C4 j).map λx=>if j=k then y else x
 |[]=>rfl
 |p::r=>by
  let b:=zI k j y r;rw[ajl];by_cases h:p.1=k
  .rw[aiN h];by_cases e:p.1=j
   .rw[dW (p:=(p.1,y)) e,dW e,alI,aiN<|e.symm.trans h]
   .rw[dX (p:=(p.1,y)) e,dX e,b]
  .rw[aiL h];by_cases e:p.1=j
   .rw[dW (p:=p) e,dW e,alI,aiL λz=>h<|e.trans z]
   .rw[dX (p:=p) e,dX e,b]
def yF(k j:κ)(y:V):∀C4:fy (κ×V),bD C4 k=Z0->bD (C4++[(k,y)]) j=if j=k then some y else bD C4 j
 |[],_=>by
  by_cases e:k=j
  .rw[aiN e.symm];exact dW (p:=(k,y)) e
  .rw[aiL λz=>e z.symm];exact dX (p:=(k,y)) e
 |p::r,hn=>by
  rw[List.cons_append];let a:¬p.1=k:=λz=>by rw[dW z] at hn;cases hn
  rw[dX a] at hn;let b:=yF k j y r hn;by_cases e:p.1=j
  .rw[dW e,dW e,aiL λz=>a<|e.trans z]
  .rw[dX e,dX e,b]
def c6(C4:fy (κ×V))(k j:κ)(y:V):bD (putK C4 k y) j=if j=k then some y else bD C4 j:=by
 unfold putK;by_cases a:(C4.any λb=>decide (b.1=k))=Z1
 .rw[aiN a,zI];rw[gP] at a;by_cases e:j=k
  .let⟨x,c⟩:=akz.mp a;rw[aiN e,e,c,alI,aiN rfl]
  .rw[aiL e];cases bD C4 j with
   |none=>rfl
   |some x=>rw[alI,aiL e]
 .rw[aiL a];refine yF k j y C4 ?_;rw[gP] at a;cases q:bD C4 k with
  |none=>rfl
  |some x=>rw[q] at a;exact(a J).elim
def cU(C4:fy (κ×V))(k:κ)(v:V):(putK C4 k v).length≤C4.length+1:=by
 unfold putK;split
 .rw[aiE];omega
 .rw[ajj,ajE,List.length_nil];omega
def Hj{C4:fy (κ×V)}{k:κ}(v:V)(h:bD C4 k=Z0):putK C4 k v=C4++[(k,v)]:=by unfold putK;rw[gP,h];exact aiL o7
def gF.sf{o:nt V}{u:nt mu}(r:gF o u):o.isSome=u.isSome:=by
 cases o with
 |none=>cases u with
  |none=>rfl
  |some _=>exact(show False from r).elim
 |some _=>cases u with
  |none=>exact(show False from r).elim
  |some _=>rfl
def gF.getD{o:nt V}{u:nt mu}{d:V}{d':mu}(r:gF o u)(rd:RelV d d'):RelV (o.getD d) (u.getD d'):=by
 cases o with
 |none=>cases u with
  |none=>exact rd
  |some _=>exact(show False from r).elim
 |some _=>cases u with
  |none=>exact(show False from r).elim
  |some _=>exact r
def KV.val{C4:fy (κ×V)}{vs:fy (κ×mu)}(r:KV C4 vs)(k:κ):gF (bD C4 k) (valueAt vs k):=by
 unfold KV at r
 induction r with
 |nil=>exact True.intro
 |@cons p q ps qs h t ih=>
  let⟨h1,h2⟩:=h;by_cases e:p.1=k
  .let a:q.1=k:=h1.symm.trans e;let b:valueAt (q::qs) k=some q.2:=by simp[valueAt,List.find?_cons,a]
   rwa[dW e,b]
  .let a:¬q.1=k:=λz=>e (h1.trans z)
   let b:valueAt (q::qs) k=valueAt qs k:=by simp[valueAt,List.find?_cons,a]
   rwa[dX e,b]
def KV.any{C4:fy (κ×V)}{vs:fy (κ×mu)}(r:KV C4 vs)(k:κ):(C4.any λa=>decide (a.1=k))=vs.any λa=>decide (a.1=k):=by
 unfold KV at r
 induction r with
 |nil=>rfl
 |cons h t b=>rw[akT,akT,b,h.1]
def KV.repl{C4:fy (κ×V)}{vs:fy (κ×mu)}(r:KV C4 vs)(k:κ){y:V}{u:mu}(b:RelV y u) :
  KV (C4.map λa=>if a.1=k then(a.1,y) else a) (vs.map λa=>if a.1=k then(a.1,u) else a):=by
 unfold KV at r ⊢
 induction r with
 |nil=>exact .nil
 |@cons p q ps qs h t ih=>
  rw[ajl,ajl];refine .cons ?_ ih;let⟨h1,h2⟩:=h;by_cases e:p.1=k
  .rw[aiN e,aiN<|h1.symm.trans e];exact⟨h1,b⟩
  .rw[aiL e,aiL λz=>e<|h1.trans z];exact⟨h1,h2⟩
def KV.put{C4:fy (κ×V)}{vs:fy (κ×mu)}(r:KV C4 vs)(k:κ){y:V}{u:mu}(a:RelV y u):KV (putK C4 k y) (stored vs k u):=by
 unfold putK stored;rw[r.any k];by_cases e:(vs.any λb=>decide (b.1=k))=Z1
 .rw[aiN e,aiN e];exact r.repl k a
 .rw[aiL e,aiL e];exact Paired.snoc r ⟨J,a⟩
def KV.length{C4:fy (κ×V)}{vs:fy (κ×mu)}(r:KV C4 vs):C4.length=vs.length:=Paired.length r
end
def lH{P:t6}{w:t7}{k:Key}{u:mu}(r:RelV (kV k) u):(cu P w).is k u=Z1:=by
 cases k with
 |inl i=>let⟨t,e⟩:=(show ∃t,u=Value.int i t from r);subst e;exact BU P w i t
 |inr x=>let⟨t,e⟩:=(show ∃t,u=Value.str x t from r);subst e;exact Bw P w x t
def yz{P:t6}{w:t7}:∀{a:fy Key}{us:fy mu},Vals (a.map kV) us->ItemsAre (cu P w) a us
 |[],_,r=>by rw[ak4] at r;cases r;exact .nil
 |k::a,_,r=>by
  rw[ajl] at r;cases r with
  |cons h t=>exact .cons (lH h)<|yz t
abbrev KT(H:Hp):fy (fy Key×V)->fy (fy Key×jl×mu)->Z3:=Paired λp q=>p.1=q.1/\H q.2.1=some (.tup<|p.1.map kV)/\RelV p.2 q.2.2
def KT.val{H:Hp}{C4:fy (fy Key×V)}{xs:fy (fy Key×jl×mu)}(r:KT H C4 xs)(k:fy Key):gF (bD C4 k) ((atKey xs k).map (·.2)):=by
 induction r with
 |nil=>exact True.intro
 |@cons p q ps qs h t ih=>
  let⟨h1,_,h2⟩:=h;by_cases e:p.1=k
  .let a:q.1=k:=h1.symm.trans e;let b:atKey (q::qs) k=some q.2:=by simp[atKey,List.find?_cons,a]
   rwa[dW e,b]
  .let a:¬q.1=k:=λz=>e (h1.trans z)
   let b:atKey (q::qs) k=atKey qs k:=by simp[atKey,List.find?_cons,a]
   rwa[dX e,b]
def KT.repl{H:Hp}{C4:fy (fy Key×V)}{xs:fy (fy Key×jl×mu)}(r:KT H C4 xs)(k:fy Key){y:V}{u:mu}(b:RelV y u) :
  KT H (C4.map λa=>if a.1=k then(a.1,y) else a) (xs.map (putAt k u)):=by
 induction r with
 |nil=>exact .nil
 |@cons p q ps qs h t ih=>
  rw[ajl,ajl];refine .cons ?_ ih;let⟨h1,h2,h3⟩:=h;unfold putAt;by_cases e:p.1=k
  .rw[aiN e,aiN<|h1.symm.trans e];exact⟨h1,h2,b⟩
  .rw[aiL e,aiL λz=>e<|h1.trans z];exact⟨h1,h2,h3⟩
def KT.put{H:Hp}{C4:fy (fy Key×V)}{xs:fy (fy Key×jl×mu)}(r:KT H C4 xs)(k:fy Key){b:jl}{y:V}{u:mu}(c:H b=some (.tup (k.map kV)))(a:RelV y u) :
  KT H (putK C4 k y) (storedH xs k b u):=by
 let e:(C4.any λf=>decide (f.1=k)) =(atKey xs k).isSome:=by rw[gP,(r.val k).sf,al4]
 unfold putK storedH;rw[e];by_cases q:(atKey xs k).isSome=Z1
 .rw[aiN q,aiN q];exact r.repl k a
 .rw[aiL q,aiL q];exact Paired.snoc r ⟨J,c,a⟩
def KT.keeps{H H':Hp}{C4:fy (fy Key×V)}{xs:fy (fy Key×jl×mu)}(r:KT H C4 xs)(a:∀b ys,H b=some (.tup ys)->H' b=some (.tup ys)):KT H' C4 xs:=
 Paired.IF r λ_ _ z=>{z.1,a _ _ z.2.1,z.2.2}
section
variable{P:t6}{w:t7}{H:Hp}{h:Heap}{a:jl}
def JX{u:HO}(ok:HOk P w H h)(e:Rd H a u):bK P w H h a u:=e.ok ok
def pK{C4:fy (Key×V)}(ok:HOk P w H h)(e:Rd H a (.dK C4)):C4.length≤Z7/\(a==sysModules)=Z2/\∃vs,KV C4 vs/\h.DictOf (cu P w) a vs:=
 show bK P w H h a (.dK C4) from JX ok e
def Of{C4:fy (Key×V)}(ok:HOk P w H h)(e:H a=some (.dK C4)):C4.length≤Z7/\(a==sysModules)=Z2/\∃vs,KV C4 vs/\h.DictOf (cu P w) a vs:=pK ok<|.inl e
def qX{b:fy Key}(ok:HOk P w H h)(e:H a=some (.tup (b.map kV))):(tupleKind (cu P w)).is h b a:=by let⟨_,C5,r,o,h1,h2,n,h3⟩:=(show bK P w H h a (.tup<|b.map kV) from ok a _ e);exact{o,C5.toArray,n,h1,h2,h3,⇑(yz r)}
def sP{C4:fy (fy Key×V)}(ok:HOk P w H h)(e:Rd H a (.dT C4)):C4.length≤Z7/\(a==sysModules)=Z2∧
  ∃xs,KT H C4 xs/\h.DictOfH (tupleKind (cu P w)) a xs:=by
 let⟨z,y,xs,r,o,es,ep,h1,h2,h3,h4,h5⟩:=(show bK P w H h a (.dT C4) from JX ok e);refine{z,y,xs,r,o,es,ep,h1,h2,h3,h4,λx b=>?_,h5};let all:∀{l:fy (fy Key×V)}{m:fy (fy Key×jl×mu)},KT H l m->∀ x∈m,(tupleKind (cu P w)).is h x.1 x.2.1:=by
  intro l m q
  induction q with
  |nil=>intro x b;exact nomatch b
  |@cons p q ps qs hq t ih=>
   intro x b;rcases aiV.mp b with e|b
   .subst e;exact qX ok (by rw[←hq.1];exact hq.2.1)
   .exact ih x b
 exact all r x b
def ae9{C4:fy (fy Key×V)}(ok:HOk P w H h)(e:H a=some (.dT C4)):C4.length≤Z7/\(a==sysModules)=Z2∧
  ∃xs,KT H C4 xs/\h.DictOfH (tupleKind (cu P w)) a xs:=sP ok<|.inl e
end
def gH(H:Hp)(a:jl)(y:V)(r:nt V):Z3:=
 (∃C4 k,Rd H a (.dK C4)/\y=kV k/\r=bD C4 k)∨∃C4 k b,Rd H a (.dT C4)/\y=.ref b/\H b=some (.tup<|k.map kV)/\r=bD C4 k
def jP(H:Hp)(a:jl)(y v:V)(H':Hp):Z3:=
 (∃C4 k,H a=some (.dK C4)/\y=kV k/\C4.length<Z7/\H'=Z9 H a (.dK<|putK C4 k v))∨
 ∃C4 k b,H a=some (.dT C4)/\y=.ref b/\H b=some (.tup<|k.map kV)/\C4.length<Z7/\H'=Z9 H a (.dT<|putK C4 k v)
def gH.k{H:Hp}{a:jl}{C4:fy (Key×V)}{k:Key}(e:H a=some (.dK C4)):gH H a (kV k) (bD C4 k):=.inl {C4,k,.inl e,J,J}
def jP.k{H:Hp}{a:jl}{C4:fy (Key×V)}{k:Key}{v:V}(e:H a=some (.dK C4))(b:C4.length<Z7):jP H a (kV k) v (Z9 H a (.dK (putK C4 k v))):=.inl ⟨C4,k,e,J,b,J⟩
section
variable{X:Cx}{X4:fy (jl×Obj)}{σ:St}{H:Hp}{s:q8}{a:jl}{y v:V}{u r:mu}{o:nt V}{A:Around}{E:mu->q8->Z3}
def Inv.big(I:Inv X X4 σ H s):sysModules<(~~~s):=by let h:mainGlobals<(~~~s):=(I.mod.glob.keeps I.bk).lt;exact alJ o7 h
def F6{Q:mu->q8->Z3}(t:A.units+1<cLine)(I:Inv X X4 σ H s)(g:gH H a y (some v))(q:RelV y u)(h:∀i s',Inv X X4 σ H s'->RelV v i->Q i s') :
  wpAny (model X.prog X.w) A (getItem (.ref a) u) Q E s:=by
 rcases g with⟨C4,k,e,j,l⟩|⟨C4,k,b,e,j,r,l⟩
 .subst j;let⟨z,B,vs,f,dd⟩:=pK I.hok e;let⟨i,n,c⟩:=gF.some_of (v:=v) (o:=valueAt vs k) (by rw[l];exact f.val k);exact amk (lH q) dd.mapOf n<|h i _ (I.tok _) c
 .subst j;cases (show u=Value.ref b from q);let⟨z,B,xs,f,dd⟩:=sP I.hok e;let⟨i,n,c⟩:=gF.some_of (v:=v) (o:=(atKey xs k).map (·.2)) (by rw[l];exact f.val k);let⟨p,x,m⟩:=ai9.mp n;refine wpAny_getItem_heap (ak5 t) (qX I.hok r) dd x ?_;rw[m];exact h i _ (I.tok _) c
def ain{Q:mu->q8->Z3}(n:A.units+1<cLine)(I:Inv X X4 σ H s)(g:gH H a y o)(j:RelV y u)(h:∀s',Inv X X4 σ H s'->Q (.bool o.isSome) s') :
  wpAny (model X.prog X.w) A (compareOp .In u (.ref a)) Q E s:=by
 rcases g with⟨C4,k,e,f,l⟩|⟨C4,k,b,e,f,m,l⟩
 .subst f;let⟨z,i,vs,c,dd⟩:=pK I.hok e;refine wpAny_in_of (lH j) i dd.mapOf ?_;rw[←(c.val k).sf,←l];exact h _<|I.tok _
 .subst f;cases (show u=Value.ref b from j);let⟨z,i,xs,c,dd⟩:=sP I.hok e;refine wpAny_in_heap (ak5 n) (qX I.hok m) i dd ?_;let q:=(c.val k).sf;rw[al4] at q;rw[←q,←l];exact h _<|I.tok _
def xF{h':Heap}{t':Z5}{c:HO}(I:Inv X X4 σ H s)(g:Mut (H a))(hs:Heap.SameBut a s.heap h')(h:∃q,h'.get? a=some q)(new:bK X.prog X.w (Z9 H a c) h' a c) :
  Inv X X4 σ (Z9 H a c) {s with heap:=h',toks:=t'}:=
 I.write (x:=a) (e:=a) g (.inl J) (λb q f z=>(hs.2 b f).trans z) h new
def Fb{P:t6}{w:t7}{H':Hp}{h':Heap}{C4:fy (Key×V)}{vs:fy (Key×mu)}(z:C4.length≤Z7)(c:(a==sysModules)=Z2)(b:KV C4 vs)(dd:h'.DictOf (cu P w) a vs) :
  bK P w H' h' a (.dK C4):=⟨z,c,vs,b,dd⟩
def Fd{H':Hp}{Q:Unit->q8->Z3}(L:A.units+1<cLine)(I:Inv X X4 σ H s)(g:jP H a y v H')(C:RelV y u)(B:RelV v r)(h:∀s',Inv X X4 σ H' s'->Q () s') :
  wpAny (model X.prog X.w) A (setItem (.ref a) u r) Q E s:=by
 rcases g with⟨C4,k,e,m,l,p⟩|⟨C4,k,b,e,m,x,l,p⟩
 .subst m p;let⟨z,t,vs,f,dd⟩:=Of I.hok e;let o:vs.length≤Z7:=by rwa[←f.length]
  let n:(putK C4 k v).length≤Z7:=by let:=cU C4 k v;omega
  refine wpAny_setItem_pairs (hsz:=o) (lH C) dd λh' i hs=>h _ ?_
  let F:∃q,h'.get? a=some q:=let ⟨q,_,_,j,_⟩:=i;⟨q,j⟩;exact xF I (by rw[e];exact True.intro) hs F<|Fb n t (f.put k B) i
 .subst m p;cases (show u=Value.ref b from C);let⟨z,t,xs,f,dd⟩:=ae9 I.hok e;let o:xs.length≤Z7:=by rwa[←Paired.length f]
  let n:(putK C4 k v).length≤Z7:=by let:=cU C4 k v;omega
  refine wpAny_setItem_heap (hsz:=o) (ak5 L) (qX I.hok x) dd λh' i hs=>h _ ?_
  let⟨q,es,ep,j,h2,h3,h4,_,h5⟩:=i;refine xF I (by rw[e];exact True.intro) hs ⟨q,j⟩ {n,t,_,(f.put k x B).keeps λc ys ec=>?_,q,es,ep,j,h2,h3,h4,h5};rw[ak<|bU ec e λz=>nomatch z];exact ec
end
section
variable{X:Cx}{X4:fy (jl×Obj)}{σ:St}{H:Hp}{s:q8}{a:jl}{C4:fy (Key×V)}{k:Key}{u:mu}{A:Around}{E:mu->q8->Z3}
def agu{Q:mu->q8->Z3}(I:Inv X X4 σ H s)(e:Rd H a (.dK C4))(h:∀t s',Inv X X4 σ H s'->Q (.int C4.length t) s'):wpAny (model X.prog X.w) A (call (.builtin "len") [.ref a]) Q E s:=by let⟨z,c,vs,b,dd⟩:=pK I.hok e;refine call_len_dict c dd (by rw[←b.length];rw[alW] at z;omega) ?_;rw[←b.length];exact h _ _<|I.tok _
end
def EA(i:Expr):Z3:=∀b a,subscripted i Z2 b a=operate [b,a] (getItem b a)
def xA{prog:t6}{w:t7}{A:Around}{E:mu->q8->Z3}{s:q8}{env:Env}{value a:Expr}{pos:Pos}{T id:String}{Q:mu->q8->Z3}(l:typeLookup (.type T) "__getitem__" = pure (some (.builtin id)))(hs:EA a)(h:wpAny (model prog w) A (eval value env) (λo c=>wpAny (model prog w) A (eval a env) (λi s₂=>s₂.TypeIs o T/\wpAny (model prog w) A (getItem o i) Q E s₂) E c) E s) :
  wpAny (model prog w) A (eval (.Subscript value a pos) env) Q E s:=by
 refine Subscript_ (ajy h (λo c g=>ajy g (λi s₂ b=>?_) λ_ _ x=>x) λ_ _ x=>x);let⟨j,b⟩:=b;unfold subscriptTail;refine aiF ?_;rw[getitemInPython_of_ne j.not_modules];refine aiF<|alK j l ?_;let fin:wpAny (model prog w) A (subscripted a Z2 o i) (λr e=>wpAny (model prog w) A (letTemporaryGo value o r >>= λ_=>pure r) Q E e) E s₂:=by rw[hs o i];exact wpAny_operating (ajy b (λr e f=>aiF<|wpAny_letTemporaryGo<|aiJ f) λ_ _ x=>x)
 first
  |exact aiJ<|aiF fin
  |exact aiF<|aiJ<|aiF fin
  |exact aiF fin
def BQ{X:Cx}{X4:fy (jl×Obj)}{σ:St}{H:Hp}{s:q8}{a:jl}{y:V}{o:nt V}(I:Inv X X4 σ H s)(g:gH H a y o):s.TypeIs (.ref a) "dict":=by
 rcases g with⟨C4,k,e,_,_⟩|⟨C4,k,b,e,_,_,_⟩
 .let⟨_,_,vs,_,dd⟩:=pK I.hok e;exact dd.typeIs
 .let⟨_,_,xs,_,dd⟩:=sP I.hok e;exact dd.typeIs
inductive Cn(Q:VK)(x:V)(y:V)(H2:Hp):Z3
 |m a v(_:x=.ref a)(_:gH H2 a y (some v))(_:Q v H2)
def agP(td ty:TE):TE:=λσ H Q=>td σ H λx H1=>ty σ H1 λy H2=>Cn Q x y H2
inductive EY(Q:VK)(y:V)(x:V)(H2:Hp):Z3
 |m a o(_:x=.ref a)(_:gH H2 a y o)(_:Q (.bl o.isSome) H2)
def ahI(ty td:TE):TE:=λσ H Q=>ty σ H λy H1=>td σ H1 λx H2=>EY Q y x H2
inductive Dk(D:Ends)(σ:St)(v:V)(x:V)(y:V)(H3:Hp):Z3
 |m a H4(_:x=.ref a)(_:jP H3 a y v H4)(_:D.nx σ H4)
def adG(td ty tv:TE):TS:=λD σ H=>tv σ H λv H1=>td σ H1 λx H2=>ty σ H2 λy a=>Dk D σ v x y a
section
variable{X:Cx}{o i e value:Expr}{pos pos' tpos:Pos}{td ty tv:TE}
def yk(f:X.A.units+1<cLine)(c:PE X o td)(hi:PE X i ty)(hs:EA i):PE X (.Subscript o i pos) (agP td ty):=by intro X4 s σ H Q I h;refine xA akY.lookup hs (thn (c X4 s σ H _ I h) λ u s1 ⟨x,H1,I1,rx,q1⟩=>thn (hi X4 s1 σ H1 _ I1 q1) λ l s2 ⟨y,H2,I2,ry,a,v,ex,g,q2⟩=>?_);subst ex;obtain rfl:u=Value.ref a:=rx;exact{BQ I2 g,F6 f I2 g ry λj s3 e b=>⟨v,H2,e,b,q2⟩}
def abk(e:X.A.units+1<cLine)(hi:PE X i ty)(b:PE X o td):PC X .In i o (ahI ty td):=by
 intro X4 s σ H Q I h;refine thn (hi X4 s σ H _ I h) λ f s1 ⟨y,H1,I1,ry,q1⟩=>thn (b X4 s1 σ H1 _ I1 q1) λ u s2 ⟨x,H2,I2,rx,a,ov,ex,g,q2⟩=>?_
 subst ex;obtain rfl:u=Value.ref a:=rx;exact ain e I2 g ry λs3 c=>{.bl ov.isSome,H2,c,J,q2}
def oY(c:X.A.units+1<cLine)(b:PE X o td)(hi:PE X i ty)(f:PE X value tv)(hs:swapsWith value (some (.Subscript o i pos')) pos.line X.env=pure Z2) :
  PS X (.Assign [.Subscript o i pos'] value pos) (adG td ty tv):=by
 intro X4 s σ H D I h;refine wpAny_Assign_Subscript (thn (f X4 s σ H _ I h) λ r s1 ⟨v,H1,I1,rv,q1⟩=>thn (b X4 s1 σ H1 _ I1 q1) λ u s2 ⟨x,H2,I2,rx,q2⟩=>thn (hi X4 s2 σ H2 _ I2 q2) λ j s3 ⟨y,H3,I3,ry,a,H4,ex,g,q3⟩=>?_) hs;subst ex;obtain rfl:u=Value.ref a:=rx;exact Fd c I3 g ry rv λs4 e=>⟨σ,H4,e,q3⟩
end
def AF{P:t6}{w:t7}{H:Hp}(h:Heap)(a:sysModules<h.objs.size):bK P w H (h.push {.type "dict",Z0,.dict #[],#[]}) h.objs.size (.dK []):=
 {ajb _,anb.mpr<|ajH<|ajq a,[],.nil,Heap.DictOf.new h}
def aaa:TE:=λ_ H Q=>∀p,H p=Z0->Q (.ref p) (Z9 H p<|.dK [])
section
variable{X:Cx}{pos:Pos}
def uR:PE X (.Dict [] [] pos) aaa:=λX4 s σ H Q I h=>wpAny_Dict_empty {.ref (~~~s),_,I.laid (a:= ~~~s) (o:=.dK []) (t':=s.toks) (λ_ _ q=>aiI _ q) (aiK _)<|AF s.heap I.big,J,h _<|I.hok.fresh<|aiK _}
end
def AG:fy (TE×TE)->St->Hp->(fy (V×V)->Hp->Z3)->Z3
 |[],_,H,Q=>Q [] H
 |(tk,tv)::r,σ,H,Q=>tk σ H λx H1=>tv σ H1 λy H2=>AG r σ H2 λps a=>Q ((x,y)::ps) a
abbrev VV:fy (V×V)->fy (mu×mu)->Z3:=Paired λp q=>RelV p.1 q.1/\RelV p.2 q.2
def PPs(X:Cx)(pos:Pos)(keys:fy (nt Expr))(a:fy Expr)(b:fy (TE×TE)):Z3:=
 ∀(X4:fy (jl×Obj))(s:q8)(σ:St)(H:Hp)(Q:fy (V×V)->Hp->Z3),Inv X X4 σ H s->AG b σ H Q →
  wpAny (model X.prog X.w) X.A (evalPairs<|pairTrees keys a X.env pos) (λvs s'=>∃ps H',Inv X X4 σ H' s'/\VV ps vs/\Q ps H') X.xe s
def Du{X:Cx}{pos:Pos}:PPs X pos [] [] []:=λX4 s σ H Q I h=>pairTrees_nil_walk {[],H,I,.nil,h}
def Ai{X:Cx}{pos:Pos}{k v:Expr}{c:fy (nt Expr)}{vs:fy Expr}{b tv:TE}{a:fy (TE×TE)}(f:PE X k b)(g:PE X v tv)(e:PPs X pos c vs a) :
  PPs X pos (some k::c) (v::vs) ((b,tv)::a):=λX4 s σ H Q I h=>
 pairTrees_cons_walk (thn (f X4 s σ H _ I h) λ u s1 ⟨x,H1,I1,rx,q1⟩=>thn (g X4 s1 σ H1 _ I1 q1) λ i s2 ⟨y,H2,I2,ry,q2⟩=>thn (e X4 s2 σ H2 _ I2 q2) λ ws s3 ⟨ps,H3,I3,rel,q3⟩=>{(x,y)::ps,H3,I3,.cons ⟨rx,ry⟩ rel,q3})
def gA(C4 more:fy (Key×V)):fy (Key×V):=more.foldl (λacc a=>putK acc a.1 a.2) C4
def KV.merge:∀{more:fy (Key×V)}{a:fy (Key×mu)}{C4:fy (Key×V)}{vs:fy (Key×mu)},KV more a->KV C4 vs->KV (gA C4 more) (merged vs a):=by
 intro more a C4 vs r;unfold KV at r
 induction r generalizing C4 vs with
 |nil=>intro q;exact q
 |@cons p q ps qs h t ih=>
  intro r0;let e:KV (putK C4 p.1 p.2) (stored vs q.1 q.2):=by let:=r0.put p.1 h.2;rwa[←h.1]
  exact ih e
def qA:∀(more C4:fy (Key×V)),(gA C4 more).length≤C4.length+more.length
 |[],C4=>by show C4.length≤C4.length+0;omega
 |p::r,C4=>by let h1:=qA r<|putK C4 p.1 p.2;let h2:=cU C4 p.1 p.2;show(gA (putK C4 p.1 p.2) r).length≤_;rw[ajE];omega
def vR{P:t6}{w:t7}:∀{C4:fy (Key×V)}{ws:fy (mu×mu)},VV (C4.map λf=>(kV f.1,f.2)) ws->∃e,Carries (cu P w) ws e/\KV C4 e
 |[],_,r=>by rw[ak4] at r;cases r;exact{[],True.intro,.nil}
 |p::C4,_,r=>by
  rw[ajl] at r;cases r with
  |@cons a b as bs h t=>let⟨e,c,q⟩:=vR (P:=P) (w:=w) t;let⟨b1,b2⟩:=b;exact{(p.1,b2)::e,{lH h.1,J,c},.cons ⟨J,h.2⟩ q}
def afE(a:fy (TE×TE)):TE:=λσ H Q=>∀p,H p=Z0->AG a σ (Z9 H p<|.dK []) λps H2=>H2 p=some (.dK [])/\∃C4:fy (Key×V),ps=C4.map (λb=>(kV b.1,b.2))/\C4.length≤15/\Q (.ref p) (Z9 H2 p<|.dK<|gA [] C4)
def Ct{X:Cx}{pos:Pos}{keys:fy (nt Expr)}{b:fy Expr}{g:fy (TE×TE)}(h:PPs X pos keys b g)(f:keys.all (·.isSome)=Z1)(l:keys.length=b.length)(h0:keys≠[])(h15:keys.length≤15):PE X (.Dict keys b pos) (afE g):=by
 intro X4 s σ H Q I q;let hn:=I.hok.fresh<|aiK (~~~s);let m:=I.laid (a:= ~~~s) (o:=.dK []) (h':=s.heap.push {.type "dict",Z0,.dict #[],#[]}) (t':=s.toks) (λ_ _ q=>aiI _ q) (aiK _)<|AF s.heap I.big;refine wpAny_Dict_walk (knd:=cu X.prog X.w) f l h0 h15 (thn (h X4 _ σ _ _ m<|q _ hn) λ ws s2 ⟨ps,H2,I2,rel,e,C4,ep,lk,q2⟩=>?_);subst ep;let⟨j,c,r⟩:=vR (P:=X.prog) (w:=X.w) rel;let⟨z,u,t,r0,dd⟩:=Of I2.hok e;cases r0;refine{j,c,dd,λh' i hs=>{.ref (~~~s),_,?_,J,q2}};let p:(gA [] C4).length≤Z7:=by let h1:=qA C4 [];rw[List.length_nil] at h1;rw[alW];omega
 let n:∃q,h'.get? (~~~s)=some q:=let ⟨q,_,_,hq,_⟩:=i;⟨q,hq⟩;exact xF I2 (by rw[e];exact True.intro) hs n<|Fb p u (r.merge .nil) i
structure M1(X:Cx)(o:Expr)(m:Z6)(apos:Pos)(e:Expr)(cpos:Pos):Z3 where
 base:attributeBase o m X.env (eval o X.env)=eval o X.env
 few:((backTo cpos (starEach [e] X.env)).all (λx=>!x.1) &&(backToKw cpos (keywordEach [] X.env)).all (λx=>x.1.isSome)
  && decide (([e]:fy Expr).length +([]:fy Keyword).length +(if ([]:fy Keyword).isEmpty then 0 else 1)<30))=Z1
 line:(apos.endLine==cpos.line)=Z1
 trees:backTo cpos (starEach [e] X.env)=[(Z2,eval e X.env)]
def IsD(H:Hp)(a:jl):Z3:=(∃C4,Rd H a<|.dK C4)∨∃C4,Rd H a<|.dT C4
def Yu{X:Cx}{X4:fy (jl×Obj)}{σ:St}{H:Hp}{s:q8}{a:jl}(I:Inv X X4 σ H s)(d:IsD H a) :
  s.TypeIs (.ref a) "dict"/\(∀b,Value.ref a=.ref b->∃c,s.heap.get? b=some c/\c.dict=Z0)/\(a==sysModules)=Z2:=by
 rcases d with⟨C4,e⟩|⟨C4,e⟩
 .let⟨_,f,vs,_,dd⟩:=pK I.hok e;refine{dd.typeIs,λb q=>?_,f};cases q;let⟨c,_,_,h1,h2,_⟩:=dd;exact⟨c,h1,h2.2.1⟩
 .let⟨_,f,xs,_,dd⟩:=sP I.hok e;refine{dd.typeIs,λb q=>?_,f};cases q;let⟨c,_,_,h1,h2,_⟩:=dd;exact⟨c,h1,h2.2.1⟩
section
variable{X:Cx}{X4:fy (jl×Obj)}{σ:St}{H:Hp}{s:q8}{a:jl}{y d:V}{u r:mu}{o:nt V}{A:Around}{E:mu->q8->Z3}
def Xq{Q:mu->q8->Z3}(p:A.units+1<cLine)(I:Inv X X4 σ H s)(g:gH H a y o)(m:RelV y u)(h:∀j s',Inv X X4 σ H s'->RelV (o.getD .non) j->Q j s') :
  wpAny (model X.prog X.w) A (call (.builtin "dict.get") [.ref a,u]) Q E s:=by
 rcases g with⟨C4,k,e,f,l⟩|⟨C4,k,b,e,f,n,l⟩
 .subst f;let⟨z,i,vs,c,dd⟩:=pK I.hok e;refine call_meetsIn alB dd.typeIs amH (amv _ _) (meets_dict_get (cu X.prog X.w) a (lH m) i) {_,dd.mapOf,h _ _ (I.tok _) ?_};rw[l];exact(c.val k).getD J
 .subst f;cases (show u=Value.ref b from m);let⟨z,i,xs,c,dd⟩:=sP I.hok e;refine call_meetsIn alB dd.typeIs amH (amv _ _) (meetsH_dict_get (tupleKind<|cu X.prog X.w) a b i) {ak5 p,k,xs,qX I.hok n,dd,h _ _ (I.tok _) ?_};rw[l];exact(c.val k).getD J
end
inductive A8(ty:TE)(σ:St)(Q:VK)(x:V)(H1:Hp):Z3
 |m a(_:x=.ref a)(_:IsD H1 a)(_:ty σ H1 λy H2=>∃o,gH H2 a y o/\Q (o.getD .non) H2)
def QZ(td ty:TE):TE:=λσ H Q=>td σ H λx H1=>A8 ty σ Q x H1
section
variable{X:Cx}{o e f:Expr}{apos cpos:Pos}{td ty tx:TE}
def Ip(l:X.A.units+1<cLine)(c:PE X o td)(i:PE X e ty)(m:M1 X o "get" apos e cpos):PE X (.Call (.Attribute o "get" apos) [e] [] cpos) (QZ td ty):=by intro X4 s σ H Q I h;refine wpAny_Call_method m.base m.few m.line PySem.F.plainAttrs_dict alB PySem.F.type_dict_get (thn (c X4 s σ H _ I h) λ u s1 ⟨x,H1,I1,rx,a,ex,d,q1⟩=>?_);subst ex;obtain rfl:u=Value.ref a:=rx;let⟨f,n,_⟩:=Yu I1 d;exists f,n;rw[m.trees];refine alr J<|Calls.evalArgs_plain<|akj (thn (i X4 s1 σ H1 _ I1 q1) λ q s2 ⟨y,H2,I2,ry,ov,g,q2⟩=>akw ?_);exact Xq l I2 g ry λp s3 j b=>{_,H2,j,b,q2}
end
section
variable{X:Cx}
inductive tT(xs:fy V)(H:Hp)(Q:VK):Z3
 |m a C4(_:xs=[.ref a])(_:H a=some (.dK C4))(_:Q (.int C4.length) H)
def EO:dh X (.builtin "len") tT:=by intro X4 s σ H xs us Q I r h;let⟨a,C4,rfl,c,q⟩:=h;let⟨u,rfl,b⟩:=vals1 r;cases b;exact agu I (.inl c) λt s' e=>{.int C4.length,H,e,⟨t,J⟩,q}
end
section
variable{κ:Type}[DecidableEq κ]
def HQ{C4:fy (κ×V)}{k:κ}(h:bD C4 k=Z0):¬k∈C4.map (·.1):=by intro m;let⟨p,a,e⟩:=ajd.mp m;let q:(C4.any λb=>decide (b.1=k))=Z1:=akR.mpr {p,a,aiS e};rw[gP,h] at q;exact absurd q o8
def Ds:∀{l:fy κ}{k:κ},l.Nodup->¬k∈l->(l++[k]).Nodup
 |[],k,_,_=>by simp
 |a::r,k,h,hk=>by
  let⟨h1,h2⟩:=ajg.mp h;show(a ::(r++[k])).Nodup;refine ajg.mpr {λm=>?_,Ds h2 λm=>hk<|aiV.mpr<|Or.inr m};rcases aiX.mp m with q|q
  .exact h1 q
  .exact hk (aiV.mpr<|Or.inl (ai6.mp q).symm)
def QS{C4:fy (κ×V)}{k:κ}(v:V)(hn:(C4.map (·.1)).Nodup)(h:bD C4 k=Z0):((putK C4 k v).map (·.1)).Nodup:=by rw[Hj v h,aja];exact Ds hn<|HQ h
end
end L2
namespace Chk
def T(n:Z5):Z5:=n*128 % 2 ^ 64+n / 2 ^ 57
def D(n:Z5):Z5:=if n*2≥2 ^ 64 then n*2-2 ^ 64+1 else n*2
def ag2(a b:Z5):(a ^^^ b) % 2+2*((a &&& b) % 2)=a % 2+b % 2:=by let p:=Nat.xor_mod_two_eq_one (a:=a) (b:=b);let q:=Nat.and_mod_two_eq_one (a:=a) (b:=b);rcases akv a with h|h <;> rcases akv b with k|k <;> rcases akv (a ^^^ b) with x|x <;> rcases akv (a &&& b) with y|y <;> simp[h,k,x,y] at p q ⊢
def aeN{X Y a b:Z5}(h:X / 2+2*(Y / 2)=a / 2+b / 2)(p:X % 2+2*(Y % 2)=a % 2+b % 2):X+2*Y=a+b:=by omega
def QX:∀a b:Z5,(a ^^^ b)+2*(a &&& b)=a+b:=by
 intro a
 induction a using Nat.strongRecOn with
 |ind a e=>
  intro b;by_cases c:a=0
  .subst c;simp
  .refine aeN ?_ (ag2 a b);rw[Nat.xor_div_two,Nat.and_div_two];exact e (a / 2) (Nat.div_lt_self (ak6 c) o7)<|b / 2
def stp(c n:Z5):Z5:=T c ^^^ n
def chk(l:fy Z5):Z5:=l.foldl stp 0
end Chk
namespace L2
open PySem PySem.Spec PyProof.Rows
section
variable{X:Cx}
def gu:OpR X (binaryOp .FloorDiv) (rI (λ_ j=>0<j/\j.natAbs.log2<9000) λi j=>.int (i / j)):=opI λi j _ _ _ _ _ a q=>by let h1:↥0<j:=a.1;exact floordiv_int o6 (by grind)<|.inl<|PyProof.noPylong_of_log2 a.2
def iY{a b n:Z4}{j1 j2 p1 p2 pos}(h:0≤b/\b≤1000000/\a.natAbs<2 ^ 64:=by decide)(e:a ^ b.toNat=n:=by first|rfl|decide +kernel) :
  PE X (.BinOp (.Constant (.int a) j1 p1) .Pow (.Constant (.int b) j2 p2) pos) (tC (.int n)):=λX4 s σ H Q I c=>
 aB Ww au au X4 s σ H Q I {3,h,by subst e;exact c}
def acr:V->nt mu
 |.ty n=>some<|.type n
 |.ref a=>some<|.ref a
 |_=>Z0
inductive iJ(K:Frag)(xs:fy V)(H:Hp)(Q:VK):Z3
 |m x c cv t b(_:xs=[x,c])(_:acr c=some cv)(_:jZ K H x t)(_:kitOne K t cv=some b)(_:Q (.bl b) H)
def oh:dh X (.builtin "isinstance") (iJ X.K):=by
 rintro X4 s σ H xs us Q I r ⟨x,c,cv,t,b,rfl,a,ty,e,q⟩;let⟨u,v,rfl,g,h⟩:=vals2 r;let i:v=cv:=by cases c <;> simp[acr] at a <;> subst a <;> exact h
 subst i;exact GL I g ty e λf=>{.bl b,H,I.tok f,J,q}
end
def dZ{c A B:Z3}[Decidable c](a:c)(h:A):if decide c=Z1 then A else B:=by grind
def cS{c A B:Z3}[Decidable c](a:¬c)(h:B):if decide c=Z1 then A else B:=by grind
def clos(cells:fy (Z6×jl)):fy (Z6×NameKind)->fy (Z6×jl)->fy (Z6×jl)
 |[],acc=>acc
 |(n,k)::r,acc=>clos cells r (if k==.free then(n,(cells.lookup n).getD 0)::acc else acc)
def rX:∀l acc,(∀ y∈l,y.2=.free->∃c,env.cells.lookup y.1=some c) →
  (forIn l acc λ(x:Z6×NameKind)(j:fy (Z6×jl))=>if (x.2==NameKind.free)=Z1 then do let a ←cellOf env x.1;pure (ForInStep.yield ((x.1,a)::j)) else pure (ForInStep.yield j):Sem (fy (Z6×jl)))=pure (clos env.cells l acc)
 |[],acc,_=>by simp only[List.forIn_nil];rfl
 |(n,k)::r,acc,h=>by
  simp only[List.forIn_cons];cases g:(k==NameKind.free) with
  |false=>
   simp only[Bool.false_eq_true,if_false];let b:=rX (env:=env) r acc λy f=>h y<|ai3 _ f
   simp only[pure_bind,b,clos,g,Bool.false_eq_true,if_false]
  |true=>
   let⟨c,i⟩:=h (n,k) ajM (⇑g);let e:cellOf env n=pure c:=by unfold cellOf;rw[show env.cells.lookup n=some c from i]
   simp only[if_true,e,pure_bind];let b:=rX (env:=env) r ((n,c)::acc) λy f=>h y<|ai3 _ f
   rw[b];simp only[clos,g,if_true];rw[show env.cells.lookup n=some c from i];rfl
def qz(h:∀ y∈scope.names,y.2=.free->∃c,env.cells.lookup y.1=some c):closureFor scope env=pure (clos env.cells scope.names []):=by let:=rX (env:=env) scope.names [] h;unfold closureFor;simp only[bind_pure];exact this
def Au:∀{names:fy (Z6×NameKind)}{acc:fy (Z6×jl)},(∀ y∈names,y.2=.free->∃c,cells.lookup y.1=some c)->(∀x c,acc.lookup x=some c->cells.lookup x=some c) →
  ∀x c,(clos cells names acc).lookup x=some c->cells.lookup x=some c
 |[],_,_,ha,x,c,h=>ha x c h
 |(n,k)::r,acc,hn,ha,x,c,h=>by
  refine Au (names:=r) (λy a=>hn y<|ai3 _ a) ?_ x c h;intro x c h;split at h
  .rename_i e;let⟨d,b⟩:=hn (n,k) ajM (⇑e);rw[show cells.lookup n=some d from b,ajo] at h;split at h
   .grind
   .exact ha x c h
  .exact ha x c h
def uU:∀{names:fy (Z6×NameKind)}{acc:fy (Z6×jl)}{x:Z6},((x,NameKind.free)∈names∨∃c,acc.lookup x=some c)->∃c,(clos cells names acc).lookup x=some c
 |[],acc,x,h=>by
  rcases h with h|h
  .cases h
  .exact h
 |(n,k)::r,acc,x,h=>by
  refine uU (names:=r) ?_;rcases h with h|⟨c,h⟩
  .rcases aiV.mp h with h|h
   .injection h with h1 h2
    subst h1;subst h2;exact .inr {(cells.lookup x).getD 0,by simp[List.lookup_cons]}
   .exact .inl h
  .right;split
   .rw[ajo];split
    .exact{1}
    .exact⟨c,h⟩
   .exact⟨c,h⟩
def mem_of_lookup{α:Type}{x:Z6}{a:α}:∀{l:fy (Z6×α)},l.lookup x=some a->(x,a)∈l
 |[],h=>by simp at h
 |(n,k)::r,h=>by
  rw[ajo] at h;split at h
  .rename_i e;injection h with h
   rw[eq_of_beq e,h];exact ajM
  .exact ai3 _ (mem_of_lookup h)
def oF{env:Env}{x:Z6}:∀(names:fy (Z6×NameKind)),
  (names.map λ(n,k)=>if (k==NameKind.free&&env.scope.kind==.function&&env.kindOf n==some .cell) then(n,NameKind.cell) else(n,k)).lookup x =
   (names.lookup x).map λk=>if (k==NameKind.free&&env.scope.kind==.function&&env.kindOf x==some .cell) then NameKind.cell else k
 |[]=>rfl
 |(n,k)::r=>by
  let a:=oF (env:=env) (x:=x) r;simp only[List.map_cons];by_cases e:x=n
  .grind
  .grind
def pP{a b n:Z5}(h1:a<n)(h2:n≤b):a≠b:=by omega
def Cx.comp(X:Cx)(scope:Scope)(N:fy Z6)(C:jl)(s₀:q8)(H₀:Hp)(ex:fy jl):Cx:=
 {X with N:=N,s₀:=s₀,H₀:=H₀,env:=compEnvC scope (clos X.env.cells scope.names []) C X.env,outer:=X.stack,stack:=X.stack,ex:=ex,fn:=λ_=>Z2,pn:=[]}
def st0(k:Z5)(cap:fy Z5)(σ:St):St:=List.replicate k Z0++cap.map λj=>(σ[j]?).getD Z0
def wU(b:fy Z6)(fs a:Scope)(N:fy Z6)(k:Z5)(cap:fy Z5):Bool:=
 decide (a.kind=.function)&&a.names.all (fun y=>decide (y.2≠.cell))&&a.names.all (fun y=>decide (y.2≠.local)||decide (a.names.lookup y.1=some .local)) &&
 a.names.all (λy=>decide (y.2≠.free)||decide (fs.names.lookup y.1=some .cell))&&decide (N.length=k+cap.length) &&
 (cap.zip<|N.drop k).all (λp=>decide (b[p.1]?=some p.2)&&decide (a.names.lookup p.2=some .free))
structure mO(XN:fy Z6)(fs sc:Scope)(N:fy Z6)(k:Z5)(cap:fy Z5):Z3 where
 kind:sc.kind=.function
 FG:∀ y∈sc.names,y.2≠.cell
 locs:∀ y∈sc.names,y.2=.local->sc.names.lookup y.1=some .local
 frees:∀ y∈sc.names,y.2=.free->fs.names.lookup y.1=some .cell
 len:N.length=k+cap.length
 caps:∀ p∈cap.zip (N.drop k),XN[p.1]?=some p.2/\sc.names.lookup p.2=some .free
def mO.of{k:Z5}(h:wU XN fs sc N k cap=Z1):mO XN fs sc N k cap:=by unfold wU at h;simp only[Bool.and_eq_true,List.all_eq_true,decide_eq_true_eq,Bool.or_eq_true] at h;let⟨⟨⟨⟨⟨h1,h2⟩,h3⟩,h4⟩,h5⟩,h6⟩:=h;exact{h1,h2,λy a e=>(h3 y a).resolve_left λz=>z e,λy a e=>(h4 y a).resolve_left λz=>z e,h5,h6}
section
variable{X:Cx}{X4:fy (jl×Obj)}{σ:St}{H:Hp}{s:q8}{scope:Scope}{N:fy Z6}{k:Z5}{cap:fy Z5}{fp:fy jl}
def Cx.yo{x:Z6}{C:jl}{s₀:q8}{H₀:Hp}{ex:fy jl}(a:X.env.scope.kind=.function) :
  (X.comp scope N C s₀ H₀ ex).env.kindOf x =(scope.names.lookup x).map λk=>if (k==NameKind.free&&X.env.kindOf x==some .cell) then NameKind.cell else k:=by
 show(relabel scope X.env).names.lookup x=_;unfold relabel;rw[oF];congr 1;funext k;rw[a];simp
def Inv.sD(I:Inv X X4 σ H s)(c:mO X.N X.env.scope scope N k cap):∀ y∈scope.names,y.2=.free->∃d,X.env.cells.lookup y.1=some d:=
 λy a e=>I.ok.has y.1<|.inl<|c.frees y a e
def Inv.block(I:Inv X X4 σ H s)(c:mO X.N X.env.scope scope N k cap)(L:∀ b∈fp,fq X X4 H b)(ho:∀ b∈fp,∃o,s.heap.get? b=some o){D C:jl}{s1:q8}(F:( ~~~s)≤D)(hC:( ~~~s)≤C)(a3:D≠C)(a1:s1.os=s.os)(hg:s1.gens=s.gens)(keep:∀b o,s.heap.get? b=some o->s1.heap.get? b=some o)(hl:s1.heap.get? D=some {.type "list",Z0,.seq #[],#[]})(hn:s1.heap.Ns C λ_=>Z0) :
  Inv (X.comp scope N C s H fp) [] (st0 k cap σ) (Z9 H D (.lst [])) s1:=by
 let a2:=I.sD c;let lt:∀ b∈fp,b<(~~~s):=λb r=>let ⟨o,e⟩:=ho b r;aiO e
 let O:∀x d,X.env.cells.lookup x=some d->d<(~~~s):=λx d e=>let ⟨v,o,q,_⟩:=I.cell x d e;aiO q
 let sub:=Au (cells:=X.env.cells) (names:=scope.names) (acc:=[]) a2 (λx c h=>by simp at h);let fresh:∀a,~~~s≤a->H a=Z0:=λa h=>I.hok.fresh h
 let t:∀x,((X.comp scope N C s H fp).env.kindOf x=some .cell∨(X.comp scope N C s H fp).env.kindOf x=some .free)->(x,NameKind.free)∈scope.names:=λx h=>by
  rw[Cx.yo I.ok.kind] at h;cases e:scope.names.lookup x with
  |none=>rw[e] at h;simp at h
  |some kd=>
   let m:=mem_of_lookup e;rw[e] at h;cases kd with
   |free=>exact m
   |cell=>exact absurd J<|c.FG _ m
   |«local»=>simp at h
   |globalExplicit=>simp at h
   |globalImplicit=>simp at h
 let ok:(X.comp scope N C s H fp).Ok:=
  {mod:=I.ok.mod
   kind:=c.kind
   glob:=I.ok.glob
   blt:=I.ok.blt
   above:=hC
   inj:=λx y d U hy=>I.ok.inj x y d (sub x d U) (sub y d hy)
   has:=λx h=>uU (.inl<|t x h)
   cab:=λx d h=>by cases h
   hd:=I.ok.hd
   frames:=I.ok.frames
   stk:=.inl J
   exf:=λb r=>{λz=>pP (lt b r) hC z,λx d U=>(L b r).2.2.2.2.1 x d<|sub x d U}
   bs:=I.bs
   bsz:=ai8 I.ok.bsz I.sz
   uH:=λb o e r=>by
    rcases(L b r).2.2.2.1 with h|h
    .exact I.ok.uH b o e h
    .exact absurd (aiO (I.ok.bs b o e).1) (Nat.not_lt.mpr h)
   ue:=λb r S=>by
    rcases aiV.mp (I.AQ b S) with h|h
    .exact(L b r).2.1 h
    .exact(L b r).2.2.1 h
   jw:=I.stack
   frf:=I.xZ}
 let nD:H D=Z0:=fresh D F;refine
  {ok:=ok
   os:=a1
   bare:=by rw[hg];exact I.bare
   base:=Un.laid keep F nD
   loc:={_,hn,?_}
   cell:=λx d h=>let ⟨v,q⟩:=I.cell x d<|sub x d h;{v,q.keeps keep}
   free:=by show Z9 H D _ C=Z0;rw[ak<|ajH a3];exact fresh C hC
   ig:=λx d h=>by let h':=sub x d h;rw[ak<|pP (O x d h') F];exact I.ig x d h'
   pin:=λp hp=>by cases hp
   hok:=I.hok.laid keep F {ajb _,[],(0),.nil,hl}
   len:=by show(st0 k cap σ).length=N.length;unfold st0;rw[ajj,ajV,aiE,c.len]}
 intro i x v hi l _;let hi:N[i]?=some x:=hi;unfold st0 at l;by_cases B:i<k
 .rw[aiM (by rwa[ajV]),List.getElem?_replicate,aiN B] at l;cases l
 .rw[aiP (by rw[ajV];omega),ajV,aiR] at l;cases ej:cap[i-k]? with
  |none=>rw[ej] at l;cases l
  |some j=>
   rw[ej] at l;let l:(σ[j]?).getD Z0=some v:=aiY l;let Y:σ[j]?=some (some v):=by
    cases e:σ[j]? with
    |none=>rw[e] at l;cases l
    |some z=>rw[e] at l;exact congrArg some l
   let S:(j,x)∈cap.zip (N.drop k):=by refine ajs.mpr {i-k,?_};rw[amf];exists ej;rwa[ak7,show k +(i-k)=i by omega]
   let⟨hX,n⟩:=c.caps _ S;let mf:=mem_of_lookup n;let f:=c.frees _ mf rfl;let⟨m,_,q⟩:=I.loc;let⟨u,ru,lk⟩:=q j x v hX Y<|.inr<|.inl f;refine{u,ru,.inr {.inl ?_,?_}}
   .rw[Cx.yo I.ok.kind,n];let:(X.env.kindOf x==some NameKind.cell)=Z1:=by show(X.env.scope.names.lookup x==some NameKind.cell)=Z1;rw[f];rfl
    simp[this]
   .rcases lk with⟨g,_⟩|⟨_,d,hd,a0⟩
    .let g:X.env.scope.names.lookup x=some .local:=g;rw[f] at g;cases g
    .let⟨d',A⟩:=uU (cells:=X.env.cells) (acc:=[]) (.inl mf:(x,NameKind.free)∈scope.names∨_);let:=sub x d' A;rw[hd] at this;cases this;exact{d,A,a0.keeps keep}
def Inv.Qw{H':Hp}{σ':St}{s1:q8}{C:jl}{ps:fy (jl×Obj)}(I:Inv X X4 σ H s)(c:∀ b∈fp,fq X X4 H b)(b4:Inv (X.comp scope N C s H fp) ps σ' H' s1):Inv X X4 σ H' s1:=
 I.Eg (ch:=fp) b4.os b4.base b4.hok b4.bare λb a=>{(c b a).2.2.2.1,(c b a).2.1,(c b a).2.2.2.2.1,(c b a).2.2.2.2.2}
end
def OM(k:Z5)(cap:fy Z5)(wi:TI)(g:TG)(tt:TT)(te:TE):TE:=λσ H Q=>wi σ H λb4 H1=>∀D,H1 D=Z0->∃W:Z5->Z5->St->Hp->fy V->Z3,
 (∃m,W 0 m (st0 k cap σ) (Z9 H1 D<|.lst []) [])/\∀i m σ' H' ys,W i m σ' H' ys->(b4.stop i H'/\Q (.ref D) H')∨
  (b4.go i H'/\∃N:St->Hp->fy V->Z3,(∀σ' H' c,N σ' H' c->∃h,h<m/\W (i+1) h σ' H' c)/\∀x H2,b4.yld i H' x H2->g x σ' H2 λa j=>tt a j λb f=>if b=Z1 then
   te a f λy e=>e D=some (.lst ys)/\ys.length<Z7/\N a (Z9 e D<|.lst<|ys++[y]) (ys++[y])
   else N a f ys)
def ahN:TT:=λ_ H Q=>Q Z1 H
def PTs(X:Cx)(ifs:fy Expr)(t:TT):Z3:=
 ∀X4 s σ H Q,Inv X X4 σ H s->t σ H Q →
  wpAny (model X.prog X.w) X.A (forIn ifs Z1 λc r=>if r=Z1 then do let ok ←isTrue c X.env (eval c X.env);pure (ForInStep.yield ok) else pure<|ForInStep.yield r) (TP X X4 σ Q) X.xe s
def cj:PTs X [] ahN:=λ_ _ _ H _ I h=>wpAny_tests_nil ⟨H,I,h⟩
def Qo(h:PT X c t):PTs X [c] t:=λX4 s σ H Q I a=>wpAny_tests_one<|h X4 s σ H Q I a
section
variable{prog:t6}{w:t7}{A:Around}{R:Result->q8->Z3}{s:q8}
def qF(I:Z5->q8->Z3)(p:∀n s,I n s->wpAny (model prog w) A (pyNext it) (λr a=>match r with
   |none=>R (.ok .next) a
   |some v=>wpAny (model prog w) A (letOwnedTupleGo target it v) (λ_ s₀=>wpAny (model prog w) A (assign target env v) (λ_ g=>
     wpAny (model prog w) A (forIn ifs Z1 λc r=>if r=Z1 then do let ok ←isTrue c env (eval c env);pure (ForInStep.yield ok) else pure (ForInStep.yield r)) (λok b=>
      if ok=Z1 then wpAny (model prog w) A (eval elt env) (λx i=>wpAny (model prog w) A (call (.builtin "list.append") [acc,x]) (λ_ j=>∃m,m<n/\I m j) (notedBy (model prog w) A env λe s'=>R (.error e) s') i) (notedBy (model prog w) A env λe s'=>R (.error e) s') b
      else ∃m,m<n/\I m b) (notedBy (model prog w) A env λe s'=>R (.error e) s') g) (notedBy (model prog w) A env λe s'=>R (.error e) s') s₀) (notedBy (model prog w) A env λe s'=>R (.error e) s') a) (notedBy (model prog w) A env λe s'=>R (.error e) s') s)(n:Z5)(h:I n s) :
  codeAny (model prog w) A (.compLoop (.ListComp elt [{target,iter,ifs,(0)}] scope pos) 0 it acc env) R s:=by
 refine codeAny_loop J I (λn s u=>?_) n h;show wpAny _ A ((compTurn (.ListComp elt [{target,iter,ifs,(0)}] scope pos) 0 it acc env).onRaise λx=>do noteFrame x env;theTreesLotGoes x) _ _ s;refine wpAny_noted ?_;rw[compTurn_list];refine aiF<|wpAny_standAt<|aiF (ajy (p n s u) (λr a l=>?_) λ_ _ h'=>h');cases r with
 |none=>exact aiJ l
 |some v=>
  refine aiF (ajy l (λ_ s₀ h₀=>?_) λ_ _ h'=>h');refine aiF (ajy h₀ (λ_ g t=>aiF (ajy t (λok b f=>?_) λ_ _ h'=>h')) λ_ _ h'=>h');cases ok with
  |false=>exact aiJ ⟨J,f⟩
  |true=>exact aiF<|aiF (ajy f (λx i o=>aiF (ajy o (λ_ j q=>aiJ<|aiJ ⟨J,q⟩) λ_ _ h'=>h')) λ_ _ h'=>h')
end
section
variable{X:Cx}{scope:Scope}{N:fy Z6}{k:Z5}{cap:fy Z5}{tg iter elt:Expr}{ifs:fy Expr}{wi:TI}{g:TG}{tt:TT}{te:TE}{pos:Pos}
def yM{E:mu->q8->Z3}{use:nt (mu->Sem Unit)}{QQ:mu->q8->Z3}{X4:fy (jl×Obj)}{s:q8}{σ:St}{H:Hp}{it:jl}{fp:fy jl}{tn:Z5->Heap->Z3}{b4:It}{Q:VK}(hc:X.calm=Z1)(c:mO X.N X.env.scope scope N k cap)(hg:∀C s₀ H₀ ex,PG (X.comp scope N C s₀ H₀ ex).nox tg g)(ht:∀C s₀ H₀ ex,PTs (X.comp scope N C s₀ H₀ ex).nox ifs tt)(he:∀C s₀ H₀ ex,PE (X.comp scope N C s₀ H₀ ex).nox elt te)(I:Inv X X4 σ H s)(T:Turn X.prog X.w X.K tg b4 fp it tn)(st:tn 0 s.heap)(hf:∀ b∈fp,fq X X4 H b)(h:∀D,H D=Z0->∃W:Z5->Z5->St->Hp->fy V->Z3,(∃m,W 0 m (st0 k cap σ) (Z9 H D (.lst [])) [])/\∀i m σ' H' ys,W i m σ' H' ys->(b4.stop i H'/\Q (.ref D) H')∨
   (b4.go i H'/\∃N:St->Hp->fy V->Z3,(∀σ' H' a3,N σ' H' a3->∃m',m'<m/\W (i+1) m' σ' H' a3)/\∀x H2,b4.yld i H' x H2->g x σ' H2 λF H3=>tt F H3 λb H4=>if b=Z1 then
    te F H4 λy H5=>H5 D=some (.lst ys)/\ys.length<Z7/\N F (Z9 H5 D (.lst (ys++[y]))) (ys++[y])
    else N F H4 ys))(hQ:∀D C s1 H',Inv X X4 σ H' s1->Q (.ref D) H'->(∃m,s1.heap.Ns C m)->H' C=Z0->X.s₀.heap.objs.size≤C->C≠X.env.locals->(∀x c,X.env.cells.lookup x=some c->c≠C)->(∀ p∈X.pn++X4,p.1≠C) →
   compPost (model X.prog X.w) X.A E use QQ (.ref D) C (.ok .next) s1) :
  wpAny (model X.prog X.w) X.A (newList []) (λacc s₃=>wpAny (model X.prog X.w) X.A (newFunctionEnv scope X.env.globals (clos X.env.cells scope.names []) [] X.env.qual Z0 .none (some X.env)) (λL a4=>codeAny (model X.prog X.w) X.A (.compStart (.ListComp elt [{tg,iter,ifs,(0)}] scope pos) 0 (.ref it) acc {L with scope:=relabel scope X.env}) (compPost (model X.prog X.w) X.A E use QQ acc L.locals) a4) E s₃) E s:=by
 refine ajB<|wpAny_newFunctionEnv c.FG (by grind) (λl f a=>?_) c.kind;dsimp only at f a ⊢;generalize hH2:s.heap.push {.type "list",Z0,.seq ([]:fy mu).toArray,#[]}=H2 at f a ⊢;let hC:H2.objs.size= ~~~s+1:=by rw[←hH2,aj0]
 let a5:( ~~~s)≠H2.objs.size:=by grind
 let t:( ~~~s)≤H2.objs.size:=by grind
 let keep:∀b o,s.heap.get? b=some o->l.get? b=some o:=λb o e=>by exact a.extBut b o (pP (aiO e) t)<|aiI _<|hH2 ▸ aiI _ e
 let hl:l.get? (~~~s)=some {.type "list",Z0,.seq #[],#[]}:=a.extBut _ _ a5<|aiI _<|hH2 ▸ aiW _ J;let nD:H (~~~s)=Z0:=I.hok.fresh<|aiK _;let⟨W,⟨m0,w0⟩,a0⟩:=h _ nD;let ho:∀ b∈fp,∃o,s.heap.get? b=some o:=λb j=>let ⟨o,e,_⟩:=T.obj _ _ st b j;⟨o,e⟩
 let a7:X.s₀.heap.objs.size≤H2.objs.size:=ai8 I.sz t;let ac:H2.objs.size≠X.env.locals:=(pP I.lt t).symm;let ag:∀x d,X.env.cells.lookup x=some d->d≠H2.objs.size:=λx d e=>by let⟨v,o,q,_⟩:=I.cell x d e;exact pP (aiO q) t
 let a9:∀ p∈X.pn++X4,p.1≠H2.objs.size:=λp hp=>by exact pP (aiO (I.pin p hp).1) t
 let O:∀s₃:q8,s₃={s with heap:=l,toks:=s.toks +([]:fy (Z6×mu)).length} →
   codeAny (model X.prog X.w) X.A (.compLoop (.ListComp elt [{tg,iter,ifs,(0)}] scope pos) 0 (.ref it) (.ref (~~~s))<|compEnvC scope (clos X.env.cells scope.names []) H2.objs.size X.env)
    (compPost (model X.prog X.w) X.A E use QQ (.ref (~~~s)) H2.objs.size) s₃:=by
  rintro s₃ rfl;let I0:Inv (X.comp scope N H2.objs.size s H fp) [] (st0 k cap σ) (Z9 H (~~~s) (.lst [])) {s with heap:=l,toks:=s.toks +([]:fy (Z6×mu)).length}:=
   I.block c hf ho (aiK _) t a5 J J keep hl (⇑f)
  let B:∀{H':Hp}{ps:fy (jl×Obj)},(∀ b∈fp,H' b=Z0)->ps=[]->∀ b∈fp,fq (X.comp scope N H2.objs.size s H fp).nox ps H' b:=λhn hp b j=>by subst hp;exact{hn b j,(I0.ok.exf b j).1,I0.ok.ue b j,.inl j,(I0.ok.exf b j).2,λp hp=>by cases hp}
  let ab:∀ b∈fp,Z9 H (~~~s) (.lst []) b=Z0:=λb j=>by let⟨o,e⟩:=ho b j;rw[ak<|pP (aiO e)<|aiK _];exact(hf b j).1
  refine qF (λn s'=>∃i σ' H' ys,Inv (X.comp scope N H2.objs.size s H fp).nox [] σ' H' s'/\tn i s'.heap/\(∀ b∈fp,H' b=Z0)/\W i n σ' H' ys) ?_ m0
   {(0),_,_,[],I0.pU _,T.keep _ _ _ st λb _ o e=>keep b o e,ab,w0}
  rintro n s' ⟨i,σ',H',ys,I',a1,a6,w'⟩;rcases a0 i n σ' H' ys w' with⟨a2,q⟩|⟨go,NN,a8,step⟩
  .refine ajy (T.done (X.comp scope N H2.objs.size s H fp).nox J J J hc i [] s' σ' H' (λ_ _=>False) I' (B a6 J) a1 a2) (λ r s4 ⟨hr,I4⟩=>?_) (λ_ _ x=>x.elim);subst hr;exact hQ _ _ s4 H' (I.Qw hf I4.zS) q (let ⟨m,hn,_⟩:=I4.loc;⟨m,hn⟩) I4.free a7 ac ag a9
  .refine ajy (T.item (X.comp scope N H2.objs.size s H fp).nox J J J hc i [] s' σ' H' (λ_ _=>False) I' (B a6 J) a1 go) (λ r s4 ⟨u,hr,h4⟩=>?_) (λ_ _ x=>x.elim);subst hr;refine ajy h4 (λ _ s5 ⟨x,H5,I5,r5,y5,st5,fr5⟩=>?_) λ_ _ x=>x.elim;let ae:=I5.pinned (B fr5 J)<|T.obj _ _ st5;refine ajy (hg _ _ _ _ _ s5 σ' H5 x u _ ae r5<|step x H5 y5) (λ _ s6 ⟨z,H6,I6,q6⟩=>?_) λ_ _ x=>x.elim;refine ajy (ht _ _ _ _ _ s6 z H6 _ I6 q6) (λ ok s7 ⟨H7,I7,q7⟩=>?_) λ_ _ x=>x.elim;let again:∀{U:Hp}{Y:q8}{S:fy V},Inv (X.comp scope N H2.objs.size s H fp).nox ([]++rB fp s5.heap) z U Y->NN z U S →
     ∃m,m<n/\∃i σ' H' ys,Inv (X.comp scope N H2.objs.size s H fp).nox [] σ' H' Y/\tn i Y.heap/\(∀ b∈fp,H' b=Z0)/\W i m σ' H' ys:=λ{U Y S}I8 n8=>by
    let⟨m',hm,w8⟩:=a8 _ _ _ n8;refine{m',hm,i+1,z,U,S,I8.qu,T.keep _ _ _ st5 λb j o e=>(I8.pin (b,o)<|ajh _<|ajh _<|lq j e).1,λb j=>?_,w8};let⟨o,e,d⟩:=T.obj _ _ st5 b j;exact(I8.pin (b,o)<|ajh _<|ajh _<|lq j e).2.1
   cases ok with
   |false=>exact again I7 q7
   |true=>refine ajy (he _ _ _ _ _ s7 z H7 _ I7 q7) (λ y Y ⟨v,U,I8,rv,hD,hlen,w8⟩=>?_) λ_ _ x=>x.elim;refine ajy (cC (X:=(X.comp scope N H2.objs.size s H fp).nox) _ Y z U (.ref (~~~s)) [v] (.ref (~~~s)) [y] (λ_ H9=>H9=Z9 U (~~~s) (.lst<|ys++[v])) I8 J (.cons rv .nil) {_,ys,v,J,J,hD,hlen,J}) (λ _ s9 ⟨_,H9,I9,_,e9⟩=>?_) λ_ _ x=>x.elim;subst e9;exact again I9 w8
 exact codeAny_compStart_list (O _ J)<|T.self _ 0 _ _ _ (T.keep _ _ _ st λb _ o e=>keep b o e)<|O _ J
def dg(r:X.calm=Z1)(j:wU X.N X.env.scope scope N k cap=Z1)(hi:PI X tg iter wi)(B:∀C s₀ H₀ ex,PG (X.comp scope N C s₀ H₀ ex).nox tg g)(A:∀C s₀ H₀ ex,PTs (X.comp scope N C s₀ H₀ ex).nox ifs tt)(u:∀C s₀ H₀ ex,PE (X.comp scope N C s₀ H₀ ex).nox elt te)(hs:∀x,foldedSetIterable iter X.env x=pure x:=by intro _;rfl):PE X (.ListComp elt [{tg,iter,ifs,(0)}] scope pos) (OM k cap wi g tt te):=by
 intro X4 s σ H Q I h;let c:=mO.of j;rw[eval_ListComp];refine aml (use:=Z0) (cl:=clos X.env.cells scope.names []) J hs (qz<|I.sD c) c.kind c.locs (thn (hi X4 s σ H _ I h) λL n f=>thn f λy l a=>?_);let⟨it,fp,F,b4,H2,e,z,T,st,v,q⟩:=a;subst e;exact yM (use:=Z0) r c B A u z T st v q λ D C s1 H' t q1 ⟨m,hn⟩ hCn hCs hCl hCc hCp=>
  {m,hn,λh' i=>{.ref D,H',t.turned (t':=s1.toks) (λb o p e=>i.extBut b o p e) hCn hCl (.inr hCs) hCc hCp,J,q1}}
def gY{i:Z5}{x:Z6}{pos' f:Pos}(hN:X.N.Nodup)(u:X.N[i]?=some x)(U:Loc X.env.scope x)(hc:X.calm=Z1)(p:wU X.N X.env.scope scope N k cap=Z1)(hi:PI X tg iter wi)(O:∀C s₀ H₀ ex,PG (X.comp scope N C s₀ H₀ ex).nox tg g)(ht:∀C s₀ H₀ ex,PTs (X.comp scope N C s₀ H₀ ex).nox ifs tt)(Y:∀C s₀ H₀ ex,PE (X.comp scope N C s₀ H₀ ex).nox elt te)(n:swapsWith (.ListComp elt [{tg,iter,ifs,(0)}] scope pos) (some (.Name x pos')) f.line X.env=pure Z1:=by rfl)(hs:∀x,foldedSetIterable iter X.env x=pure x:=by intro _; rfl)(t:X.fn x=Z1∨X.env.scope.names.lookup x=some .local:=by first|exact .inl rfl|exact .inr rfl|assumption) :
  PS X (.Assign [.Name x pos'] (.ListComp elt [{tg,iter,ifs,(0)}] scope pos) f) (Ec (OM k cap wi g tt te) (nk i)):=by
 intro X4 s σ H D I h;let c:=mO.of p;rw[exec_Assign_Name_used _ _ _ _ n];refine aiF<|wpAny_standAt<|aiF ?_;show wpAny _ X.A (do let _ ←comprehension (.ListComp elt [{tg,iter,ifs,(0)}] scope pos) scope X.env _ (newList []) Z2 (eval iter X.env) (some (assign (.Name x pos') X.env))) _ _ s;refine aiF (ajy (aml (use:=some<|assign (.Name x pos') X.env) (Q:=λ_ s'=>SP X X4 D .next s') (cl:=clos X.env.cells scope.names []) J hs (qz<|I.sD c) c.kind c.locs
  (thn (hi X4 s σ H _ I h) λxv y l=>thn l λa0 B j=>?_)) (λ_ s' hq=>aiJ<|aiJ hq) λ_ _ e=>e)
 let⟨it,fp,tn,b4,H2,e,I2,T,st,hf,q⟩:=j;subst e;refine yM (use:=some<|assign (.Name x pos') X.env) (Q:=λv H1=>nk i v σ H1 D.nx) hc c O ht Y I2 T st hf q λ L C s1 H' S q1 ⟨m,hn⟩ hCn hCs hCl hCc hCp=>?_
 show wpAny _ X.A (assign (.Name x pos') X.env<|.ref L) _ _ s1;refine wpAny_assign_Name<|yJ (v:=.ref L) S hN u U J (λ s2 I3 ⟨a,sb,ha⟩=>{m,?_,λh' r=>?_}) t
 .refine hn.sameBut sb ?_;rcases ha with z|z
  .rw[z];exact hCl
  .grind
 .exact{_,H',I3.turned (t':=s2.toks) (λb o F e=>r.extBut b o F e) hCn hCl (.inr hCs) hCc hCp,q1}
end
def cR{K:Frag}{a:jl}(D:jl){xs:fy V}{g:TG}{tt:TT}{te:TE}{σ:St}{H:Hp}{R:Hp->Z3}(f:Z5->St->Hp->fy V->Z3)(h0:f 0 σ H [])(s:∀i σ H ys,i≤xs.length->f i σ H ys->X0 K H a xs)(hs:∀i x σ H ys,xs[i]?=some x->f i σ H ys->g x σ H λc o=>tt c o λb n=>if b=Z1 then
   te c n λy l=>l D=some (.lst ys)/\ys.length<Z7/\f (i+1) c (Z9 l D (.lst (ys++[y]))) (ys++[y]) else f (i+1) c n ys)(u:∀σ H ys,f xs.length σ H ys->R H) :
  ∃W:Z5->Z5->St->Hp->fy V->Z3,(∃m,W 0 m σ H [])/\∀i m σ' H' ys,W i m σ' H' ys->((Itl K a).stop i H'/\R H')∨
   ((Itl K a).go i H'/\∃N:St->Hp->fy V->Z3,(∀σ' H' h,N σ' H' h->∃r,r<m/\W (i+1) r σ' H' h)/\∀x H2,(Itl K a).yld i H' x H2->g x σ' H2 λc o=>tt c o λb n=>if b=Z1 then
    te c n λy l=>l D=some (.lst ys)/\ys.length<Z7/\N c (Z9 l D (.lst (ys++[y]))) (ys++[y])
    else N c n ys):=by
 exists λi m σ H ys=>m=xs.length-i/\i≤xs.length/\f i σ H ys,{xs.length,o8,ajb _,h0};rintro i m σ H ys ⟨rfl,hi,p⟩;let q:=s i σ H ys hi p;by_cases j:i<xs.length
 .refine .inr {{xs,xs[i],q,by simp[j]},f (i+1),λσ' H' h t=>{xs.length -(i+1),o6,J,j,t},λx H' y=>?_};let⟨e,y⟩:=y;subst e;exact hs i x σ _ ys (y xs q) p
 .let e:i=xs.length:=by omega
  subst e;exact .inl {{xs,q,aiK _},u σ H ys p}
def lu{lo:Z4}{n:Z5}(D:jl){g:TG}{tt:TT}{te:TE}{σ:St}{H:Hp}{R:Hp->Z3}(f:Z5->St->Hp->fy V->Z3)(h0:f 0 σ H [])(hs:∀i σ H ys,i<n->f i σ H ys->g (.int (lo+i)) σ H λa o=>tt a o λb l=>if b=Z1 then
   te a l λy j=>j D=some (.lst ys)/\ys.length<Z7/\f (i+1) a (Z9 j D (.lst (ys++[y]))) (ys++[y]) else f (i+1) a l ys)(s:∀σ H ys,f n σ H ys->R H) :
  ∃W:Z5->Z5->St->Hp->fy V->Z3,(∃m,W 0 m σ H [])/\∀i m σ' H' ys,W i m σ' H' ys->((Itr lo n).stop i H'/\R H')∨
   ((Itr lo n).go i H'/\∃N:St->Hp->fy V->Z3,(∀σ' H' h,N σ' H' h->∃q,q<m/\W (i+1) q σ' H' h)/\∀x H2,(Itr lo n).yld i H' x H2->g x σ' H2 λa o=>tt a o λb l=>if b=Z1 then
    te a l λy j=>j D=some (.lst ys)/\ys.length<Z7/\N a (Z9 j D (.lst (ys++[y]))) (ys++[y])
    else N a l ys):=by
 exists λi m σ H ys=>m=n-i/\i≤n/\f i σ H ys,{n,o8,ajb _,h0};rintro i m σ H ys ⟨rfl,hi,p⟩;by_cases c:i<n
 .refine .inr {c,f (i+1),λσ' H' h r=>{n -(i+1),o6,J,c,r},λx H' y=>?_};let⟨e,y⟩:=y;subst e y;exact hs i σ _ ys c p
 .let e:i=n:=by omega
  subst e;exact .inl {aiK _,s σ H ys p}
section
variable{X:Cx}{K:Frag}
def sM{es:fy Expr}{k:Z5}{t:TGs}{n:Z5}{pos:Pos}(c:X.K=K)(b:X.calm=Z1)(h:PGs X es t)(hn:(assignEach es X.env).length=n:=by rfl)(a:(assignEach es X.env).findIdx? (·.1)=Z0:=by rfl) :
  PG X (.Tuple es k pos) (Iz K n t):=by subst c;exact mj b h hn a
def QU(a:X.K=K):IxR X (IJ K):=by subst a;exact bX
end
def aj.new(h:H p=Z0):aj H (Z9 H p o):=λb u e=>by rwa[ak<|ao e h]
open PySem PySem.Spec PyProof.Rows PySem.SeqAt
def zy(h1:PI X tg it w1)(h2:PI X tg it w2):PI X tg it (λσ H R=>w1 σ H R∨w2 σ H R):=λX4 s σ H R I h=>h.elim (h1 X4 s σ H R I)<|h2 X4 s σ H R I
def lO{a b n:Z5}(h1:a<n)(h2:n≤b):a≠b:=by omega
def Inv.wA{X:Cx}{X4:fy (jl×Obj)}{σ:St}{H:Hp}{s:q8}{h':Heap}{t':Z5}{ch:fy jl}(I:Inv X X4 σ H s)(k:∀b o,b∉ch->s.heap.get? b=some o->h'.get? b=some o)(f:∀ b∈ch,fq X X4 H b) :
  Inv X X4 σ H {s with heap:=h',toks:=t'}:=by
 let h:∀b u,H b=some u->b∉ch:=λb u e z=>by rw[(f b z).1] at e;cases e
 refine I.step (g':=s.gens) (d':=s.drawn) (ch:=ch) (λb g=>{(f b g).2.2.2.1,(f b g).2.1,(f b g).2.2.2.2.1,(f b g).2.2.2.2.2}) (λb o _ _ a e _=>k b o a e) (λb o _ _ a e _=>{o.slots,k b o a e}) (λ_ _ _ _ n=>n)
  (λb o a e=>{o,k b o a e}) (λ_ _ e=>e) (λ_ _ _ e=>e) (λb ps e=>{#[],by rw[e];simp}) (λm i=>?_) (λb u e=>?_) I.bare
 .let⟨o,es,ep,j,r⟩:=i;exact{o,es,ep,k _ o (λz=>(f _ z).2.1 J) j,r}
 .refine(I.hok b u e).stay (λc v a q=>k c v ?_ q) (λ_ q=>q) λ_ _ q=>q
  rcases a with z|z
  .grind
  .exact h c _ z
def Inv.vY{X:Cx}{X4:fy (jl×Obj)}{σ:St}{H:Hp}{s:q8}{h':Heap}{t':Z5}{ch:fy jl}{T:jl}{u:HO}(I:Inv X X4 σ H s)(k:∀b o,b∉ch->s.heap.get? b=some o->h'.get? b=some o)(g:∀ b∈ch,fq X X4 H b)(i:( ~~~s)≤T)(new:bK X.prog X.w (Z9 H T u) h' T u):Inv X X4 σ (Z9 H T u) {s with heap:=h',toks:=t'}:=by
 let hn:H T=Z0:=I.hok.fresh i;let h:∀b u,H b=some u->b∉ch:=λb u e z=>by rw[(g b z).1] at e;cases e
 let p:∀b o,s.heap.get? b=some o->b≠T:=λb o e=>lO (aiO e) i
 refine I.step (g':=s.gens) (d':=s.drawn) (ch:=ch) (λb a=>{(g b a).2.2.2.1,(g b a).2.1,(g b a).2.2.2.2.1,(g b a).2.2.2.2.2}) (λb o _ _ f e _=>k b o f e) (λb o _ _ f e _=>{o.slots,k b o f e}) (λb o _ e n=>by rwa[ak<|p b o e])
  (λb o f e=>{o,k b o f e}) (λb xs e=>by rwa[ak<|ao e hn]) (λb o xs e=>by rwa[ak<|ao e hn]) (λb ps e=>{#[],by rw[ak<|ao e hn,e];simp}) (λm j=>?_) (λb v e=>?_) I.bare
 .let⟨o,es,ep,l,r⟩:=j;exact{o,es,ep,k _ o (λz=>(g _ z).2.1 J) l,r}
 .by_cases a:b=T
  .subst a;rw[af] at e;cases e;exact new
  .rw[ak a] at e;refine(I.hok b v e).stay (λc v f q=>k c v ?_ q) (λc q=>by rwa[ak<|ao q hn]) λc xs q=>by rwa[ak<|ao q hn]
   rcases f with z|z
   .grind
   .exact h c _ z
def zx(raw ch:Bool)(e C:jl)(od:nt jl)(h:Heap):Z3:=∃vs a,h.get? e=some {.ref C,od,.fields vs,a}/\vs.size=6/\(raw=Z1->vs[1]?=some .none)/\(ch=Z2->vs[2]?=some .none)
abbrev exO(raw ch:Bool)(e C:jl)(od:nt jl):HO:=.ext<|zx raw ch e C od
def Ek(H:Hp)(e C:jl)(od:nt jl):Z3:=∃ch,H e=some (exO Z2 ch e C od)
section
variable{P:t6}{w:t7}{H:Hp}{h:Heap}{e C dx:jl}{od:nt jl}{raw ch:Bool}{fs:fy (Z6×V)}
def FL(x:zx raw ch e C od h):bK P w H h e (exO raw ch e C od):=by
 exists x,?_
 .let⟨vs,a,q,_⟩:=x;exact{_,q}
 .rintro h1 h2 ⟨vs,a,q,r⟩ k;exact{vs,a,k _ q,r}
def acs(x:HOk P w H h)(q:H e=some (exO raw ch e C od)):zx raw ch e C od h:=(x e _ q).1
end
inductive Fly(h:Heap)(e T:jl)(fl:mu):Z3
 |m oe vs oT ts(_:h.get? e=some oe)(_:oe.data=.fields vs)(_:vs[1]?=some (.ref T))(_:h.get? T=some oT)(_:oT.data=.fields ts)(_:ts[3]?=some fl)(_:T≠e)
structure zz(fs ch:fy jl)(e T:jl)(fl:mu)(h h':Heap):Z3 where
 keep:∀b o,b∉fs->b∉ch->b≠e->h.get? b=some o->h'.get? b=some o
 slot:∀b o,b∈fs->b∉ch->b≠e->h.get? b=some o->∃sl,h'.get? b=some {o with slots:=sl}
 new:h.objs.size≤T
 exc:∀oe vs,h.get? e=some oe->oe.data=.fields vs->h'.get? e=some (oe.mapFields (·.setIfInBounds 1 (.ref T)))
 fly:Fly h' e T fl
section
variable{M:Model}{A:Around}{E:mu->q8->Z3}{s:q8}{base:Heap}{env:Env}{outer:fy Env}{L e:jl}{oe:Obj}{vs:sA mu}{Q:Unit->q8->Z3}
def Hg(p:A.frames=some (env::outer))(y:s.heap.FunFrames base (env::outer))(S:env.frame=some L)(B:s.heap.get? e=some oe)(u:oe.data=.fields vs)(hsz:1<vs.size)(h:∀h' T,zz (frs (env::outer)) [] e T (rawInt L) s.heap h'->Q () {s with heap:=h'}) :
  wpAny M A (do let a ←frameOf env;let pl ←entryPlaceOf L b;let x ←EntryCells.newEntry head a .none (rawInt L) .none pl;setField (.ref e) 1 x) Q E s:=by
 let g:e∉frs (env::outer):=λF=>by let⟨_,o,C,r⟩:=y.mem F;rw[B] at C;cases C;exact r vs u
 refine aiF (wpAny_frameOf_fun p y S λh1 hs=>?_);refine aiF (wpAny_entryPlaceOf λpl v=>?_);unfold EntryCells.newEntry newFields;refine aiF<|ajB ?_<|v.sizeOk5 _ _ _ _ _;let f:h1.get? e=some oe:=(hs.2.1 e g).trans B;generalize hT:({.type "traceback",Z0,.fields ([head,.ref L,.none,rawInt L,.none] ++(if pl.isEmpty then List.replicate 6 Value.none else pl)).toArray,#[]}:Obj)=oT;let j:=aiI (h:=h1) oT f;refine akf j u hsz<|h _ h1.objs.size ?_;let i:h1.objs.size≠e:=akM<|aiO f;let l:=ajN u (·.setIfInBounds 1 (Value.ref h1.objs.size));let n:=aju (Obj.mapFields (·.setIfInBounds 1 (Value.ref h1.objs.size))) j<|akr l;let t:((h1.push oT).update e (Obj.mapFields (·.setIfInBounds 1 (Value.ref h1.objs.size)))).get? h1.objs.size=some oT:=
  (ajz _ _<|ajH i).trans (aiW h1 (by rw[←hT];rfl))
 let keep:∀b o,b≠e->h1.get? b=some o->((h1.push oT).update e (Obj.mapFields (·.setIfInBounds 1 (Value.ref h1.objs.size)))).get? b=some o:=λb o m q=>by rw[ajz _ _<|ajH m];exact aiI _ q
 exists λb o m _ c q=>keep b o c<|(hs.2.1 b m).trans q,λb o m _ c q=>?_,?_,λH O Y d'=>?_
 .let⟨U,z⟩:=hs.2.2 b o q;exact{U,keep b _ c z}
 .rw[hs.1];exact aiK _
 .grind
 .refine{_,_,oT,_,n,l,by simp[hsz],t,by rw[←hT],?_,i};simp
def GS{T:jl}(n:A.frames=some (env::outer))(y:s.heap.FunFrames base (env::outer))(v:env.frame=some L)(z:Fly s.heap e T .none)(h:∀h' l,zz (frs (env::outer)) [T] e l (rawInt L) s.heap h'->Q () {s with heap:=h'}):wpAny M A (noteFrame (.ref e) env) Q E s:=by
 let⟨oe,vs,B,ts,u,x,h1,r,c,h3,i⟩:=z;unfold noteFrame;simp only[v];refine aiF<|ajD u x h1 ?_;rw[aiN (show(Value.ref T != Value.none)=Z1 from by simp)];refine aiF<|ajD r c h3 ?_;rw[aiL (show ¬((Value.none==rawInt L)=Z1) from by simp[rawInt])];refine aiF<|akf r c (ajw.mp h3).1 ?_;let other:∀b,b≠T->(s.heap.update T (Obj.mapFields (·.setIfInBounds 3 Value.none))).get? b=s.heap.get? b:=λb a=>ajz _ _<|ajH a
 let j:∀b o,s.heap.get? b=some o->(∀vs,o.data≠.fields vs)->b≠T:=λb o a f q=>by rw[q,r] at a;cases a;exact f ts c
 let sz:(s.heap.update T (Obj.mapFields (·.setIfInBounds 3 Value.none))).objs.size=( ~~~s):=Heap.size_after_update _ _ _;refine Hg n (y.of_keeps λb o a f=>{o,(other b<|j b o a f).trans a,J}) v ((other e<|ajH i).trans u) x (ajw.mp h1).1 λh' l N=>h h' l ?_
 dsimp only at N;refine{λb o a m g q=>N.keep b o a o8 g<|(other b (⇑m)).trans q,λb o a m g q=>N.slot b o a o8 g<|(other b (⇑m)).trans q,?_,λp t q d=>N.exc p t ((other e<|ajH i).trans q) d,N.fly};rw[←sz];exact N.new
def BC{T:jl}{fl:mu}(m:Fly s.heap e T fl)(h:∀h',(∀b o,b≠T->s.heap.get? b=some o->h'.get? b=some o)->h'.objs.size= ~~~s->Fly h' e T .none->Q () {s with heap:=h'}):wpAny M A (setFlight (.ref e) Z0) Q E s:=by
 let⟨oe,vs,n,ts,j,l,h1,i,a,h3,c⟩:=m;let hsz:3<ts.size:=(ajw.mp h3).1;let other:∀b,b≠T->(s.heap.update T (Obj.mapFields (·.setIfInBounds 3 ((Z0:nt jl).elim Value.none λf=>rawInt f)))).get? b=s.heap.get? b:=λb g=>ajz _ _<|ajH g
 unfold setFlight;refine aiF<|ajD j l h1 ?_;rw[aiN (show(Value.ref T != Value.none)=Z1 from by simp)];refine akf i a hsz<|h _ (λb o g q=>(other b g).trans q) (Heap.size_after_update _ _ _) ?_;exact{oe,vs,_,_,(other e<|ajH c).trans j,l,h1,aju _ i<|akr<|ajN a _,ajN a _,by simp[hsz],c}
end
section
variable{X:Cx}{X4:fy (jl×Obj)}{σ:St}{H:Hp}{s:q8}{e C T:jl}{od:nt jl}{raw ch':Bool}{fl:mu}{h':Heap}{ch:fy jl}
def SN(q:H e=some o):Z9 H e o=H:=by grind [Z9]
def Inv.noted(I:Inv X X4 σ H s)(q:H e=some (exO raw ch' e C od))(N:zz (frs X.stack) ch e T fl s.heap h')(i:∀ b∈ch,fq X X4 H b) :
  Inv X X4 σ (Z9 H e (exO Z2 ch' e C od)) {s with heap:=h'}:=by
 let⟨vs,U,g,O,_,x⟩:=acs I.hok q;let l:∀b,H b=Z0->b≠e:=λb n z=>by rw[z,q] at n;cases n
 let tfs:∀b o,H b=some o->b∉frs X.stack:=λb o z p=>by rw[I.xZ b p] at z;cases z
 let r:∀b o,H b=some o->b∉ch:=λb o z p=>by rw[(i b p).1] at z;cases z
 let B:zx Z2 ch' e C od h':=by let:=N.exc _ vs g rfl;refine{vs.setIfInBounds 1<|.ref T,U,this,⇑O,nofun,(λz=>by simpa using x z)}
 refine I.Eg (s':={s with heap:=h'}) (ch:=ch) J {λb o a n h f=>N.keep b o h f (l b n) a,λb o a n h f=>N.slot b o h f (l b n) a,λb o a n f=>?_,λb o a f=>?_,λb xs a=>?_,λb o u a=>?_,λb ps a=>{#[],?_}} (λb o a=>?_) I.bare λb j=>{(i b j).2.2.2.1,(i b j).2.1,(i b j).2.2.2.2.1,(i b j).2.2.2.2.2}
 .rw[ak<|l b n];exact n
 .by_cases z:b=e
  .subst z;let⟨S,y,g',_⟩:=B;exact{_,g'}
  .by_cases h:b∈frs X.stack
   .let⟨y,g'⟩:=N.slot b o h f z a;exact{_,g'}
   .exact{o,N.keep b o h f z a}
 .rw[ak λz=>by rw[z,q] at a;cases a];exact a
 .rw[ak λz=>by rw[z,q] at a;cases a];exact a
 .rw[ak (λz=>by rw[z,q] at a;cases a),a];simp
 .by_cases z:b=e
  .subst z;rw[af] at a;cases a;exact FL B
  .rw[ak z] at a;refine(I.hok b o a).stay (λc v L g'=>?_) (λc g'=>?_) λc xs g'=>?_
   .let t:∃u,H c=some u:=by grind
    let⟨u,F⟩:=t;let A:c≠e:=by grind
    exact N.keep c v (tfs c u F) (r c u F) A g'
   .rw[ak λm=>by rw[m,q] at g';cases g'];exact g'
   .rw[ak λm=>by rw[m,q] at g';cases g'];exact g'
def Inv.acA(I:Inv X X4 σ H s)(q:Ek H e C od)(N:zz (frs X.stack) ch e T fl s.heap h')(a:∀ b∈ch,fq X X4 H b):Inv X X4 σ H {s with heap:=h'}:=by let⟨ch',q⟩:=q;let:=I.noted q N a;rwa[SN q] at this
def Inv.landed{T:jl}(I:Inv X X4 σ H s)(f:fq X X4 H T)(k:∀b o,b≠T->s.heap.get? b=some o->h'.get? b=some o):Inv X X4 σ H {s with heap:=h'}:=
 I.turned (it:=T) (t':=s.toks) k f.1 f.2.1 f.2.2.2.1 f.2.2.2.2.1 f.2.2.2.2.2
end
def CXx(P:t6)(w:t7):CXT:=λouter H s E v s'=>∃e C od T H',v=.ref e/\s'.os=s.os/\AllBare s'.gens/\Un (frs outer) [] H H' s.heap s'.heap/\HOk P w H' s'.heap∧
 Ek H' e C od/\(~~~s)≤T/\H' T=Z0/\Fly s'.heap e T .none/\E (.ref C) (some e) H'
abbrev XS:=St->XK
def dP(X:Cx)(E:XS):Z3:=∀X4 σ H s v s',Inv X X4 σ H s->CXx X.prog X.w X.stack H s (E σ) v s'->X.xe v s'
def az{X:Cx}:dP X (λ_=>E0):=λ_ _ _ _ _ _ _ z=>by let⟨_,_,_,_,_,_,_,_,_,_,_,_,_,_,h⟩:=z;exact h.elim
section
variable{P:t6}{w:t7}{K:Frag}{mg:Z6->nt mu}{base:Heap}{N:fy Z6}{qual:Z6}{scope:Scope}{f:jl}{cd:mu}{A:Around}{outer:fy Env}{s₀:q8}{H₀:Hp}{E:XK}
def Fun.okX{x qual:Z6}{st:Stmt}{f:jl}{fd:q9}{N ps:fy Z6}{k:Z5}{sp:Sp}(F:Fun K x qual st f fd)(S:aE N ps (ay st))(len:∀vs H Q E,sp vs H Q E->vs.length=ps.length)(b:∀a A outer s H vs Q E,cH k (A.deeper (envOfC qual (ay st) (~~~s) f a))->sp vs H Q E →
   ∃t,PSs (aX (CXx P w) P w K mg base N qual (ay st) f a A outer s H E) (dB st) t/\t {nx:=λ_ H'=>Q .non H',rt:=Q} (start N vs) H):aM P w K mg base (CXx P w) (k+1) f fd ps sp:=by
 let⟨n,od,kV,h,m,l,a,ct,g,rfl,j,c⟩:=F.ex;exact LN j c S len λA outer s H vs Q E i e=>b a A outer s H vs Q E i e
end
section
variable(P:t6)(w:t7)(K:Frag)(mg:Z6->nt mu)(base:Heap)
structure DefX(x:Z6)(k:Z5)(ps:fy Z6)(sp:Sp):Z3 where
 ex:∃(f:jl)(fd:q9),mg x=some (.ref f)/\aM P w K mg base (CXx P w) k f fd ps sp/\keepIn K (.ref f)=Z1/\Binds K fd ps []
structure vS(C:jl)(m:Z6)(k:Z5)(ps:fy Z6)(sp:Sp):Z3 where
 ex:∃(f:jl)(fd:q9),Meth K C m f/\aM P w K mg base (CXx P w) k f fd ps sp/\Binds K fd ps []
structure zv(x:Z6)(C:jl)(k:Z5)(ps:fy Z6)(sp:Sp):Z3 where
 ex:∃(f:jl)(fd:q9),mg x=some (.ref C)/\Mk K C f/\aM P w K mg base (CXx P w) k f fd ps sp/\Binds K fd ps []
end
def AM(sp:Sp)(E:XS)(t:TA):TE:=λσ H Q=>t σ H λvs H1=>sp vs H1 Q<|E σ
inductive A0(C:jl)(m:Z6)(sp:Sp)(E:XS)(t:TA)(σ:St)(Q:VK)(x:V)(H1:Hp):Z3
 |m a dx fs(_:x=.ref a)(_:H1 a=some (.ins C dx fs))(_:fs.lookup m=Z0)(_:t σ H1 λvs H2=>sp (x::vs) H2 Q (E σ))
def Gd(C:jl)(m:Z6)(sp:Sp)(E:XS)(ta:TE)(t:TA):TE:=λσ H Q=>ta σ H λx H1=>A0 C m sp E t σ Q x H1
def Gw(C:jl)(sp:Sp)(E:XS)(t:TA):TE:=λσ H Q=>t σ H λvs H1=>∀x dx,H1 x=Z0->H1 dx=Z0->dx≠x →
 sp (.ref x::vs) (Z9 (Z9 H1 dx<|.own x) x<|.ins C dx []) (λv H2=>v=.non/\Q (.ref x) H2) (E σ)
section
variable{X:Cx}{k:Z5}{f C:jl}{fd:q9}{ps:fy Z6}{sp:Sp}{E:XS}{x m:Z6}{p pos apos:Pos}{e o:Expr}{es:fy Expr}{ta:TE}{t:TA}
def oB{X4:fy (jl×Obj)}{σ:St}{H:Hp}{s:q8}{Q:VK}{us:fy mu}{vs:fy V}(F:aM X.prog X.w X.K X.mg X.base (CXx X.prog X.w) k f fd ps sp)(i:cH k X.A)(c:Binds X.K fd ps [])(g:dP X E)(I:Inv X X4 σ H s)(r:Vals vs us)(h:sp vs H Q (E σ)):wpAny (model X.prog X.w) X.A (call (.ref f) us) (EP X X4 σ Q) X.xe s:=by
 let j:us.length=ps.length:=by rw[←r.length];exact F.len _ _ _ _ h
 let b:=c s us I.kIn (by grind);rw[akq] at b;refine amY (akN (F.run X.A X.stack s H {us,[]} us vs Q (E σ) i I.Hw b r h) λr s' a=>?_);cases r with
 |error e=>exact g X4 σ H s e s' I a
 |ok fl=>
  cases fl with
  |ret u=>exact I.after a
  |next=>exact False.elim a
  |brk=>exact False.elim a
  |cont=>exact False.elim a
def HH(D:DefX X.prog X.w X.K X.mg X.base x k ps sp)(i:dP X E)(l:cH k X.A)(n:Gl X x)(o:PA X (e::es) t)(a:(x ==("__debug__":Str))=Z2:=by decide)(j:starEach (e::es) X.env =(Z2,eval e X.env)::starEach es X.env:=by rfl)(c:(backTo pos (starEach es X.env)).any (·.1)=Z2:=by rfl) :
  PE X (.Call (.Name x p) (e::es) [] pos) (AM sp E t):=by
 let⟨f,fd,m,F,g,b⟩:=D.ex;intro X4 s σ H Q I h;refine ajC<|oO I n m ?_ a;refine akl (h₀:=X.base) I.ok.mod.kin g (thn (o pos X4 s σ H _ I h) λ us s1 ⟨vs,H1,I1,r,q⟩=>{I1.kIn,?_}) j c;exact oB F l b i I1 r q
def bM{pl:Sem Bool}(n:PE X o ta)(c:Cls X.K C)(D:vS X.prog X.w X.K X.mg X.base C m k ps sp)(p:dP X E)(y:cH k X.A)(z:PA X (e::es) t)(g:starEach (e::es) X.env =(Z2,eval e X.env)::starEach es X.env:=by rfl)(i:(backTo pos (starEach es X.env)).any (·.1)=Z2:=by rfl)(v:eval (.Call (.Attribute o m apos) (e::es) [] pos) X.env =(do
   let ov ←eval o X.env
   standAt apos.atName
   let (f,first) ←holding [ov] (getMethod ov m pl)
   callWith pos f first (backTo pos (starEach (e::es) X.env)) (backToKw pos (keywordEach [] X.env))):=by rfl) :
  PE X (.Call (.Attribute o m apos) (e::es) [] pos) (Gd C m sp E ta t):=by
 let⟨f,fd,j,F,b⟩:=D.ex;intro X4 s σ H Q I h;refine alC (pl:=pl) (thn (n X4 s σ H _ I h) λ u s1 ⟨x,H1,I1,rx,a,dx,fs,ex,ea,l,q⟩=>?_) v;subst ex;obtain rfl:u=Value.ref a:=rx;refine wk I1 ea c j l ?_;refine akl (first:=[.ref a]) (h₀:=X.base) I.ok.mod.kin j.kp (thn (z pos X4 s1 σ H1 _ I1 q) λ us s2 ⟨vs,H2,I2,r,q2⟩=>{I2.kIn,?_}) g i;exact oB (us:=.ref a::us) (vs:=.ref a::vs) F y b p I2 (.cons J r) q2
def rC{pl:Sem Bool}(i:PE X o ta)(c:Cls X.K C)(D:vS X.prog X.w X.K X.mg X.base C m k ps sp)(g:dP X E)(n:cH k X.A)(j:eval (.Call (.Attribute o m apos) [] [] pos) X.env =(do
   let ov ←eval o X.env
   standAt apos.atName
   let (f,first) ←holding [ov] (getMethod ov m pl)
   callWith pos f first (backTo pos (starEach [] X.env)) (backToKw pos (keywordEach [] X.env))):=by rfl) :
  PE X (.Call (.Attribute o m apos) [] [] pos) (Gd C m sp E ta HV):=by
 let⟨f,fd,e,F,b⟩:=D.ex;intro X4 s σ H Q I h;refine alC (pl:=pl) (thn (i X4 s σ H _ I h) λ u s1 ⟨x,H1,I1,rx,a,dx,fs,ex,ea,l,q⟩=>?_) j;subst ex;obtain rfl:u=Value.ref a:=rx;refine wk I1 ea c e l ?_;exact anc (first:=[.ref a]) I1.kIn e.kp<|oB (us:=[.ref a]) (vs:=[.ref a]) F n b g I1 (.cons J .nil) q
def yC{X4:fy (jl×Obj)}{σ:St}{H:Hp}{s:q8}{Q:VK}{us:fy mu}{vs:fy V}(M:Mk X.K C f)(F:aM X.prog X.w X.K X.mg X.base (CXx X.prog X.w) k f fd ps sp)(p:cH (k+1) X.A)(i:Binds X.K fd ps [])(l:dP X E)(I:Inv X X4 σ H s)(r:Vals vs us)(h:∀x dx,H x=Z0->H dx=Z0->dx≠x->sp (.ref x::vs) (Z9 (Z9 H dx (.own x)) x (.ins C dx [])) (λv H2=>v=.non/\Q (.ref x) H2) (E σ)) :
  wpAny (model X.prog X.w) X.A (call (.ref C) us) (EP X X4 σ Q) X.xe s:=by
 let g:=h (~~~s+1) (~~~s) (I.hok.fresh<|akU _) (I.hok.fresh<|aiK _)<|ajq<|aky _;let c:=Inv.made (C:=C) I;let r2:Vals (V.ref (~~~s+1)::vs) (Value.ref (~~~s+1)::us):=.cons J r;let q:(Value.ref (~~~s+1)::us).length=ps.length:=by let e:=r2.length;rw[F.len _ _ _ _ g] at e;exact e.symm
 let b:=i _ (Value.ref (~~~s+1)::us) c.kIn (by grind);rw[akq] at b;refine amY (zD (f:=f) I.kIn M.makes M.init (amd.mp M.fn) (akN (F.run _ X.stack _ _ {Value.ref (~~~s+1)::us,[]} (Value.ref (~~~s+1)::us) _ _ (E σ) (p.make C us [])
  (c.Hw.make C us []) b r2 g) λr s' a=>?_))
 cases r with
 |error e=>exact l X4 σ _ _ e s' c a
 |ok fl=>
  cases fl with
  |ret u=>let⟨v,H',n,o,j,m⟩:=c.after a;subst j;exact{o,{V.ref (~~~s+1),H',n,J,m}}
  |next=>exact False.elim a
  |brk=>exact False.elim a
  |cont=>exact False.elim a
def iR(D:zv X.prog X.w X.K X.mg X.base x C k ps sp)(g:dP X E)(j:cH (k+1) X.A)(l:Gl X x)(n:PA X (e::es) t)(a:(x ==("__debug__":Str))=Z2:=by decide)(i:starEach (e::es) X.env =(Z2,eval e X.env)::starEach es X.env:=by rfl)(c:(backTo pos (starEach es X.env)).any (·.1)=Z2:=by rfl) :
  PE X (.Call (.Name x p) (e::es) [] pos) (Gw C sp E t):=by
 let⟨f,fd,m,M,F,b⟩:=D.ex;intro X4 s σ H Q I h;refine ajC<|oO I l m ?_ a;refine akl (h₀:=X.base) I.ok.mod.kin M.kp (thn (n pos X4 s σ H _ I h) λ us s1 ⟨vs,H1,I1,r,q⟩=>{I1.kIn,?_}) i c;exact yC M F j b g I1 r q
def rW(D:zv X.prog X.w X.K X.mg X.base x C k ps sp)(g:dP X E)(e:cH (k+1) X.A)(c:Gl X x)(a:(x ==("__debug__":Str))=Z2:=by decide):PE X (.Call (.Name x p) [] [] pos) (Gw C sp E HV):=by let⟨f,fd,m,M,F,b⟩:=D.ex;intro X4 s σ H Q I h;refine ajC<|oO I c m ?_ a;exact anc I.kIn M.kp<|yC (us:=[]) M F e b g I .nil h
end
abbrev Cx.tried(X:Cx)(pn:fy (jl×Obj))(xe:mu->q8->Z3):Cx:={X with pn:=pn,xe:=xe}
section
variable{X:Cx}{X4:fy (jl×Obj)}{σ:St}{H:Hp}{s:q8}{e:jl}{xe:mu->q8->Z3}
def Inv.tried(I:Inv X X4 σ H s):Inv (X.tried (X.pn++X4) xe) [] σ H s:=
 ⟨⟨I.ok.mod,I.ok.kind,I.ok.glob,I.ok.blt,I.ok.above,I.ok.inj,I.ok.has,I.ok.cab,I.ok.hd,I.ok.frames,I.ok.stk,I.ok.exf,I.ok.bs,I.ok.bsz,I.ok.uH,I.ok.ue,I.ok.jw,I.ok.frf⟩,
  I.os,I.bare,I.base,I.loc,I.cell,I.free,I.ig,λp a=>I.pin p (⇑a),I.hok,I.len⟩
def Inv.gg(ok:X.Ok)(I:Inv (X.tried (X.pn++X4) xe) ps σ H s):Inv X X4 σ H s:=
 {ok,I.os,I.bare,I.base,I.loc,I.cell,I.free,I.ig,λp a=>I.pin p<|ajZ _ a,I.hok,I.len}
end
abbrev TH:=jl->jl->TS
def PH(X:Cx)(hs:fy ExceptHandler)(th:TH):Z3:=
 ∀(X4:fy (jl×Obj))(s:q8)(σ:St)(H:Hp)(D:Ends)(e C:jl)(od:nt jl)(T:jl),Inv X X4 σ H s->Ek H e C od->Fly s.heap e T .none->fq X X4 H T->th e C D σ H →
  wpAny (model X.prog X.w) X.A (handleBy (.ref e) X.env hs) (SP X X4 D) X.xe s
inductive hPl(K:Frag)(DC:jl)(ts:jl->fy (jl×Obj)->TS)(tr:TH)(e:jl)(C:jl)(D:Ends)(σ:St)(H:Hp):Z3
 |m b(_:mroIn K C (.ref DC)=some b)(_:if b=Z1 then(∀pn,ts e pn D σ H) else tr e C D σ H)
section
variable{X:Cx}{x n:Z6}{i:Z5}{DC:jl}{np pos:Pos}{b0:Stmt}{suite:fy Stmt}{rest:fy ExceptHandler}{ts:jl->fy (jl×Obj)->TS}{tr:TH}
def SP.gg{X4:fy (jl×Obj)}{D:Ends}{xe:mu->q8->Z3}{fl:Flow}{s':q8}(ok:X.Ok)(h:SP (X.tried (X.pn++X4) xe) [] D fl s'):SP X X4 D fl s':=by
 cases fl with
 |next=>let⟨σ',H',b4,q⟩:=h;exact{σ',H',b4.gg ok,q}
 |brk=>let⟨σ',H',b4,q⟩:=h;exact{σ',H',b4.gg ok,q}
 |cont=>let⟨σ',H',b4,q⟩:=h;exact{σ',H',b4.gg ok,q}
 |ret u=>let⟨v,σ',H',b4,r,q⟩:=h;exact{v,σ',H',b4.gg ok,r,q}
def aib(tb:fy (jl×Obj)->(mu->q8->Z3)->XS->TS)(th:TH):TS:=λD σ H=>∀pn xe,tb pn xe (λσ' cls oe H'=>∃e C,cls=.ref C/\oe=some e/\th e C D σ' H') D σ H
def F9(o:∀pn xe E,dP (X.tried pn xe) E->PSs (X.tried pn xe) body (tb pn xe E))(L:PH X (h0::hs) th)(a:X.stack=X.env::X.outer)(p:X.env.frame=some X.env.locals) :
  PS X (.Try body (h0::hs) [] [] pos) (aib tb th):=by
 intro X4 s σ H D I h;refine wpAny_Try_except ?_;refine ajy (o (X.pn++X4) (λv j=>wpAny (model X.prog X.w) X.A (noteFrame v X.env) (λ_ m=>wpAny (model X.prog X.w) X.A (setFlight v Z0) (λ_ f=>wpAny (model X.prog X.w) X.A (handleBy v X.env (h0::hs)) (SP X X4 D) X.xe f) X.xe m) X.xe j)
  (λσ' cls oe H'=>∃e C,cls=.ref C/\oe=some e/\th e C D σ' H') ?_ [] s σ H D I.tried (h _ _)) (λfl s1 h1=>?_) λv s1 h1=>h1
 .rintro ps σ' H1 s1 v s2 b4 ⟨e,C,od,T,H2,rfl,os,c,un,q,x,F,y,r,e',C',ec,O,t⟩;cases ec;cases O;let S:=b4.Eg (ch:=[]) os un q c λb z=>absurd z o8;let n:Inv X X4 σ' H2 s2:=S.gg I.ok;let fp:fq X X4 H2 T:=(b4.gg I.ok).nA F y;let B:X.A.frames=some (X.env::X.outer):=by rw[←a];exact I.ok.frames
  refine GS B (by rw[←a];exact n.stack) p r λh3 T3 g=>?_
  rw[←a] at g;let U:=n.acA (ch:=[T]) x g (λb o=>by let:=ai6.mp o;subst this;exact fp);let i:fq X X4 H2 T3:=n.nA g.new<|n.hok.fresh g.new;refine BC (s:={s2 with heap:=h3}) g.fly λh4 k4 _ l=>?_
  let Y:=U.landed i k4;exact L X4 _ σ' H2 D e C od T3 Y x l i t
 .cases fl with
  |next=>exact akX<|SP.gg I.ok h1
  |brk=>exact SP.gg I.ok h1
  |cont=>exact SP.gg I.ok h1
  |ret u=>exact SP.gg I.ok h1
end
def acS(h:CXx P w o H s (λ_ _ _=>False) e s'):False:=by let⟨_,_,_,_,_,_,_,_,_,_,_,_,_,_,z⟩:=h;exact z
def HN{i j:Z4}(h:decide (V.int i=V.int j)=Z1):i=j:=V.int.inj<|ajm h
def DA{i j:Z4}(h:¬decide (V.int i=V.int j)=Z1):¬i=j:=by grind
def aR(h:Z9 H a o b=Z0):H b=Z0/\b≠a:=by
 unfold Z9 at h;split at h
 .cases h
 .grind
def Ib(n:Z5):(List.replicate n [V.int 0]).flatten =(List.replicate n ↥0).map Z8:=by simp_all
def cL(h:¬g=f):bq f v ((g,x)::r) =(g,x)::bq f v r:=by grind [bq]
def Ck:bq f v ((f,x)::r) =(f,v)::r:=by grind [bq]
def lN{r:fy (Z6×V)}(h:¬f=g):List.lookup f ((g,x)::r)=List.lookup f r:=by grind
def sQ{r:fy (Z6×V)}:List.lookup f ((f,x)::r)=some x:=by grind
def aW(F:fy jl)(H H':Hp):Z3:=∀b o,H b=some o->b∉F->H' b=some o
def aW.of_same(h:aj H H'):aW F H H':=λb o e _=>h b o e
def cZ(s:aW F H H')(h:p∈F∨H p=Z0):aW F H (Z9 H' p o):=λb u e a=>by
 rw[ak]
 .exact s b u e a
 .grind
def aW.refl:aW F H H:=λ_ _ e _=>e
structure Rows(H:Hp)(L:fy jl)(xss:fy (fy Z4)):Z3 where
 len:L.length=xss.length
 get:∀(i:Z5)a xs,L[i]?=some a->xss[i]?=some xs->H a=some (.lst (xs.map Z8))
def Rows.mono(R:Rows H L xss)(h:∀ a∈L,∀o,H a=some o->H' a=some o):Rows H' L xss:=
 {R.len,λi a xs b c=>h a (aiQ b) _<|R.get i a xs b c}
def Rows.snoc(R:Rows H L xss)(h:H a=some (.lst (xs.map Z8))):Rows H (L++[a]) (xss++[xs]):=
 ⟨by simp[R.len],λi b ys c e=>by
  let l:=R.len;by_cases hi:i<L.length
  .rw[aiM hi] at c;rw[aiM o6] at e;exact R.get i b ys c e
  .rw[aiP o6] at c;rw[aiP o6] at e;let f:i-L.length=0:=by grind
   rw[f] at c;rw[show i-xss.length=0 by omega] at e;let c:a=b:=⇑c
   let e:xs=ys:=⇑e
   rwa[←c,←e]⟩
def Rows.at_(R:Rows H L xss){i:Z5}(h:xss[i]?=some xs):∃a,L[i]?=some a/\a∈L/\H a=some (.lst (xs.map Z8)):=by
 let hi:i<L.length:=by rw[R.len];exact(aiH.mp h).1
 exact{L[i],aiG hi,ajF hi,R.get i _ xs (aiG hi) h}
def Rows.here(R:Rows H L xss):∀ a∈L,∃o,H a=some o:=λa b=>by
 let⟨i,hi⟩:=ajs.mp b;let c:i<xss.length:=by rw[←R.len];exact(aiH.mp hi).1
 exact{_,R.get i a _ hi<|aiG c}
structure fZ(H:Hp)(L:fy V)(chs:fy (Z4×Z4)):Z3 where
 len:L.length=chs.length
 get:∀(i:Z5)v,L[i]?=some v->∃t r,v=V.ref t/\chs[i]?=some r/\H t=some (.tup [.int r.1,.int r.2])
def fZ.nil:fZ H [] []:={J,λi v e=>by simp at e}
def fZ.mono(R:fZ H L chs)(h:∀t xs,H t=some (.tup xs)->H' t=some (.tup xs)):fZ H' L chs:=
 {R.len,λi v e=>let ⟨t,r,a,b,c⟩:=R.get i v e;{t,r,a,b,h t _ c}}
def fZ.snoc(R:fZ H L chs){r:Z4×Z4}(h:H t=some (.tup [.int r.1,.int r.2])):fZ H (L++[.ref t]) (chs++[r]):=
 ⟨by simp[R.len],λi v e=>by
  by_cases hi:i<L.length
  .rw[aiM hi] at e;let⟨t,r,a,b,c⟩:=R.get i v e;exact{t,r,a,by rwa[aiM (by grind)],c}
  .rw[aiP o6] at e;let f:i-L.length=0:=by grind
   rw[f] at e;let e:V.ref t=v:=⇑e
   refine{t,r,e.symm,?_,h};rw[aiP (by rw[←R.len];omega),←R.len,f];rfl⟩
def fl(wd ls:Z4)(ta sa:jl):fy (Z6×V):=[("wide",.int wd),("last",.int ls),("tables",.ref ta),("set_places",.ref sa)]
def s1:¬(("wide":Str) = "last"):=by decide +kernel
def s2:¬(("wide":Str) = "tables"):=by decide +kernel
def s3:¬(("wide":Str) = "set_places"):=by decide +kernel
def s4:¬(("last":Str) = "tables"):=by decide +kernel
def s5:¬(("last":Str) = "set_places"):=by decide +kernel
def s6:¬(("tables":Str) = "set_places"):=by decide +kernel
def Dq{wd ls:Z4}{ta sa:jl}:(fl wd ls ta sa).lookup ("wide":Str)=some (.int wd):=sQ
def pe{wd ls:Z4}{ta sa:jl}:(fl wd ls ta sa).lookup ("last":Str)=some (.int ls):=by unfold fl;rw[lN λe=>s1 e.symm,sQ]
def rM{wd ls:Z4}{ta sa:jl}:(fl wd ls ta sa).lookup ("tables":Str)=some (.ref ta):=by unfold fl;rw[lN λe=>s2 e.symm,lN λe=>s4 e.symm,sQ]
def Gp{wd ls:Z4}{ta sa:jl}:(fl wd ls ta sa).lookup ("set_places":Str)=some (.ref sa):=by unfold fl;rw[lN λe=>s3 e.symm,lN λe=>s5 e.symm,lN λe=>s6 e.symm,sQ]
def lG{wd ls:Z4}{ta sa:jl}{m:Z6}(h1:¬m = "wide")(h2:¬m = "last")(h3:¬m = "tables")(h4:¬m = "set_places"):(fl wd ls ta sa).lookup m=Z0:=by grind [fl]
def YA{wd ls l2:Z4}:bq "last" (.int l2) (fl wd ls ta sa)=fl wd l2 ta sa:=by unfold fl;rw[cL s1,Ck]
def Qf{wd:Z4}:bq "set_places" (.ref sa) (bq "tables" (.ref ta) (bq "last" (.int 0) (bq "wide" (.int wd) [])))=fl wd 0 ta sa:=by show bq "set_places" (.ref sa) (bq "tables" (.ref ta)<|bq "last" (.int 0) [("wide",.int wd)])=_;rw[cL s1];show bq "set_places" (.ref sa) (bq "tables" (.ref ta) [("wide",.int wd),("last",.int 0)])=_;rw[cL s2,cL s4];show bq "set_places" (.ref sa) [("wide",.int wd),("last",.int 0),("tables",.ref ta)]=_;rw[cL s3,cL s5,cL s6];rfl
def gh(wd:Z5)(c:Z4×Z4):nt (Bool×Z4):=if c.1<0∨↥wd≤c.1 then some (Z1,c.1) else if c.2<0∨18446744073709551615<c.2 then some (Z2,c.2) else Z0
def dD(wd:Z5)(a:fy (Z4×Z4)):nt (Bool×Z4):=a.findSome?<|gh wd
def nextT(a:fy Z4)(b:fy (Z4×Z4)):fy Z4:=b.foldl (λt c=>t.set c.1.toNat c.2) a
def yx(b:fy (Z4×Z4)):∀a:fy Z4,(nextT a b).length=a.length:=by
 induction b with
 |nil=>intro a;rfl
 |cons c r e=>intro a;show(nextT (a.set c.1.toNat c.2) r).length=_;rw[e,List.length_set]
def DH(a:fy Z4)(b:fy (Z4×Z4))(c:Z4×Z4):nextT a (b++[c]) =(nextT a b).set c.1.toNat c.2:=by grind [nextT]
def F5{wd:Z5}{c:Z4×Z4}(h:gh wd c=Z0):0≤c.1/\c.1<wd/\0≤c.2/\c.2≤18446744073709551615:=by grind [gh]
def qB{wd:Z5}(h:dD wd chs=Z0):∀ c∈chs,gh wd c=Z0:=by grind [dD,gh]
def tL{wd:Z5}{i:Z5}{c:Z4×Z4}(hi:chs[i]?=some c)(a:∀j d,j<i->chs[j]?=some d->gh wd d=Z0)(b:gh wd c=some x):dD wd chs=some x:=by
 unfold dD
 induction chs generalizing i with
 |nil=>simp at hi
 |cons d r f=>
  cases i with
  |zero=>
   let:d=c:=⇑hi
   rw[ane,this,b]
  |succ i=>rw[ane,a 0 d o6 rfl];exact f (i:=i) (⇑hi) λj d' g e=>a (j+1) d' o6 (⇑e)
structure bJ(C:jl)(H:Hp)(p ta sa:jl)(TL SL:fy jl)(wd:Z5)(C2 C3:fy (fy Z4)):Z3 where
 ob:∃dx,H p=some (.ins C dx (fl (wd:Z4) ((C2.length:Z4)-1) ta sa))
 tl:H ta=some (.lst (TL.map V.ref))
 sl:H sa=some (.lst (SL.map V.ref))
 tls:Rows H TL C2
 sls:Rows H SL C3
 nd:(p::ta::sa ::(TL++SL)).Nodup
 ne:C2.length≠0
 lens:C3.length=C2.length
 wds:∀ t∈C2,t.length=wd
 w1:0<wd
 w2:wd≤40
abbrev foot(p ta sa:jl)(TL SL:fy jl):fy jl:=p::ta::sa ::(TL++SL)
section
variable{C:jl}{H H':Hp}{p ta sa:jl}{TL SL:fy jl}{wd:Z5}{C2 C3:fy (fy Z4)}
def bJ.here(D:bJ C H p ta sa TL SL wd C2 C3):∀ b∈foot p ta sa TL SL,∃o,H b=some o:=by
 intro b a;simp only[foot,List.mem_cons,List.mem_append] at a;let⟨dx,c⟩:=D.ob;rcases a with rfl|rfl|rfl|a|a
 .exact{_,c}
 .exact{_,D.tl}
 .exact{_,D.sl}
 .exact D.tls.here b a
 .exact D.sls.here b a
def bJ.mono(D:bJ C H p ta sa TL SL wd C2 C3)(h:∀ b∈foot p ta sa TL SL,∀o,H b=some o->H' b=some o):bJ C H' p ta sa TL SL wd C2 C3:=by let⟨dx,e⟩:=D.ob;exact{{dx,h _ (by simp[foot]) _ e},h _ (by simp[foot]) _ D.tl,h _ (by simp[foot]) _ D.sl,D.tls.mono λa c=>h a (by simp[foot,c]),D.sls.mono λa c=>h a (by simp[foot,c]),D.nd,D.ne,D.lens,D.wds,D.w1,D.w2}
def bJ.same(D:bJ C H p ta sa TL SL wd C2 C3)(h:aj H H'):bJ C H' p ta sa TL SL wd C2 C3:=D.mono λb _ o e=>h b o e
def bJ.fresh(D:bJ C H p ta sa TL SL wd C2 C3)(h:H a=Z0):a∉foot p ta sa TL SL:=λb=>by let⟨o,e⟩:=D.here a b;rw[h] at e;cases e
def bJ.lists(D:bJ C H p ta sa TL SL wd C2 C3)(c:b∈foot p ta sa TL SL):(∃dx fs,H b=some (.ins C dx fs))∨∃xs,H b=some (.lst xs):=by
 simp only[foot,List.mem_cons,List.mem_append] at c;let⟨dx,h⟩:=D.ob;let e:∀{L:fy jl}{a:fy (fy Z4)},Rows H L a->b∈L->∃xs,H b=some (.lst xs):=λ{L a}R f=>by
  let⟨i,hi⟩:=ajs.mp f;let g:i<a.length:=by rw[←R.len];exact(aiH.mp hi).1
  exact{_,R.get i b _ hi<|aiG g}
 rcases c with rfl|rfl|rfl|c|c
 .grind
 .exact .inr {_,D.tl}
 .exact .inr {_,D.sl}
 .exact .inr (e D.tls c)
 .exact .inr (e D.sls c)
def bJ.apart(D:bJ C H p ta sa TL SL wd C2 C3)(k:aW F H H')(h:∀ b∈foot p ta sa TL SL,b∉F):bJ C H' p ta sa TL SL wd C2 C3:=D.mono λb a o e=>k b o e<|h b a
end
def Ej{α:Type}{p q r:α}{A B:fy α}{x y:α}(h:(p::q::r ::(A++B)).Nodup)(e:x∉(p::q::r ::(A++B)))(c:y∉(p::q::r ::(A++B)))(a:x≠y):(p::q::r ::((A++[x]) ++(B++[y]))).Nodup:=by
 let b:(p::q::r::A) ++(B++[y]) =(p::q::r ::(A++B))++[y]:=by simp
 rw[show p::q::r ::((A++[x]) ++(B++[y])) =(p::q::r::A)++x ::(B++[y]) by simp];refine amm.nodup_iff.mpr<|ajg.mpr {λz=>?_,?_}
 .rw[b] at z;exact(aiX.mp z).elim e λz=>a<|ai6.mp z
 .rw[b];exact amm.nodup_iff.mpr (by rw[akq];exact ajg.mpr ⟨c,h⟩)
section
variable{X:Cx}
inductive oJ(xs:fy V)(H:Hp)(Q:VK):Z3
 |m z n(_:xs=[.str z])(_:intText? z=some n)(_:z.length≤640)(_:Q (.int n) H)
def gS:dh X (.type "int") oJ:=by rintro X4 s σ H xs us Q I r ⟨z,n,rfl,hn,b,q⟩;let⟨u,rfl,a⟩:=vals1 r;let⟨t,rfl⟩:=(show ∃t,u=Value.str z t from a);exact PySem.W.KIN.call_text hn b {.int n,H,I.tok _,{1},q}
end
def Itx(x:Z6):It:={λi _=>i<x.cps.size,λi H v H'=>H'=H/\∃c,x.cps[i]?=some c/\v=.str ⟨#[c]⟩,λi _=>x.cps.size≤i}
def Ic{P:t6}{w:t7}{K:Frag}{tg:Expr}(it:jl)(x:Z6)(t:Tok)(k:String)(q:k = "str_ascii_iterator"∨k = "str_iterator"):Turn P w K tg (Itx x) [it] it (λi h=>h.IsStrIter it k x t i) where
 mem:=by simp
 obj:=λi h st b a=>by
  let e:b=it:=⇑a
  subst e;let⟨o,e,c,d⟩:=st;exact{o,e,λv z=>by rw[d] at z;cases z}
 keep:=λi h h' st B=>let ⟨o,e,r⟩:=st;{o,B it o8 o e,r}
 item:=by
  intro X O F C j i X4 s σ H E I p st f;subst O F C;let f:i<x.cps.size:=f;let⟨f0,f1,f2,l,n,m⟩:=p it o8;let W:Walks X.prog X.w X.A it [it] [it] x.cps.size (SignAt x) (λi h=>h.IsStrIter it k x t i):=by
   rcases q with rfl|rfl
   .exact Walks.strAscii (I.ok.hd j) it x t
   .exact Walks.strWide (I.ok.hd j) it x t
  refine W.item i s _ _ f st λv h' S hv g B=>?_
  let⟨c,u,y,rfl⟩:=hv;let Y:Inv X X4 σ H {s with heap:=h',toks:=S}:=I.turned (λb o a e=>B b o (⇑a) e) f0 f1 l n m;let⟨o,e,c1,U⟩:=id g;exact{1,wH (s:={s with heap:=h',toks:=S}) e c1 U (by rcases q with rfl|rfl <;> decide) {.str ⟨#[c]⟩,H,Y,⟨u,J⟩,⟨J,c,y,J⟩,g,λb a=>(p b a).1}}
 done:=by
  intro X O F C j i X4 s σ H E I p st f;subst O F C;let f:x.cps.size≤i:=f;let⟨f0,f1,f2,l,n,m⟩:=p it o8;let hn:x.cps[i]? = Z0:=by simp;omega
  rcases q with rfl|rfl
  .exact wpAny_pyNext_ascii_end (I.ok.hd j) st hn λh' L=>{J,I.turned (t':=s.toks) (λb o a e=>L b o a e) f0 f1 l n m}
  .exact wpAny_pyNext_wide_end (I.ok.hd j) st hn λh' L=>{J,I.turned (t':=s.toks) (λb o a e=>L b o a e) f0 f1 l n m}
 self:=λ_ _ _ _ _ st h=>by
  rcases q with rfl|rfl
  .exact wpAny_pyIter_striter_ascii st h
  .exact wpAny_pyIter_striter_wide st h
inductive FH(R:It->Hp->Z3)(x:V)(H1:Hp):Z3
 |m z(_:x=.str z)(_:R (Itx z) H1)
def aid(tl:TE):TI:=λσ H R=>tl σ H λx H1=>FH R x H1
def F0{X:Cx}{tg l:Expr}{tl:TE}(g:PE X l tl):PI X tg l (aid tl):=by
 intro X4 s σ H R I h;refine thn (g X4 s σ H _ I h) λ v s1 ⟨x,H1,I1,r1,q1⟩=>?_
 let⟨z,e,q⟩:=q1;subst e;let⟨t,rfl⟩:=(show ∃t,v=Value.str z t from r1);let fin:∀k(c:k = "str_ascii_iterator"∨k = "str_iterator"),PIE X X4 σ tg R (.ref (~~~s1)) {s1 with heap:=s1.heap.push {.type k,Z0,.fields #[.str z t,.int 0 0],#[]}}:=λk c=>by
  refine{(~~~s1),[~~~s1],_,_,H1,J,I1.kept (t':=s1.toks) λb o e=>aiI _ e,Ic _ z t k c,{_,aiW _ J,J,J},λb f=>?_,q};let e:b=( ~~~s1):=⇑f
  subst e;exact I1.nA (aiK _)<|I1.hok.fresh<|aiK _
 cases a:z.cps.all (· < 128)
 .exact wpAny_pyIter_wide a (fin _<|.inr J)
 .exact wpAny_pyIter_ascii a (fin _<|.inl J)
def Qd{x:Z6}{g:TG}{tb:TS}{D:Ends}{σ:St}{H:Hp}(b:Z5->St->Hp->Z3)(h0:b 0 σ H)(hs:∀i c σ H,x.cps[i]?=some c->b i σ H->g (.str ⟨#[c]⟩) σ H λa H2=>tb {D with nx:=b (i+1),ct:=b (i+1),bk:=D.nx} a H2)(n:∀σ H,b x.cps.size σ H->D.nx σ H) :
  ∃W:Z5->Z5->St->Hp->Z3,(∃m,W 0 m σ H)/\∀i m σ H,W i m σ H →
   ((Itx x).stop i H/\D.nx σ H)∨((Itx x).go i H/\∃N:St->Hp->Z3,(∀σ' H',N σ' H'->∃h,h<m/\W (i+1) h σ' H')/\∀v H',(Itx x).yld i H v H'->g v σ H' λa H2=>tb {D with nx:=N,ct:=N,bk:=D.nx} a H2):=by
 exists λi m σ H=>m=x.cps.size-i/\i≤x.cps.size/\b i σ H,{x.cps.size,o8,ajb _,h0};rintro i m σ H ⟨rfl,hi,p⟩;by_cases f:i<x.cps.size
 .refine .inr {f,b (i+1),λσ' H' l=>{x.cps.size -(i+1),o6,J,f,l},?_};rintro v H' ⟨rfl,c,j,rfl⟩;exact hs i c σ _ j p
 .let e:i=x.cps.size:=by omega
  subst e;exact .inl {aiK _,n σ H p}
def Hq{x:Z6}(D:jl){g:TG}{tt:TT}{te:TE}{σ:St}{H:Hp}{R:Hp->Z3}(f:Z5->St->Hp->fy V->Z3)(h0:f 0 σ H [])(hs:∀i c σ H ys,x.cps[i]?=some c->f i σ H ys->g (.str ⟨#[c]⟩) σ H λa o=>tt a o λb n=>if b=Z1 then
   te a n λy l=>l D=some (.lst ys)/\ys.length<Z7/\f (i+1) a (Z9 l D (.lst (ys++[y]))) (ys++[y]) else f (i+1) a n ys)(t:∀σ H ys,f x.cps.size σ H ys->R H) :
  ∃W:Z5->Z5->St->Hp->fy V->Z3,(∃m,W 0 m σ H [])/\∀i m σ' H' ys,W i m σ' H' ys->((Itx x).stop i H'/\R H')∨
   ((Itx x).go i H'/\∃N:St->Hp->fy V->Z3,(∀σ' H' h,N σ' H' h->∃q,q<m/\W (i+1) q σ' H' h)/\∀v H2,(Itx x).yld i H' v H2->g v σ' H2 λa o=>tt a o λb n=>if b=Z1 then
    te a n λy l=>l D=some (.lst ys)/\ys.length<Z7/\N a (Z9 l D (.lst (ys++[y]))) (ys++[y])
    else N a n ys):=by
 exists λi m σ H ys=>m=x.cps.size-i/\i≤x.cps.size/\f i σ H ys,{x.cps.size,o8,ajb _,h0};rintro i m σ H ys ⟨rfl,hi,p⟩;by_cases j:i<x.cps.size
 .refine .inr {j,f (i+1),λσ' H' h s=>{x.cps.size -(i+1),o6,J,j,s},?_};rintro v H' ⟨rfl,c,r,rfl⟩;exact hs i c σ _ ys r p
 .let e:i=x.cps.size:=by omega
  subst e;exact .inl {aiK _,t σ H ys p}
def BB(z:X.calm=Z1):dh X (.builtin "all") (λxs H Q=>∃p,∃bs:fy Bool,xs=[.ref p]/\X0 X.K H p (bs.map V.bl)/\Q (.bl (bs.all id)) H):=by
 rintro X4 s σ H xs us Q I r ⟨p,bs,rfl,y,q⟩;let⟨u,rfl,l⟩:=vals1 r;cases l;let⟨C5,m,pl,_⟩:=I.list y;let F:X.A.in1.handled=Z0:=I.ok.hd z;let a:=m.length;let j:p<(~~~s):=by let⟨o,e,_⟩:=pl.isList;exact aiO e
 refine call_all_walk<|alk pl.isList ?_;refine{(~~~s),_,_,_,_,_,λi=>bs.getD i Z2,J,Walks.list F (~~~s) p (ajq j) C5.toArray,{{_,aiW _ J,J,J},pl.isList.push _},?_,λh' B k=>?_}
 .intro i v s' O S g L;let g:C5.toArray[i]?=some v:=g;let hi:i<bs.length:=by let:=(ajw.mp g).1;simp at this;simp at a;omega
  let⟨u,t,l⟩:=Vals.get m (i:=i) (x:=V.bl<|bs.getD i Z2) (by simp[hi]);let:v=u:=by
   let h2:C5[i]?=some v:=⇑g
   rw[h2] at t;exact aiY t
  subst this;cases (show v=Value.bool (bs.getD i Z2) from l);exact aj2 L
 .let C:Inv X X4 σ H {s with heap:=h',toks:=B}:=I.kept λb o e=>k b o (λc=>by
   let c:b=( ~~~s):=⇑c
   exact absurd (aiO e) (by rw[c];exact aj4 _))<|aiI _ e
  refine{.bl<|bs.all id,H,C,?_,q};show Value.bool _=Value.bool _;congr 1;let n:C5.toArray.size=bs.length:=by simp at a ⊢;omega
  rw[n];clear n a m pl q y;let:∀bs:fy Bool,(List.range bs.length).all (λi=>bs.getD i Z2)=bs.all id:=λbs=>by
   rw[amz,akg,akg];constructor
   .intro h b c;let⟨i,hi⟩:=ajs.mp c;let f:=(aiH.mp hi).1;let:=h i<|ale.mpr f;simp[hi] at this;exact this
   .intro h i hi;let f:=ale.mp hi;let:=h bs[i] (ajF f);simpa[f] using this
  exact this bs
abbrev D7:Z6:=Str.ofString "0123456789"
def nY(c:Z5):Bool:=!(Builtin.Str.occurrences D7 ⟨#[c]⟩ 0 D7.length 1).isEmpty
def isNum(z:Z6):Bool:=z.cps.toList.all nY
def okW(z:Z6):Bool:=decide (1≤z.length)&&decide (z.length≤20) &&(decide (z.length=1)||!decide (z.cps.toList[0]?=some 48))&&isNum z
def intOf(z:Z6):Z4:=(intText? z).getD 0
def Ep{c:Z5}(h:nY c=Z1):48≤c/\c≤57:=by
 unfold nY at h;rw[amw] at h;let h:=ajm h;let e:D7.cps.toList=[48,49,50,51,52,53,54,55,56,57]:=by decide +kernel
 rw[e] at h;simp at h;omega
def Ho(h:isNum z=Z1)(h1:1≤z.length)(h2:z.length≤200):intText? z=some (intOf z):=by let e:=amP (x:=z) (λc a=>Ep<|akg.mp h c a) (by intro e;unfold Str.length at h1;rw[←ajS,e] at h1;simp at h1) o6;unfold intOf;rw[e];rfl
def xK(h:okW z=Z1):intText? z=some (intOf z):=by simp only[okW,Bool.and_eq_true,decide_eq_true_eq] at h;exact Ho h.2 h.1.1.1 o6
def Yv(h:¬1≤z.length):okW z=Z2:=by unfold okW;rw[ai1 h];rfl
def XC(h:¬z.length≤20):okW z=Z2:=by unfold okW;rw[ai1 h,Bool.and_false];rfl
def Ih(h:z.length≠1)(h0:z.cps.toList[0]?=some 48):okW z=Z2:=by unfold okW;rw[ai1 h,aiS h0];simp
def Cd(h1:1≤z.length)(h2:z.length≤20)(h3:z.length=1∨¬z.cps.toList[0]?=some 48):okW z=isNum z:=by
 unfold okW;rw[aiS h1,aiS h2];rcases h3 with h|h
 .rw[aiS h];simp
 .rw[ai1 h];simp
def str_len(z:Z6):z.cps.toList.length=z.length:=by simp[Str.length]
def GB{z:Z6}(h:1≤z.length):∃c,z.cps.toList[0]?=some c:=by rw[←str_len] at h;exact{_,aiG o6}
def G0(h:z.length=1)(h0:z.cps.toList[0]?=some 48):z=Str.ofString "0":=by
 rw[←str_len] at h;let⟨⟨l⟩⟩:=z
 match l,h,h0 with
 |[c],_,h0=>
  let:c=48:=⇑h0
  subst this;decide +kernel
def RE{c d:Z5}:(V.str ⟨#[c]⟩=V.str ⟨#[d]⟩)↔c=d:=by simp
def tQ(x y:Z6):(x++y).length=x.length+y.length:=by show(x.cps++y.cps).size=_;simp[Str.length]
open PySem PySem.Spec PyProof.Rows Builtin Builtin.Str
def yi{x y:Z6}(h:x.cps.toList=y.cps.toList):x=y:=by let⟨⟨x⟩⟩:=x;let⟨⟨y⟩⟩:=y;rw[show x=y from h]
def yU:∀a xs,Vals (xs.map V.str) (strsFrom a xs)
 |_,[]=>.nil
 |a,x::r=>.cons ⟨a,J⟩<|yU (a+1) r
def qT:∀{us:fy mu}{xs:fy Z6},Vals (xs.map V.str) us->StrsAre us xs
 |_,[],.nil=>.nil
 |_,x::r,.cons ⟨t,e⟩ h=>by cases e;exact .cons x t<|qT h
section
variable{X:Cx}
def lY:MtR X "str.split" (λx xs H Q=>∃z y:Z6,x=.str z/\xs=[.str y]/\(y.length==0)=Z2/\z.length≤100000/\∀p,H p=Z0->Q (.ref p) (Z9 H p (.lst ((Txt.split z y).map V.str)))):=by
 rintro X4 s σ H x xs v us Q I l r ⟨z,y,rfl,rfl,g,i,q⟩;let⟨t,rfl⟩:=(show ∃t,v=Value.str z t from l);let⟨u,rfl,j⟩:=Vals.one r;let⟨f,rfl⟩:=(show ∃t,u=Value.str y t from j);let c:z.length≤Z7:=ai8 i o7;let hn:(partsBetween z (occurrences z y 0 z.length (z.length+1)) y.length).length≤Z7:=by rw[length_partsBetween];let:=StrLaws.occ_length_le_len z y 0 z.length (z.length+1);exact ai8 (show _≤100002 by omega) o7
 let fin:∀(ys:fy Z6)(k:Z5)(us:fy mu),ys=Txt.split z y->ys.length≤Z7->Vals (ys.map V.str) us->EP X X4 σ Q (.ref (~~~s)) {s with heap:=s.heap.push {.type "list",Z0,.seq us.toArray,#[]},toks:=k}:=λys k us e h m=>
  {.ref (~~~s),_,I.laid (t':=k) (o:=.lst<|ys.map V.str) (λb n q=>aiI _ q) (aiK _) {by rwa[aiE],_,(0),m,aiW _ J},J,e ▸ q _ (I.hok.fresh<|aiK _)}
 cases h1:(decide (z.length<y.length)||decide (strKind z<strKind y))
 .cases a:(occurrences z y 0 z.length (z.length+1)).isEmpty
  .refine akE amn (ame _ _ _) al5 (alY _ _) (meets_str_split_sep z y t f h1 g a c hn) ?_;exact fin _ _ _ ((aiL<|alR h1).trans<|aiL<|alR a).symm hn<|yU _ _
  .refine akE amn (ame _ _ _) al5 (alY _ _) (meets_str_split_not_found z y t f h1 g a) ?_;exact fin [z] _ _ ((aiL<|alR h1).trans<|aiN a).symm (by show 1≤Z7;decide)<|.cons ⟨t,J⟩ .nil
 .refine akE amn (ame _ _ _) al5 (alY _ _) (meets_str_split_cannot_occur z y t f h1) ?_;exact fin [z] _ _ (aiN h1).symm (by show 1≤Z7;decide)<|.cons ⟨t,J⟩ .nil
def xg:MtR X "str.join" (λx xs H Q=>∃z p ys,x=.str z/\xs=[.ref p]/\X0 X.K H p (ys.map V.str)/\(ys.map (·.length)).sum+ys.length*z.length≤16777216/\Q (.str (Str.join z ys)) H):=by
 rintro X4 s σ H x xs v us Q I c r ⟨z,p,ys,rfl,rfl,f,a,q⟩;let⟨t,rfl⟩:=(show ∃t,v=Value.str z t from c);let⟨u,rfl,b⟩:=Vals.one r;cases b;let⟨C5,e,pl,_⟩:=I.list f;refine join_list pl.isList (⇑(qT e)) a λt' k=>{.str _,H,I.tok k,⟨t',J⟩,?_}
 rwa[show Txt.join z ys=Str.join z ys from akO z ys]
end
def yv{c:Z5}:∀{p q r t:fy Z5},c∉p->c∉q->p++c::r=q++c::t->p=q/\r=t
 |[],[],_,_,_,_,h=>{J,⇑h}
 |[],y::q,_,_,_,hq,h=>by simp at h hq;exact absurd h.1 hq.1
 |x::p,[],_,_,hp,_,h=>by simp at h hp;exact absurd h.1.symm hp.1
 |x::p,y::q,_,_,hp,hq,h=>by simp at h hp hq;let⟨a,b⟩:=yv (p:=p) (q:=q) hp.2 hq.2 h.2;exact{by rw[h.1,a],b}
def wm{c:Z5}(a:c∉p)(h:p=q++c::r):False:=a (by rw[h];simp)
def join_cons:(Str.join z (x::y::r))=x++z++Str.join z (y::r):=rfl
def zU{c:Z5}:(x ++(⟨#[c]⟩:Str)++y).cps.toList=x.cps.toList++c::y.cps.toList:=by show(x.cps++#[c]++y.cps).toList=_;simp
def Bg{c:Z5}:∀{ps ws:fy Z6},ps≠[]->ws≠[]->(∀ p∈ps,c∉p.cps.toList)->(∀ p∈ws,c∉p.cps.toList)->Str.join ⟨#[c]⟩ ps=Str.join ⟨#[c]⟩ ws->ps=ws
 |[p],[w],_,_,_,_,h=>by let:p=w:=h;rw[this]
 |[p],w::w'::ws,_,_,a,_,h=>by rw[join_cons] at h;let h:p=_:=h;exfalso;let a:=a p o8;let h:=congrArg (λz:Str=>z.cps.toList) h;rw[zU] at h;exact wm a h
 |p::p'::ps,[w],_,_,_,b,h=>by rw[join_cons] at h;let h:_=w:=h;exfalso;let b:=b w o8;let h:=congrArg (λz:Str=>z.cps.toList) h;rw[zU] at h;exact wm b h.symm
 |p::p'::ps,w::w'::ws,_,_,a,b,h=>by rw[join_cons,join_cons] at h;let h:=congrArg (λz:Str=>z.cps.toList) h;rw[zU,zU] at h;let⟨e,f⟩:=yv (a p o8) (b w o8) h;let e:p=w:=yi e;rw[e,Bg (c:=c) o8 o8 (λp h=>a p<|ai3 _ h) (λp h=>b p<|ai3 _ h)<|yi f]
def lz{c:Z5}(h0:ws≠[])(h:∀ p∈ws,c∉p.cps.toList):Txt.split (Str.join ⟨#[c]⟩ ws) ⟨#[c]⟩=ws:=by refine Bg ?_ h0 (λp a=>StrLaws.split_free _ c p a) h<|ak8 _ _;intro e;let:=split_pos (Str.join ⟨#[c]⟩ ws) ⟨#[c]⟩;rw[e] at this;simp at this
def bH(n:Z4):Z6:=Str.ofString<|toString n
def DX(m:Z5):1≤(Nat.toDigits 10 m).length:=by
 by_cases h:m<10
 .rw[alg h];simp
 .let a:m % 10<10:=amZ m o7;let t:Nat.toDigits 10 (m / 10)++Nat.toDigits 10 (m % 10)=Nat.toDigits 10 (10*(m / 10)+m % 10):=alU o7 o6 a;rw[Nat.div_add_mod] at t;rw[←t,ajj,alg a];simp
def vK(m:Z5):Nat.toDigits 10 m≠[]:=by intro e;let:=DX m;rw[e] at this;exact absurd this o7
def Qa(m:Z5)(h0:0<m):∀ch,(Nat.toDigits 10 m)[0]?=some ch->ch.toNat≠48:=by
 induction m using Nat.strongRecOn with
 |_ m ih=>
  by_cases h:m<10
  .rw[alg h];intro ch e;let e:Nat.digitChar m=ch:=⇑e
   subst e;let:∀m:Z5,m<10->0<m->(Nat.digitChar m).toNat≠48:=by decide
   exact this m h h0
  .let a:m % 10<10:=amZ m o7;let t:Nat.toDigits 10 (m / 10)++Nat.toDigits 10 (m % 10)=Nat.toDigits 10 (10*(m / 10)+m % 10):=alU o7 o6 a;rw[Nat.div_add_mod] at t;intro ch e;rw[←t,aiM (ak6 λe=>vK (m / 10)<|alh.mp e)] at e;exact ih (m / 10) o6 o6 ch e
def ji{n:Z4}(h0:0≤n):∀ c∈(bH n).cps.toList,48≤c/\c≤57:=by let⟨m,rfl⟩:=akb h0;intro c a;unfold bH at a;rw[aks] at a;let⟨ch,b,e⟩:=ajd.mp a;let r:=digit_range<|Nat.isDigit_of_mem_toDigits o7 o7 b;rwa[←e]
def Dd{c:Z5}(h:48≤c/\c≤57):nY c=Z1:=by
 unfold nY;rw[amw];let e:D7.cps.toList=[48,49,50,51,52,53,54,55,56,57]:=by decide +kernel
 rw[e];apply aiS;simp;omega
def gp{n:Z4}(h0:0≤n)(h:n<10 ^ 20):(bH n).length≤20:=toString_length_le h0 o7 h
def qq{n:Z4}(h0:0≤n):1≤(bH n).length:=by let⟨m,rfl⟩:=akb h0;rw[←str_len];unfold bH;rw[aks,aiE];exact ak6 λe=>vK m<|alh.mp e
def HM{n:Z4}(h0:0≤n):isNum (bH n)=Z1:=akg.mpr λc a=>Dd<|ji h0 c a
def HX{n:Z4}(h0:0≤n)(h:n<10 ^ 20):intText? (bH n)=some n:=by let e:=amP (x:=bH n) (ji h0) (by intro e;let:=qq h0;rw[←str_len,e] at this;exact absurd this o7)<|ai8 (gp h0 h) o7;let⟨m,rfl⟩:=akb h0;unfold bH at e ⊢;rwa[aks,am0] at e
def Ci{n:Z4}(h0:0≤n)(h:n<10 ^ 20):okW (bH n)=Z1:=by
 rw[Cd (qq h0) (gp h0 h) ?_]
 .exact HM h0
 .let⟨m,rfl⟩:=akb h0;by_cases a:m=0
  .subst a;left;decide +kernel
  .right;unfold bH;rw[aks,aiR];intro e;let⟨ch,h1,h2⟩:=ai9.mp e;exact Qa m o6 ch h1 h2
def gQ{n:Z4}(h0:0≤n){c:Z5}(a:c<48∨57<c):c∉(bH n).cps.toList:=λh=>by let:=ji h0 c h;omega
def jF(c:Z4×Z4):Z3:=(0≤c.1/\c.1<10 ^ 20)/\0≤c.2/\c.2<10 ^ 20
def wordOf(c:Z4×Z4):Z6:=bH c.1 ++(⟨#[61]⟩:Str)++bH c.2
def lF{c:Z4×Z4}(h:jF c):(wordOf c).length≤41:=by unfold wordOf;rw[tQ,tQ];let h1:=gp h.1.1 h.1.2;let h2:=gp h.2.1 h.2.2;let:(⟨#[61]⟩:Str).length=1:=rfl;omega
def tN{c:Z4×Z4}(h:jF c):32∉(wordOf c).cps.toList:=by
 unfold wordOf;rw[zU];intro a;rcases aiX.mp a with h'|h'
 .exact gQ h.1.1 (.inl o7) h'
 .rcases aiV.mp h' with h'|h'
  .exact absurd h' o7
  .exact gQ h.2.1 (.inl o7) h'
def Be:Str.ofString "=" =(⟨#[61]⟩:Str):=by decide +kernel
def spS:Str.ofString " " =(⟨#[32]⟩:Str):=by decide +kernel
def afq(c:Z4×Z4):Str.ofString (toString c.1)++Str.ofString "=" ++ Str.ofString (toString c.2)=wordOf c:=by unfold wordOf bH;rw[Be]
def vN{n:Z4}(h0:0≤n)(h:n<10 ^ 20):n.natAbs.log2<1920:=by
 by_cases a:n.natAbs=0
 .rw[a];decide
 .exact(Nat.log2_lt a).mpr (aji (show n.natAbs<10 ^ 20 by omega) o4)
structure xU(K:Frag)(x qual:Z6)(st:Stmt)(f:jl)(fd:q9)(dV:mu):Z3 where
 ex:∃(oc:mu)(od:nt jl)(kV doc pm:mu)(an:nt jl)(cdv ct:mu)(osl:sA (nt mu)),
  fd=fnOf x qual (fu st) (dB st) (ay st) dV kV doc pm an cdv ct/\K.lookup f=some {oc,od,.func fd,osl}/\codeIn K cdv qual=Z1
 kp:keepIn K (.ref f)=Z1
section
variable{P:t6}{w:t7}{K:Frag}{mg:Z6->nt mu}{base:Heap}
def xU.okX{x qual:Z6}{st:Stmt}{f:jl}{fd:q9}{j:mu}{N ps:fy Z6}{k:Z5}{sp:Sp}(F:xU K x qual st f fd j)(S:aE N ps (ay st))(len:∀vs H Q E,sp vs H Q E->vs.length=ps.length)(b:∀a A outer s H vs Q E,cH k (A.deeper (envOfC qual (ay st) (~~~s) f a))->sp vs H Q E →
   ∃t,PSs (aX (CXx P w) P w K mg base N qual (ay st) f a A outer s H E) (dB st) t/\t {nx:=λ_ H'=>Q .non H',rt:=Q} (start N vs) H):aM P w K mg base (CXx P w) (k+1) f fd ps sp:=by
 let⟨o,od,kV,h,n,m,a,ct,g,rfl,l,c⟩:=F.ex;exact LN l c S len λA outer s H vs Q E i e=>b a A outer s H vs Q E i e
def Qi{x qual:Z6}{st:Stmt}{f:jl}{i dV:mu}{od g:nt jl}{e:sA (nt mu)}{kV b h a ct:mu}(l:K.lookup f=some {i,od,.func (fnOf x qual (fu st) (dB st) (ay st) dV kV b h g a ct),e})(c:codeIn K a qual=Z1)(k:keepIn K (.ref f)=Z1):xU K x qual st f (fnOf x qual (fu st) (dB st) (ay st) dV kV b h g a ct) dV:={⟨i,od,kV,b,h,g,a,ct,e,J,l,c⟩,k}
def xU.binds{x qual:Z6}{st:Stmt}{f T:jl}{fd:q9}{ps:fy Z6}{o:Obj}{C5:sA mu}{n:Z5}{ds:fy mu}(F:xU K x qual st f fd (.ref T))(g:K.lookup T=some o)(hs:o.data=.seq C5 n)(h:∀kV a e c b ct us,us.length+ds.length=ps.length->∃k:nt (sA mu)->Sem (fy (Z6×mu)),
   bindArgs (fnOf x qual (fu st) (dB st) (ay st) (.ref T) kV a e c b ct) {us,[]}=seqItems? (.ref T) >>= k/\k (some C5)=pure (ps.zip (us++ds))):Binds K fd ps ds:=by
 let⟨p,od,kV,a,e,c,b,ct,j,rfl,m,i⟩:=F.ex;intro s us X l;let⟨k,h1,h2⟩:=h kV a e c b ct us (by grind);exact PySem.W.binds_K X J g hs h1 h2
end
section
variable(P:t6)(w:t7)(K:Frag)(mg:Z6->nt mu)(base:Heap)
structure EX(x:Z6)(C:jl)(k:Z5)(ps:fy Z6)(ds:fy mu)(sp:Sp):Z3 where
 ex:∃(f:jl)(fd:q9),mg x=some (.ref C)/\Mk K C f/\aM P w K mg base (CXx P w) k f fd ps sp/\Binds K fd ps ds
structure adp(C:jl)(m:Z6)(f:jl):Z3 where
 ga:specialIn K (.ref C) "__getattribute__" = some (some (.builtin "type.__getattribute__"))
 rd:readsIn K C (.type "type")=Z1
 fc:findCls K (.ref C) (.type "type") m=some (.val (.ref f))
 kp:keepIn K (.ref f)=Z1
structure Xu(x:Z6)(C:jl)(m:Z6)(k:Z5)(ps:fy Z6)(sp:Sp):Z3 where
 ex:∃(f:jl)(fd:q9),mg x=some (.ref C)/\adp K C m f/\aM P w K mg base (CXx P w) k f fd ps sp/\Binds K fd ps []
end
def Qc(C:jl)(sp:Sp)(E:XS)(dvs:fy V)(t:TA):TE:=λσ H Q=>t σ H λvs H1=>∀x dx,H1 x=Z0->H1 dx=Z0->dx≠x →
 sp (.ref x ::(vs++dvs)) (Z9 (Z9 H1 dx<|.own x) x<|.ins C dx []) (λv H2=>v=.non/\Q (.ref x) H2) (E σ)
def Qt(a b:TE):TE:=λσ H Q=>a σ H Q∨b σ H Q
section
variable{X:Cx}{k:Z5}{f C:jl}{fd:q9}{ps:fy Z6}{sp:Sp}{E:XS}{x m:Z6}{p pos apos:Pos}{e o:Expr}{es:fy Expr}{ta:TE}{t:TA}{ds:fy mu}{dvs:fy V}
def Ra(h1:PE X e t1)(h2:PE X e t2):PE X e (Qt t1 t2):=λX4 s σ H Q I h=>h.elim (h1 X4 s σ H Q I)<|h2 X4 s σ H Q I
def DG{X4:fy (jl×Obj)}{σ:St}{H:Hp}{s:q8}{Q:VK}{us:fy mu}{vs:fy V}(M:Mk X.K C f)(F:aM X.prog X.w X.K X.mg X.base (CXx X.prog X.w) k f fd ps sp)(q:cH (k+1) X.A)(i:Binds X.K fd ps ds)(rd:Vals dvs ds)(m:dP X E)(I:Inv X X4 σ H s)(r:Vals vs us)(h:∀x dx,H x=Z0->H dx=Z0->dx≠x->sp (.ref x ::(vs++dvs)) (Z9 (Z9 H dx (.own x)) x (.ins C dx [])) (λv H2=>v=.non/\Q (.ref x) H2) (E σ)) :
  wpAny (model X.prog X.w) X.A (call (.ref C) us) (EP X X4 σ Q) X.xe s:=by
 let g:=h (~~~s+1) (~~~s) (I.hok.fresh<|akU _) (I.hok.fresh<|aiK _)<|ajq<|aky _;let b:=Inv.made (C:=C) I;let r2:Vals (V.ref (~~~s+1) ::(vs++dvs)) (Value.ref (~~~s+1)::us++ds):=.cons J<|Vals.append r rd;let j:(Value.ref (~~~s+1)::us++ds).length=ps.length:=by let e:=r2.length;rw[F.len _ _ _ _ g] at e;exact e.symm
 let c:=i _ (Value.ref (~~~s+1)::us) b.kIn j;refine amY (zD (f:=f) I.kIn M.makes M.init (amd.mp M.fn) (akN (F.run _ X.stack _ _ {Value.ref (~~~s+1)::us,[]} (Value.ref (~~~s+1)::us++ds) _ _ (E σ) (q.make C us [])
  (b.Hw.make C us []) c r2 g) λr s' a=>?_))
 cases r with
 |error e=>exact m X4 σ _ _ e s' b a
 |ok fl=>
  cases fl with
  |ret u=>let⟨v,H',o,p,l,n⟩:=b.after a;subst l;exact{p,{V.ref (~~~s+1),H',o,J,n}}
  |next=>exact False.elim a
  |brk=>exact False.elim a
  |cont=>exact False.elim a
def GR(D:EX X.prog X.w X.K X.mg X.base x C k ps ds sp)(rd:Vals dvs ds)(g:dP X E)(j:cH (k+1) X.A)(l:Gl X x)(n:PA X (e::es) t)(a:(x ==("__debug__":Str))=Z2:=by decide)(i:starEach (e::es) X.env =(Z2,eval e X.env)::starEach es X.env:=by rfl)(c:(backTo pos (starEach es X.env)).any (·.1)=Z2:=by rfl) :
  PE X (.Call (.Name x p) (e::es) [] pos) (Qc C sp E dvs t):=by
 let⟨f,fd,m,M,F,b⟩:=D.ex;intro X4 s σ H Q I h;refine ajC<|oO I l m ?_ a;refine akl (h₀:=X.base) I.ok.mod.kin M.kp (thn (n pos X4 s σ H _ I h) λ us s1 ⟨vs,H1,I1,r,q⟩=>{I1.kIn,?_}) i c;exact DG M F j b rd g I1 r q
def QB{pl:Sem Bool}(i:PE X o (tC (.ref C)))(D:Xu X.prog X.w X.K X.mg X.base x C m k ps sp)(j:dP X E)(n:cH k X.A)(p:PA X (e::es) t)(a:starEach (e::es) X.env =(Z2,eval e X.env)::starEach es X.env:=by rfl)(g:(backTo pos (starEach es X.env)).any (·.1)=Z2:=by rfl)(l:eval (.Call (.Attribute o m apos) (e::es) [] pos) X.env =(do
   let ov ←eval o X.env
   standAt apos.atName
   let (f,first) ←holding [ov] (getMethod ov m pl)
   callWith pos f first (backTo pos (starEach (e::es) X.env)) (backToKw pos (keywordEach [] X.env))):=by rfl) :
  PE X (.Call (.Attribute o m apos) (e::es) [] pos) (AM sp E t):=by
 let⟨f,fd,_,c,F,b⟩:=D.ex;intro X4 s σ H Q I h;refine alC (pl:=pl) (thn (i X4 s σ H (λv H'=>v=.ref C/\H'=H) I ⟨J,J⟩) λ u s1 ⟨x,H1,I1,rx,ex,eH⟩=>?_) l;subst ex eH;obtain rfl:u=Value.ref C:=rx;refine PySem.W.method_cls I1.kIn c.ga<|PySem.W.cls_value I1.kIn c.rd c.fc J ?_;refine akl (first:=[]) (h₀:=X.base) I.ok.mod.kin c.kp (thn (p pos X4 _ σ H1 _ (I1.tok _) h) λ us s2 ⟨vs,H2,I2,r,q2⟩=>{I2.kIn,?_}) a g;exact oB F n b j I2 r q2
end
def Src(i l:jl)(C5:sA mu)(k:Z5)(h:Heap):Z3:=(h.IsListIter i l k/\h.IsList l C5)∨(h.IsTupleIter i l k/\h.IsTuple l C5)
def Src.mv{k:Z5}(x:Src i l C5 k h)(e:∀o,h.get? i=some o->h'.get? i=some o)(f:∀o,h.get? l=some o->h'.get? l=some o):Src i l C5 k h':=by
 rcases x with⟨⟨o,a,b⟩,⟨p,c,d⟩⟩|⟨⟨o,a,b⟩,⟨p,c,d⟩⟩
 .exact .inl {{o,e o a,b},{p,f p c,d}}
 .exact .inr {{o,e o a,b},{p,f p c,d}}
def Src.rec{k:Z5}(x:Src i l C5 k h):∃o,h.get? i=some o/\∀v,o.data≠.cell v:=by rcases x with⟨⟨o,a,_,d⟩,_⟩|⟨⟨o,a,_,d⟩,_⟩ <;> exact{o,a,λv q=>by rw[d] at q;cases q}
section
variable{prog:t6}{w:t7}{A:Around}{E:mu->q8->Z3}{s:q8}{i l:jl}{C5:sA mu}{k:Z5}
def Iv(h1:s.heap.IsTupleIter i l k)(h2:s.heap.IsTuple l C5)(g:C5[k]?=some x)(h:∀h',h'.IsTupleIter i l (k+1)->Heap.SameBut i s.heap h'->Q x {s with heap:=h'}) :
  wpAny (model prog w) A (Builtin.SmallTypes.nextOf (.ref i)) Q E s:=by
 let⟨o,b,f,a⟩:=id h1;let⟨m,c,_,j,e⟩:=h2;let S:=alA;unfold Builtin.SmallTypes.nextOf;refine aiF<|ajP (name:=Str.ofString "__next__") h1.typeIs S<|ajR S h1.typeIs als ?_<|alm _;show wpAny _ _ (field (Value.ref i) 0 >>= _) _ _ s;refine aiF<|ajD b a (x:=Value.ref l) J ?_;show wpAny _ _ (if (Value.ref l==.none)=Z1 then _ else _) _ _ s;rw[aiL o8];show wpAny _ _ (field (Value.ref i) 1 >>= _) _ _ s;refine aiF<|ajD b a (x:=Value.int k 0) J ?_;show wpAny _ _ (seqItems? (Value.ref l) >>= _) _ _ s;refine aiF<|wpAny_seqItems c e ?_;simp only[Int.toNat_natCast,g];refine aiF<|akf b a o8<|aiJ {x,J,aiJ<|h _ {_,aju _ b<|akr<|ajN a _,(al6 ..).trans f,?_}<|akc ..};rw[ajN a];simp[rawInt]
def Ql(j:A.handled=Z0)(h1:s.heap.IsTupleIter i l k)(h2:s.heap.IsTuple l C5)(h:C5[k]? = Z0)(n:∀h' e,Heap.ExtBut i s.heap h'->(∃o,h'.get? e=some o/\o.cls=.type "StopIteration")->E (.ref e) {s with heap:=h'}) :
  wpAny (model prog w) A (Builtin.SmallTypes.nextOf (.ref i)) Q E s:=by
 let⟨o,b,q,c⟩:=id h1;let⟨r,f,_,p,g⟩:=h2;let S:=alA;unfold Builtin.SmallTypes.nextOf;refine aiF<|ajP (name:=Str.ofString "__next__") h1.typeIs S<|ajR S h1.typeIs als ?_<|alm _;show wpAny _ _ (field (Value.ref i) 0 >>= _) _ _ s;refine aiF<|ajD b c (x:=Value.ref l) J ?_;show wpAny _ _ (if (Value.ref l==.none)=Z1 then _ else _) _ _ s;rw[aiL o8];show wpAny _ _ (field (Value.ref i) 1 >>= _) _ _ s;refine aiF<|ajD b c (x:=Value.int k 0) J ?_;show wpAny _ _ (seqItems? (Value.ref l) >>= _) _ _ s;refine aiF<|wpAny_seqItems f g ?_;simp only[Int.toNat_natCast,h];refine aiF<|wpAny_rule<|aiF<|akf b c o8 ?_;show wpAny _ _ (newExc (Value.type "StopIteration") [] >>= _) _ _ _;refine aiF ?_;simp only[newExc,newTuple];refine aiF<|ajB ?_ (by size_fits);refine aiF (m:=firstArgMember _ _)<|alu (a:=Value.none) (by simp only[firstArgMember];rfl)<|ajB ?_ (by size_fits);simp only[raiseNew];refine aiF<|wpAny_handled ?_;rw[show A.in1.handled=Z0 from j];exact aiF<|aiJ<|wpAny_throw<|n _ _ (((akc ..).extBut.push _).push _) {_,aiW _ J,J}
def Src.item(S:Src i l C5 k s.heap)(g:l≠i)(h:C5[k]?=some x)(j:∀h',Src i l C5 (k+1) h'->Heap.SameBut i s.heap h'->Q x {s with heap:=h'}) :
  wpAny (model prog w) A (Builtin.SmallTypes.nextOf (.ref i)) Q E s:=by
 rcases S with⟨a,b⟩|⟨a,b⟩
 .exact wpAny_nextOf_list_item a b h λh' f e=>j h' (.inl {f,let ⟨p,c,d⟩:=b;{p,e.extBut _ _ g c,d}}) e
 .exact Iv a b h λh' f e=>j h' (.inr {f,let ⟨p,c,d⟩:=b;{p,e.extBut _ _ g c,d}}) e
def Src.fin(f:A.handled=Z0)(S:Src i l C5 k s.heap)(g:C5[k]? = Z0)(c:∀h' e,Heap.ExtBut i s.heap h'->(∃o,h'.get? e=some o/\o.cls=.type "StopIteration")->E (.ref e) {s with heap:=h'}) :
  wpAny (model prog w) A (Builtin.SmallTypes.nextOf (.ref i)) Q E s:=by
 rcases S with⟨a,b⟩|⟨a,b⟩
 .exact wpAny_nextOf_list_end f a b g c
 .exact Ql f a b g c
end
abbrev zS1(h:Heap)(t:jl):Heap:=h.push {.type "tuple_iterator",Z0,.fields #[.ref t,.int 0 0],#[]}
def Src.tup{k:Z5}(x:Src i l C5 k h)(t:h.IsTuple l us):h.IsTupleIter i l k:=by
 rcases x with⟨_,⟨p,c,d,_⟩⟩|⟨a,_⟩
 .let⟨q,e,f,_⟩:=t;rw[c] at e;cases e;rw[d] at f;simp at f
 .exact a
def Src.lst{k:Z5}(x:Src i l C5 k h)(t:h.IsList l us):h.IsListIter i l k:=by
 rcases x with⟨a,_⟩|⟨_,⟨p,c,d,_⟩⟩
 .exact a
 .let⟨q,e,f,_⟩:=t;rw[c] at e;cases e;rw[d] at f;simp at f
def pq{K:Frag}{a:jl}(D:jl){xs:fy V}{g:TG}{tt:TT}{te:TE}{σ:St}{H:Hp}{R:Hp->Z3}(f:Z5->St->Hp->fy V->Z3)(h0:f 0 σ H [])(s:∀i σ H ys,i≤xs.length->f i σ H ys->X3 K H a xs)(hs:∀i x σ H ys,xs[i]?=some x->f i σ H ys->g x σ H λc o=>tt c o λb n=>if b=Z1 then
   te c n λy l=>l D=some (.lst ys)/\ys.length<Z7/\f (i+1) c (Z9 l D (.lst (ys++[y]))) (ys++[y]) else f (i+1) c n ys)(u:∀σ H ys,f xs.length σ H ys->R H) :
  ∃W:Z5->Z5->St->Hp->fy V->Z3,(∃m,W 0 m σ H [])/\∀i m σ' H' ys,W i m σ' H' ys->((Itt K a).stop i H'/\R H')∨
   ((Itt K a).go i H'/\∃N:St->Hp->fy V->Z3,(∀σ' H' h,N σ' H' h->∃r,r<m/\W (i+1) r σ' H' h)/\∀x H2,(Itt K a).yld i H' x H2->g x σ' H2 λc o=>tt c o λb n=>if b=Z1 then
    te c n λy l=>l D=some (.lst ys)/\ys.length<Z7/\N c (Z9 l D (.lst (ys++[y]))) (ys++[y])
    else N c n ys):=by
 exists λi m σ H ys=>m=xs.length-i/\i≤xs.length/\f i σ H ys,{xs.length,o8,ajb _,h0};rintro i m σ H ys ⟨rfl,hi,p⟩;let q:=s i σ H ys hi p;by_cases j:i<xs.length
 .refine .inr {{xs,xs[i],q,by simp[j]},f (i+1),λσ' H' h t=>{xs.length -(i+1),o6,J,j,t},λx H' y=>?_};let⟨e,y⟩:=y;subst e;exact hs i x σ _ ys (y xs q) p
 .let e:i=xs.length:=by omega
  subst e;exact .inl {{xs,q,aiK _},u σ H ys p}
def tI(n:Z4):Z4:=n*128 % 18446744073709551616+n / 144115188075855872
def FD(n:Z5):tI ↥n =(Chk.T n:Z5):=by unfold tI Chk.T;omega
def Dr(a b:Z5):Builtin.bitXor ↥a ↥b =((a ^^^ b:Z5):Z4):=by
 rw[PyProof.Rows.bitXor_and];let e:Builtin.bitAnd ↥a ↥b =((a &&& b:Z5):Z4):=by unfold Builtin.bitAnd;simp
 rw[e];let:=Chk.QX a b;omega
def flat(rows:fy (Z5×Z5)):fy Z5:=rows.flatMap λr=>[r.1,r.2]
def yK(rows:fy (Z5×Z5))(r:Z5×Z5):flat (rows++[r])=flat rows++[r.1,r.2]:=by simp[flat]
structure dN(H:Hp)(L:fy V)(rows:fy (Z5×Z5)):Z3 where
 len:L.length=rows.length
 get:∀(i:Z5)v,L[i]?=some v->∃t r,v=V.ref t/\rows[i]?=some r/\H t=some (.tup [.int (r.1:Z4),.int (r.2:Z4)])
def dN.mono(R:dN H L rows)(h:∀t xs,H t=some (.tup xs)->H' t=some (.tup xs)):dN H' L rows:=
 {R.len,λi v e=>let ⟨t,r,a,b,c⟩:=R.get i v e;{t,r,a,b,h t _ c}}
def dN.snoc(R:dN H L rows){r:Z5×Z5}(h:H t=some (.tup [.int ↥r.1,.int ↥r.2])):dN H (L++[.ref t]) (rows++[r]):=
 ⟨by simp[R.len],λi v e=>by
  by_cases hi:i<L.length
  .rw[aiM hi] at e;let⟨t,r,a,b,c⟩:=R.get i v e;exact{t,r,a,by rwa[aiM (by grind)],c}
  .rw[aiP o6] at e;let f:i-L.length=0:=by grind
   rw[f] at e;let e:V.ref t=v:=⇑e
   refine{t,r,e.symm,?_,h};rw[aiP (by rw[←R.len];omega),←R.len,f];rfl⟩
def Av(l:fy (Z5×Z5)):(flat l).length=2*l.length:=by
 induction l with
 |nil=>rfl
 |cons r l a=>have:flat (r::l)=r.1::r.2::flat l:=rfl;rw[this];simp only[List.length_cons,a];omega
def zO:bq "rows" v [("day",x)] =([("day",x),("rows",v)]:fy (Z6×V)):=by rw[cL o4];rfl
def nu:bq "check" v [("day",x),("rows",y)] =([("day",x),("rows",y),("check",v)]:fy (Z6×V)):=by rw[cL o4,cL o4];rfl
def Bf:bq "fits" v [("day",x),("rows",y),("check",z)] =([("day",x),("rows",y),("check",z),("fits",v)]:fy (Z6×V)):=by rw[cL o4,cL o4,cL o4];rfl
def Ym{x:V}{r:fy (Z6×V)}:List.lookup ("day":Str) (("day",x)::r)=some x:=by rw[ajo];simp
def Cu{x y:V}{r:fy (Z6×V)}:List.lookup ("rows":Str) (("day",x) ::("rows",y)::r)=some y:=by rw[ajo,show(("rows":Str) == "day")=Z2 by decide +kernel,ajo];simp
def qy{x y z:V}{r:fy (Z6×V)}:List.lookup ("check":Str) (("day",x) ::("rows",y) ::("check",z)::r)=some z:=by rw[ajo,show(("check":Str) == "day")=Z2 by decide +kernel,ajo,show(("check":Str) == "rows")=Z2 by decide +kernel,ajo];simp
def pfs(a:Bool)(b d:Z5)(r:jl)(c:Z4)(f:Bool):fy (Z6×V):=match a with
 |true=>[("day",V.int ↥d),("rows",V.ref r),("check",V.int c),("fits",V.bl f)]
 |false=>[("day",V.int ↥d),("rows",V.ref r),("check",V.int c),("fits",V.bl f),("base",V.int ↥b)]
def stN(a:Bool)(b:Z5):Z5:=cond a 0 (b+1)
def EE(a:Bool)(b d:Z5)(rows:fy (Z5×Z5)):Z5:=Chk.chk (stN a b::d::flat rows)
def PAt(CW CG:jl)(H:Hp)(p:jl)(a:Bool)(b d:Z5)(rows:fy (Z5×Z5))(c:Z4):Z3:=
 ∃dx r R,H p=some (.ins (cond a CW CG) dx<|pfs a b d r c<|decide (c =(EE a b d rows:Z5)))/\H r=some (.tup R)/\dN H R rows
def PAt.keep{b d:Z5}{c:Z4}(h:PAt CW CG H p wh b d rows c)(s:aj H H'):PAt CW CG H' p wh b d rows c:=by let⟨dx,r,R,h1,h2,h3⟩:=h;exact{dx,r,R,s _ _ h1,s _ _ h2,h3.mono λt xs e=>s _ _ e}
def eG(g:H x=Z0)(c:H dx=Z0)(k:aW [x] (Z9 (Z9 H dx (.own x)) x o) H'):aj H H':=λb u e=>by let a:=ao e g;let f:=ao e c;exact k b u (by rwa[ak a,ak f]) (⇑a)
def RJ{i j:Z4}:decide (V.int i=V.int j)=decide (i=j):=by grind
inductive qY(vs:fy V)(H:Hp)(Q:VK)(E:XK):Z3
 |m n(_:vs=[.int n])(_:Q (.int (tI n)) H)
inductive uZ(vs:fy V)(H:Hp)(Q:VK)(E:XK):Z3
 |m (s d:Z5) (a:jl) (L:fy V) (rows:fy (Z5×Z5))(_:vs=[.int ((s:Z4)-1),.int (d:Z4),.ref a])(_:H a=some (.lst L)∨H a=some (.tup L))(_:dN H L rows)(_:rows.length≤100)(_:∀H',aj H H'->Q (.int (Chk.chk (s::d::flat rows):Z5)) H')
inductive pD(K:Frag)(vs:fy V)(H:Hp)(Q:VK)(E:XK):Z3
 |m (p C dx a:jl) (s d:Z5) (L:fy V) (rows:fy (Z5×Z5)) (cv:V) (c:Z4)(_:vs=[.ref p,.int ((s:Z4)-1),.int (d:Z4),.ref a,cv])(_:H p=some (.ins C dx []))(_:Cls K C)(_:aO K C "day")(_:aO K C "rows")(_:aO K C "check")(_:aO K C "fits")(_:H a=some (.lst L)∨H a=some (.tup L))(_:dN H L rows)(_:rows.length≤100)(_:(cv=.non/\c =(Chk.chk (s::d::flat rows):Z5))∨cv=.int c)(_:∀r R H',H' p=some (.ins C dx [("day",V.int (d:Z4)),("rows",V.ref r),("check",V.int c),("fits",V.bl (decide (c =(Chk.chk (s::d::flat rows):Z5))))])->H' r=some (.tup R)->dN H' R rows->aW [p] H H'->Q .non H')
inductive mF(CW CG:jl)(vs:fy V)(H:Hp)(Q:VK)(E:XK):Z3
 |m (p dx a:jl) (d:Z5) (L:fy V) (rows:fy (Z5×Z5)) (cv:V) (c:Z4)(_:vs=[.ref p,.int (d:Z4),.ref a,cv])(_:H p=some (.ins CW dx []))(_:H a=some (.lst L)∨H a=some (.tup L))(_:dN H L rows)(_:rows.length≤100)(_:(cv=.non/\c =(EE Z1 0 d rows:Z5))∨cv=.int c)(_:∀H',PAt CW CG H' p Z1 0 d rows c->aW [p] H H'->Q .non H')
def xY:∀{us:fy mu}{ns:fy Z4},IntsAre us ns->Vals (ns.map Z8) us
 |_,_,.nil=>.nil
 |_,_,.cons _ t r=>.cons ⟨t,J⟩<|xY r
def uL(h:IntsAre us ns):us.length=ns.length:=by let:=(xY h).length;rw[aiE] at this;exact this.symm
def BG(x:bK P w H h a o):∃ob,h.get? a=some ob:=by
 cases o with
 |lst xs=>let⟨_,_,_,_,e⟩:=x;exact{_,e}
 |tup xs=>let⟨_,_,_,ob,e,_⟩:=x;exact{_,e}
 |dK C4=>let⟨_,_,_,_,o,_,_,e,_⟩:=x;exact{_,e}
 |dT C4=>let⟨_,_,_,_,o,_,_,e,_⟩:=x;exact{_,e}
 |set S n=>let⟨o,_,_,_,e,_⟩:=x;exact{_,e}
 |ins C dx fs=>let⟨_,_,_,e,_⟩:=x;exact{_,e}
 |own y=>exact x
 |xd fs=>let⟨_,⟨_,_,_,e,_⟩,_⟩:=x;exact{_,e}
 |rng lo hi=>let⟨_,_,_,e⟩:=x;exact{_,e}
 |frz ob u=>exact{_,x.1}
 |tbl ps=>exact{_,x}
 |met f y=>exact{_,x}
 |ext b=>exact x.2.1
section
variable{X:Cx}{X4:fy (jl×Obj)}{σ:St}{H:Hp}{s:q8}
def Inv.aaB{t':Z5}(I:Inv X X4 σ H s)(hn:s.heap.get? a=Z0)(k:∀b o,s.heap.get? b=some o->h'.get? b=some o)(new:bK X.prog X.w (Z9 H a (.lst vs)) h' a (.lst vs)) :
  ∃_:H a=Z0,Inv X X4 σ (Z9 H a (.lst vs)) {s with heap:=h',toks:=t'}/\True:=by
 let f:H a=Z0:=by
  cases z:H a with
  |none=>rfl
  |some o=>let⟨i,g⟩:=BG<|I.hok a o z;rw[hn] at g;cases g
 refine{f,?_,trivial};let j:∀b o,s.heap.get? b=some o->b≠a:=λb o e z=>by rw[z,hn] at e;cases e
 let h:Un X.fs [] H (Z9 H a (.lst vs)) s.heap h':=by
  refine{λb o e _ _ _=>k b o e,λb o e _ _ _=>{o.slots,k b o e},λb o e n _=>?_,λb o e _=>{o,k b o e},λb xs e=>?_,λb o u e=>?_,λb ps e=>{#[],?_}}
  .grind [bK,Z9]
  .grind [bK,Z9]
  .grind [bK,Z9]
  .grind [bK,Z9]
 refine I.un h λb o e=>?_
 by_cases z:b=a
 .grind [bK,Z9]
 .rw[ak z] at e;exact(I.hok b o e).stay (λc v _ q=>k c v q) (λc q=>by rwa[ak<|ao q f]) λc xs q=>by rwa[ak<|ao q f]
end
def sfs(d:jl)(fl:Z4):fy (Z6×V):=[("pieces",V.ref d),("follows",V.int fl)]
def B6:bq "follows" v [("pieces",x)] =([("pieces",x),("follows",v)]:fy (Z6×V)):=by rw[cL o4];rfl
def AH{fl m:Z4}:bq "follows" (.int m) (sfs d fl)=sfs d m:=by unfold sfs;rw[cL o4,Ck]
def GI{fl:Z4}:List.lookup ("pieces":Str) (sfs d fl)=some (V.ref d):=by grind [fl,sfs]
def qh{fl:Z4}:List.lookup ("follows":Str) (sfs d fl)=some (V.int fl):=by unfold sfs;rw[ajo,show(("follows":Str) == "pieces")=Z2 by decide +kernel,ajo];simp
def vJ{m:Z6}{d:jl}{fl:Z4}(h1:(m == "pieces")=Z2)(h2:(m == "follows")=Z2):List.lookup m (sfs d fl)=Z0:=by grind [fl,sfs]
inductive iT(C:jl)(H:Hp)(p d:jl)(fl:Z4)(C4:fy (Key×V)):Z3
 |m dx(_:H p=some (.ins C dx (sfs d fl)))(_:H d=some (.dK C4))
inductive uJ(C:jl)(vs:fy V)(H:Hp)(Q:VK)(E:XK):Z3
 |m p dx(_:vs=[.ref p])(_:H p=some (.ins C dx []))(_:∀d H',iT C H' p d 0 []->H d=Z0->aW [p] H H'->Q .non H')
inductive zF(C:jl)(vs:fy V)(H:Hp)(Q:VK)(E:XK):Z3
 |m p d fl C4 n a(_:vs=[.ref p,.int n,.ref a])(_:iT C H p d fl C4)(_:C4.length<1000)(_:∀H',iT C H' p d (if n+1>fl then n+1 else fl) (putK C4 (.inl n) (.ref a))->aW [p,d] H H'->Q .non H')
inductive Ac(C:jl)(vs:fy V)(H:Hp)(Q:VK)(E:XK):Z3
 |m p d fl C4 a(_:vs=[.ref p,.ref a])(_:iT C H p d fl C4)(_:C4.length<1000)(_:∀H',iT C H' p d (fl+1) (putK C4 (.inl fl) (.ref a))->aW [p,d] H H'->Q (.int fl) H')
def sJ{c A B:Z3}[Decidable c](a:¬c)(h:A):if (!decide c)=Z1 then A else B:=by grind
def nX(a:fy (Key×V)):Z3:=∀ b∈a,∃n:Z4,b.1=Sum.inl n
def nX.nil:nX []:=λ_ h=>by cases h
def nX.put(h:nX C4)(n:Z4)(v:V):nX (putK C4 (Sum.inl n) v):=λc a=>by
 unfold putK at a;split at a
 .let⟨b,h1,rfl⟩:=ajd.mp a;let⟨m,e⟩:=h b h1;split
  .exact⟨m,e⟩
  .exact⟨m,e⟩
 .rcases aiX.mp a with h1|h1
  .exact h c h1
  .grind
def iT.agH{fl:Z4}(h:iT C H p d fl C4)(k:aW F H H')(a:p∉F)(b:d∉F):iT C H' p d fl C4:=by let⟨dx,h1,h2⟩:=h;exact{dx,k _ _ h1 a,k _ _ h2 b}
def SqB(K:Frag)(tu:Bool)(H:Hp)(l:jl)(xs:fy V):Z3:=cond tu (X3 K H l xs)<|X0 K H l xs
def jI(tu:Bool)(h:Heap)(it l:jl)(i:Z5):Z3:=cond tu (h.IsTupleIter it l i)<|h.IsListIter it l i
def mJ(tu:Bool)(h:Heap)(l:jl)(us:sA mu):Z3:=cond tu (h.IsTuple l us)<|h.IsList l us
def jI.src{i:Z5}(a:jI tu h it l i)(b:mJ tu h l us):Src it l us i h:=by grind [jI,mJ,Src]
def jI.mv{i:Z5}(a:jI tu h it l i)(k:∀o,h.get? it=some o->h'.get? it=some o):jI tu h' it l i:=by cases tu <;>(let⟨o,e,r⟩:=a;exact{o,k o e,r})
def jI.obj{i:Z5}(a:jI tu h it l i):∃o,h.get? it=some o/\∀v,o.data≠.cell v:=by cases tu <;>(let⟨o,e,_,d⟩:=a;exact{o,e,λv q=>by rw[d] at q;cases q})
def mJ.mv(a:mJ tu h l us)(k:∀o,h.get? l=some o->h'.get? l=some o):mJ tu h' l us:=by cases tu <;>(let⟨o,e,r⟩:=a;exact{o,k o e,r})
def mJ.lt(a:mJ tu h l us):l<h.objs.size:=by cases tu <;>(let⟨o,e,r⟩:=a;exact aiO e)
def Src.adO{i:Z5}(S:Src it l us i h)(b:mJ tu h l us'):jI tu h it l i:=by
 cases tu
 .exact S.lst b
 .exact S.tup b
def SqB.items{X:Cx}{X4:fy (jl×Obj)}{σ:St}{H:Hp}{s:q8}{tu:Bool}{l:jl}{xs:fy V}(I:Inv X X4 σ H s)(h:SqB X.K tu H l xs):∃us:fy mu,Vals xs us/\mJ tu s.heap l us.toArray:=by
 cases tu
 .let⟨us,r,p,_⟩:=I.list h;exact⟨us,r,p.isList⟩
 .let⟨us,r,p,_⟩:=I.tuple h;exact⟨us,r,p⟩
def SqB.inj(I:Inv X X4 σ H s)(h:SqB X.K tu H l xs)(h':SqB X.K tu H l ys):xs=ys:=by
 cases tu
 .exact I.uz h h'
 .exact I.yW h h'
def wX(c:A.handled=Z0)(b:l≠it):Draws prog w A it [it,l] us.size (λi x=>us[i]?=some x) (λi h=>Src it l us i h) where
 live:=λi h st=>let ⟨o,e,_⟩:=st.rec;⟨o,e⟩
 frame:=λi h h' st k=>st.mv (λo e=>k it o8 o e) (λo e=>k l o8 o e)
 item:=λi s Q E hi st f=>Src.item st b (x:=us[i]) (by simp[hi]) λh' a j=>f _ h' s.toks (by simp[hi]) a j
 done:=λs Q E st g=>Src.fin c st o8 g
def Ite(K:Frag)(tu:Bool)(l:jl):It:=
 ⟨λi H=>∃xs x,SqB K tu H l xs/\xs[i]?=some x,
  λi H v H'=>∃T x,H T=Z0/\v=.ref T/\H'=Z9 H T (.tup [.int ↥i,x])/\∀xs,SqB K tu H l xs->xs[i]?=some x,
  λi H=>∃xs,SqB K tu H l xs/\xs.length=i⟩
def ahY(tu:Bool)(e it l:jl)(i:Z5)(h:Heap):Z3:=(∃a,IsEnum h e it ↥i a)/\jI tu h it l i
def Fw{P:t6}{w:t7}{K:Frag}{es:fy Expr}{x1}{tp:Pos}(tu:Bool)(e it l:jl)(n:e≠it)(m:l≠e)(p:l≠it):Turn P w K (.Tuple es x1 tp) (Ite K tu l) [e,it] e (ahY tu e it l) where
 mem:=by simp
 obj:=λi h st b j=>by
  let⟨⟨a,h1⟩,h2⟩:=st;simp only[List.mem_cons,List.not_mem_nil,or_false] at j;rcases j with rfl|rfl
  .grind
  .exact h2.obj
 keep:=λi h h' st k=>by let⟨⟨a,h1⟩,h2⟩:=st;exact{{a,k e o8 _ h1},h2.mv λo x=>k it o8 o x}
 item:=by
  intro X hP hw L f i X4 s σ H E I A st O;subst hP hw L;let⟨⟨a,h1⟩,h2⟩:=st;let⟨xs,x,y,ex⟩:=O;let⟨us,F,B⟩:=SqB.items I y;let⟨u,eu,ru⟩:=Vals.get F ex;let S:i<us.toArray.size:=by grind
  refine wpAny_pyNext_enum_itemD (wX (I.ok.hd f) p) h1 (h2.src B) S n (by simp[n,m.symm]) λz h' v a4 ho a1 hT hsz C=>?_
  let e1:z=u:=by grind
  subst e1;refine{1,wpAny_letOwnedTupleGo_enum ho λg y1 t=>?_};let r:e<(~~~s):=aiO h1;let a0:it<(~~~s):=by let⟨o,q,_⟩:=h2.obj;exact aiO q
  let lt:∀ b∈[e,it],b<(~~~s):=λb j=>by
   simp only[List.mem_cons,List.not_mem_nil,or_false] at j;rcases j with rfl|rfl
   .exact r
   .exact a0
  let keep:∀c o,c∉[e,it]->s.heap.get? c=some o->g.get? c=some o:=λc o f q=>by simp only[List.mem_cons,List.not_mem_nil,or_false,not_or] at f;exact t.extBut c o f.1<|C c o f.1 f.2 q
  let nT:H (~~~s)=Z0:=I.hok.fresh<|aiK _;let U:g.get? (~~~s)=some {.type "tuple",Z0,.seq #[.int ↥i v,z],#[]}:=t.extBut _ _ (lO r<|aiK _).symm hT;let I2:Inv X X4 σ (Z9 H (~~~s) (.tup [.int ↥i,x])) {s with heap:=g,toks:=v+1}:=
   I.vY (ch:=[e,it]) keep A (aiK _) {by show 2≤Z7;decide,[Value.int ↥i v,z],.cons ⟨v,J⟩<|.cons ru .nil,{_,U,J,(0),J}}
  refine{.ref (~~~s),_,I2,J,{_,x,nT,J,J,λa3 h=>?_},{{z,?_},?_},λb j=>?_}
  .rw[SqB.inj I h y];exact ex
  .simpa using y1
  .let Y:mJ tu g l us.toArray:=B.mv λo q=>keep l o (by simp[m,p]) q
   exact(a1.mv (λo q=>t.extBut _ o n.symm q) λo q=>t.extBut _ o m q).adO Y
  .rw[ak<|lO (lt b j)<|aiK _];exact(A b j).1
 done:=by
  intro X hP hw L f i X4 s σ H E I A st O;subst hP hw L;let⟨⟨a,h1⟩,h2⟩:=st;let⟨xs,y,hl⟩:=O;let⟨us,F,B⟩:=SqB.items I y;let a2:=F.length;let hn:i=us.toArray.size:=by simp;omega
  subst hn;refine wpAny_pyNext_enum_endD (wX (I.ok.hd f) p) h1 (h2.src B) λh' C=>{J,?_}
  exact I.wA (t':=s.toks) (ch:=[e,it]) (λc o f q=>by simp only[List.mem_cons,List.not_mem_nil,or_false,not_or] at f;exact C c o f.2 q) A
 self:=λ_ _ _ _ _ st h=>by let⟨⟨a,h1⟩,_⟩:=st;exact al7 h1 h
def Ge(t:jl)(us:sA mu)(n:Z5)(e:nt jl)(j:sA (nt mu)):Meets (Builtin.«enumerate.__new__» {[.type "enumerate",.ref t],[]}) (λ_ R s=>s.heap.get? t=some {.type "tuple",e,.seq us n,j}/\R (.ok (.ret (.ref (zS1 s.heap t).objs.size))) {s with heap:=(zS1 s.heap t).push {.type "enumerate",Z0,.fields #[.none,.bool Z2,.ref (~~~s),rawInt 0,.none,.none],#[]}}):=
 .of_wp λprog w A R s b=>by
  let⟨l,g,d,i,os⟩:=s;let⟨a,q⟩:=b;let f:=sub_enumerate;let h:Heap.IsTuple (Shared.heap ⟨l,g,d,i,os⟩) t us:={_,a,J,n,J}
  wp_walk using ak9 a
  refine wpAny_stack_any λst=>aiJ ?_
  split
  .rename_i c _ _ _ _ _;cases (c==Value.type "enumerate") <;>(wp_walk using ak9 a,ak1 h;exact{1,q})
  ·wp_walk using ak9 a,ak1 h
   exact{1,q}
def D5(m:mJ tu s.heap l us)(h:∀h',IsEnum h' (~~~s+1) (~~~s) 0 .none->jI tu h' (~~~s) l 0->(∀b o,s.heap.get? b=some o->h'.get? b=some o)->Q (.ref (~~~s+1)) {s with heap:=h'}):wpAny (model prog w) A (call (.type "enumerate") [.ref l]) Q E s:=by
 cases tu
 .exact call_enumerate_list m λh' a b _ k=>h h' a b k
 .let⟨⟨c,i,v,u⟩,e,f,n,j⟩:=m;replace f:c=.type "tuple":=f;replace j:v=.seq us n:=j;subst f j;refine callType_new PySem.F.called_enumerate o7 (PySem.F.typeCall_enumerate_1 _) (PySem.F.newCall_enumerate_1 _) (λobj=>PySem.F.args_object_init_2 obj _) PySem.F.entry_enumerate_new (Ge l us n i u) {e,?_};let p:(zS1 s.heap l).objs.size= ~~~s+1:=aj0 ..;let t:∀c o,s.heap.get? c=some o->((zS1 s.heap l).push {.type "enumerate",Z0,.fields #[.none,.bool Z2,.ref (~~~s),rawInt 0,.none,.none],#[]}).get? c=some o:=λc o q=>aiI _ (aiI _ q)
  let g:((zS1 s.heap l).push {.type "enumerate",Z0,.fields #[.none,.bool Z2,.ref (~~~s),rawInt 0,.none,.none],#[]}).get? (zS1 s.heap l).objs.size=some _:=aiW _ rfl;let r:((zS1 s.heap l).push {.type "enumerate",Z0,.fields #[.none,.bool Z2,.ref (~~~s),rawInt 0,.none,.none],#[]}).get? (~~~s)=some _:=aiI _<|aiW _ J;rw[p] at g;rw[p];exact{{_,g,J},h _ g {_,r,J,J} t}
inductive Df(K:Frag)(tu:Bool)(R:It->Hp->Z3)(vs:fy V)(H1:Hp):Z3
 |m l(_:vs=[.ref l])(_:∃xs,SqB K tu H1 l xs)(_:R (Ite K tu l) H1)
def afH(K:Frag)(tu:Bool)(ta:TA):TI:=λσ H R=>ta σ H λvs H1=>Df K tu R vs H1
def oH{X:Cx}(tu:Bool){a:Expr}{ta:TA}{p pos:Pos}{es:fy Expr}{x1}{x:Pos}(y:Gl X "enumerate")(j:X.mg "enumerate" = Z0)(z:PA X [a] ta)(hs:starEach [a] X.env=[(Z2,eval a X.env)]:=by rfl) :
  PI X (.Tuple es x1 x) (.Call (.Name "enumerate" p) [a] [] pos) (afH X.K tu ta):=by
 intro X4 s σ H R I h;refine Call_<|gO I y j boot_enumerate<|ajt (thn (z pos X4 s σ H _ I h) λ us s1 ⟨vs,H1,I1,r1,q1⟩=>?_) hs J;let⟨l,e,⟨xs,n⟩,q⟩:=q1;subst e;let⟨u,rfl,r⟩:=vals1 r1;cases (show u=Value.ref l from r);let⟨o,B,i⟩:=SqB.items I1 n;let g:l<(~~~s1):=i.lt;refine D5 i λh' f v m=>?_
 refine al7 f ?_;let t:Inv X X4 σ H1 {s1 with heap:=h',toks:=s1.toks}:=I1.kept m;refine{(~~~s1)+1,_,_,_,H1,J,t,Fw tu (~~~s1+1) (~~~s1) l (Nat.succ_ne_self _) (lO g<|akU _)<|lO g<|aiK _,{{_,f},v},λb A=>?_,q};let c:( ~~~s1)≤b:=by grind
 exact I1.nA c<|I1.hok.fresh c
def uC{K:Frag}{tu:Bool}{l:jl}{xs:fy V}{g:TG}{tb:TS}{D:Ends}{σ:St}{H:Hp}(a:Z5->St->Hp->Z3)(h0:a 0 σ H)(h:∀i σ H,a i σ H->SqB K tu H l xs)(hs:∀i x σ H T,xs[i]?=some x->a i σ H->H T=Z0->g (.ref T) σ (Z9 H T (.tup [.int ↥i,x])) λb H2=>tb {D with nx:=a (i+1),ct:=a (i+1),bk:=D.nx} b H2)(q:∀σ H,a xs.length σ H->D.nx σ H) :
  ∃W:Z5->Z5->St->Hp->Z3,(∃m,W 0 m σ H)/\∀i m σ H,W i m σ H →
   ((Ite K tu l).stop i H/\D.nx σ H)∨((Ite K tu l).go i H/\∃N:St->Hp->Z3,(∀σ' H',N σ' H'->∃f,f<m/\W (i+1) f σ' H')/\∀x H',(Ite K tu l).yld i H x H'->g x σ H' λb H2=>tb {D with nx:=N,ct:=N,bk:=D.nx} b H2):=by
 exists λi m σ H=>m=xs.length-i/\i≤xs.length/\a i σ H,{xs.length,o8,ajb _,h0};rintro i m σ H ⟨rfl,hi,p⟩;let q1:=h i σ H p;by_cases c:i<xs.length
 .let ex:xs[i]?=some xs[i]:=aiG c;refine .inr {{xs,_,q1,ex},a (i+1),λσ' H' o=>{xs.length -(i+1),o6,J,c,o},?_};rintro v H' ⟨T,x,n,rfl,rfl,j⟩;exact hs i x σ H T (j xs q1) p n
 .let e:i=xs.length:=by omega
  subst e;exact .inl {⟨xs,q1,J⟩,q σ H p}
def uM:∀{ns:fy Z4}{C5:fy mu},Vals (ns.map Z8) C5->IntsAre C5 ns
 |[],_,.nil=>.nil
 |n::ns,_,.cons r rr=>by let⟨t,rfl⟩:=r;exact .cons n t<|uM rr
def FY{X:Cx}{K:Frag}{o e:Expr}{es:fy Expr}{to:TE}{t:TA}{name:Z6}{apos cpos:Pos}{T id:String}{r:V->fy V->Hp->VK->Z3}(l:X.K=K)(n:PlainAttrs T)(g:Slot T name id)(h:typeOf (.builtin id)=pure (.type "method_descriptor"))(i:MtR X id r)(j:PE X o to)(m:PA X (e::es) t)(b:attributeBase o name X.env (eval o X.env)=eval o X.env:=by rfl)(f:((backTo cpos (starEach (e::es) X.env)).all (λx=>!x.1) &&(backToKw cpos (keywordEach [] X.env)).all (λx=>x.1.isSome)&&decide ((e::es).length +([]:fy Keyword).length +(if ([]:fy Keyword).isEmpty then 0 else 1)<30))=Z1:=by rfl)(c:(apos.endLine==cpos.line)=Z1:=by rfl)(hs:starEach (e::es) X.env =(Z2,eval e X.env)::starEach es X.env:=by rfl)(a:(backTo cpos (starEach es X.env)).any (·.1)=Z2:=by rfl):PE X (.Call (.Attribute o name apos) (e::es) [] cpos) (tBM K T r to t):=by subst l;exact cK n g h i j m b f c hs a
def yX{X:Cx}{K:Frag}(e:X.K=K):dh X (.builtin "len") (jU K):=by subst e;exact aK
open PySem HT
def De:∀a:fy Z4,HT.lexLt a a=Z2
 |[]=>rfl
 |x::a=>by rw[HT.gr,aiN rfl];exact De a
def Le(a b:fy Z4):Z3:=HT.lexLt b a=Z2
def Le.refl(a:fy Z4):Le a a:=De a
structure Leg where
 num:Z4
 start:Z4
 to:Z4
 bad:Z4
 cost:Z4
def le4{a b c d f e g d':Z4}(h:Le [a,b,c,d] [f,e,g,d']):Le [a,b,c] [f,e,g]:=by
 unfold Le at h ⊢;rw[HT.gr] at h ⊢;by_cases h1:f=a
 .subst h1;rw[aiN rfl] at h ⊢;rw[HT.gr] at h ⊢;by_cases h2:e=b
  .subst h2;rw[aiN rfl] at h ⊢;rw[HT.gr] at h ⊢;by_cases h3:g=c
   .subst h3;rw[aiN J,HT.za]
   .grind
  .grind
 .grind
def VE(q:fy Z4):Z3:=∃(b c:Z4)(n:Z5),q=[b,c,↥n]
def AJ{q q':fy Z4}{d d':Z4}(h:VE q)(h':VE q')(a:Le (q++[d]) (q'++[d'])):Le q q':=by let⟨b,c,n,rfl⟩:=h;let⟨f,g,e,rfl⟩:=h';exact le4 a
def ahead(a:fy Leg)(P:Z4->nt (fy Z4)):Z5:=(a.filter λg=>(P g.start).isNone).length
def D8{C4:fy (Key×V)}:(bD C4 k).isSome=Z1↔k∈C4.map (·.1):=by
 unfold bD;rw[al4,List.find?_isSome,ajd];constructor
 .grind
 .grind
def CQ:∀{C4:fy (Key×V)}{k:Key}{v:V},(C4.map (·.1)).Nodup->(k,v)∈C4->bD C4 k=some v
 |[],_,_,_,h=>by cases h
 |(k',v')::r,k,v,hn,h=>by
  rw[ajl,ajg] at hn;unfold bD;rw[List.find?_cons];rcases aiV.mp h with e|h
  .cases e;simp
  .let a:k'≠k:=λe=>hn.1 (by grind)
   simp only[a,decide_false];exact CQ hn.2 h
def EH{C4:fy (Key×V)}(v:V)(hn:(C4.map (·.1)).Nodup):((putK C4 k v).map (·.1)).Nodup:=by
 cases h:bD C4 k with
 |none=>exact QS v hn h
 |some y=>unfold putK;rw[gP,h];simp only[Option.isSome_some,if_true,List.map_map];rw[show((λx:Key×V=>x.1) ∘ λa:Key×V=>if a.1=k then(a.1,v) else a)=λx=>x.1 from funext λa=>by simp only[Function.comp];split <;> rfl];exact hn
structure cz(C4:fy (Key×V))(S:Z4->Z3):Z3 where
 nd:(C4.map (·.1)).Nodup
 uF:nX C4
 val:∀i,(bD C4 (Sum.inl i)).isSome=Z1↔S i
def cz.nil:cz [] (λ_=>False):={List.nodup_nil,nX.nil,λi=>{λh=>(by cases h),λh=>h.elim}}
def cz.put{C4:fy (Key×V)}{S:Z4->Z3}(h:cz C4 S)(d:Z4)(v:V):cz (putK C4 (Sum.inl d) v) (λi=>S i∨i=d):=by
 refine{EH _ h.nd,h.uF.put d _,λi=>?_};rw[c6];by_cases e:i=d
 .subst e;simp
 .rw[aiL λz=>e<|alv z,h.val i];simp[e]
abbrev wN:Z6:=PySem.Str.ofString "none"
abbrev wW:Z6:=PySem.Str.ofString "whole"
abbrev wS:Z6:=PySem.Str.ofString "since"
abbrev wL:Z6:=PySem.Str.ofString "last"
def SqB.len{K:Frag}{tu:Bool}{H:Hp}{l:jl}{xs:fy V}(h:SqB K tu H l xs):X0 K H l xs∨X3 K H l xs:=by
 cases tu
 .exact .inl h
 .exact .inr h
def SqB.same{K:Frag}{tu:Bool}{H H':Hp}{l:jl}{xs:fy V}(h:SqB K tu H l xs)(s:aj H H'):SqB K tu H' l xs:=by
 cases tu
 .exact s.seq h
 .rcases h with(h|⟨o,h⟩)|h
  .exact .inl (.inl<|s _ _ h)
  .exact .inl (.inr {o,s _ _ h})
  .exact .inr h
def kI(p:Z6->Bool):fy Z6->nt Z5
 |[]=>Z0
 |w::r=>if p w=Z1 then some r.length else kI p r
def br(p:Z6->Bool)(ws:fy Z6):nt Z5:=kI p ws.reverse
def eF(p:Z6->Bool)(ws:fy Z6)(w:Z6):br p (ws++[w])=if p w=Z1 then some ws.length else br p ws:=by grind [br,kI]
def BF:∀{ws:fy Z6},kI p ws=Z0↔∀ w∈ws,p w=Z2:=by intro x;induction x <;> grind [kI]
def ki:br p ws=Z0↔∀ w∈ws,p w=Z2:=by unfold br;rw[BF];simp
def isW(w:Z6):Bool:=decide (w=wW)
def isK(w:Z6):Bool:=decide (w≠wN)
def cF(a:Z4)(ws:fy Z6):fy Z6:=(if a=0 then [wN,wW] else [wW]) ++((if br isW ws=Z0 then [] else [wS]) ++(if br isK ws=Z0 then [] else [wL]))
def bP(C0:fy Z4)(ws:fy Z6):fy Z6:=match C0[ws.length]? with
 |none=>[]
 |some a=>cF a ws
structure cy(C4:fy (Key×V))(ws:fy Z6):Z3 where
 w:bD C4 (Sum.inr wW)=some (.int (-1))
 s:bD C4 (Sum.inr wS) =(br isW ws).map λi=>V.int (i:Z4)
 l:bD C4 (Sum.inr wL) =(br isK ws).map λi=>V.int (i:Z4)
 n:bD C4 (Sum.inr wN)=Z0
structure je(H:Hp)(L:fy jl)(xss:fy (fy Z4)):Z3 where
 len:L.length=xss.length
 get:∀(i:Z5)a xs,L[i]?=some a->xss[i]?=some xs->H a=some (.tup (xs.map Z8))
def je.keep(R:je H L xss)(h:∀t xs,H t=some (.tup xs)->H' t=some (.tup xs)):je H' L xss:=
 {R.len,λi a xs b c=>h _ _<|R.get i a xs b c}
def je.snoc(R:je H L xss)(h:H a=some (.tup (xs.map Z8))):je H (L++[a]) (xss++[xs]):=
 ⟨by simp[R.len],λi b ys c e=>by
  let l:=R.len;by_cases hi:i<L.length
  .rw[aiM hi] at c;rw[aiM o6] at e;exact R.get i b ys c e
  .rw[aiP o6] at c;rw[aiP o6] at e;let f:i-L.length=0:=by grind
   rw[f] at c;rw[show i-xss.length=0 by omega] at e;let c:a=b:=⇑c
   let e:xs=ys:=⇑e
   subst c e;exact h⟩
def tfs(a b c:jl):fy (Z6×V):=[("sizes",V.ref a),("weights",V.ref b),("rates",V.ref c)]
def aco:bq "weights" v [("sizes",x)] =([("sizes",x),("weights",v)]:fy (Z6×V)):=by rw[cL o4];rfl
def aa1:bq "rates" v [("sizes",x),("weights",y)] =([("sizes",x),("weights",y),("rates",v)]:fy (Z6×V)):=by rw[cL o4,cL o4];rfl
def j4:List.lookup ("sizes":Str) (tfs a b c)=some (V.ref a):=by grind [tfs]
def pS:List.lookup ("weights":Str) (tfs a b c)=some (V.ref b):=by unfold tfs;rw[ajo,show(("weights":Str) == "sizes")=Z2 by decide +kernel,ajo];simp
def ql:List.lookup ("rates":Str) (tfs a b c)=some (V.ref c):=by unfold tfs;rw[ajo,show(("rates":Str) == "sizes")=Z2 by decide +kernel,ajo,show(("rates":Str) == "weights")=Z2 by decide +kernel,ajo];simp
def fX(C:jl)(H:Hp)(p:jl)(C1:fy (fy Z4))(C0 C7:fy Z4):Z3:=
 ∃dx b a c TL,H p=some (.ins C dx<|tfs b a c)/\H b=some (.tup<|TL.map V.ref)/\je H TL C1/\H a=some (.tup<|C0.map Z8)/\H c=some (.tup<|C7.map Z8)
def fX.keep(h:fX C H p C1 C0 C7)(s:aj H H'):fX C H' p C1 C0 C7:=by let⟨dx,b,a,c,TL,h1,h2,h3,h4,h5⟩:=h;exact{dx,b,a,c,TL,s _ _ h1,s _ _ h2,h3.keep λt xs e=>s _ _ e,s _ _ h4,s _ _ h5}
def upK(b:H4 x=Z0)(a:H4 dx=Z0)(t:jl)(o':HO)(e:H4 t=some o'):Z9 (Z9 H4 dx (.own x)) x o t=some o':=by rwa[ak<|ao e b,ak<|ao e a]
def xP{X:Cx}{K:Frag}(e:X.K=K):dh X (.type "tuple") (jk K):=by subst e;exact d7
def cy.first:cy (putK [] (Sum.inr wW) (V.int (-1))) []:=by
 refine{?_,?_,?_,?_} <;> rw[c6]
 .rw[aiN rfl]
 .rw[aiL o4];rfl
 .rw[aiL o4];rfl
 .rw[aiL o4];rfl
def cy.whole(B:cy C4 ws):cy (putK (putK C4 (Sum.inr wS) (V.int ↥ws.length)) (Sum.inr wL) (V.int ↥ws.length)) (ws++[wW]):=by
 refine{?_,?_,?_,?_} <;> rw[c6]
 .rw[aiL o4,c6,aiL o4];exact B.w
 .rw[aiL o4,c6,aiN J,eF,aiN o4];rfl
 .rw[aiN J,eF,aiN o4];rfl
 .rw[aiL o4,c6,aiL o4];exact B.n
def cy.non(B:cy C4 ws):cy C4 (ws++[wN]):=by
 refine{B.w,?_,?_,B.n}
 .rw[eF,aiL o4];exact B.s
 .rw[eF,aiL o4];exact B.l
def cy.other{C4:fy (Key×V)}{ws:fy Z6}{w:Z6}(B:cy C4 ws)(h1:w≠wW)(h2:w≠wN):cy (putK C4 (Sum.inr wL) (V.int ↥ws.length)) (ws++[w]):=by
 let a:isW w=Z2:=ai1 h1;let b:isK w=Z1:=aiS h2;refine{?_,?_,?_,?_} <;> rw[c6]
 .rw[aiL o4];exact B.w
 .rw[aiL o4,eF,a];exact B.s
 .rw[aiN J,eF,b];rfl
 .rw[aiL o4];exact B.n
def cy.filter(B:cy C4 ws):([wW,wS,wL].filter λw=>(bD C4 (Sum.inr w)).isSome)=[wW] ++((if br isW ws=Z0 then [] else [wS]) ++(if br isK ws=Z0 then [] else [wL])):=by rw[amo,amo,amo,List.filter_nil,B.w,B.s,B.l];cases br isW ws <;> cases br isK ws <;> simp
def mq{xs:fy Z6}{j:Z5}(h:(xs.map V.str)[j]?=some y):∃n,xs[j]?=some n/\V.str n=y:=by grind
def kF(ws:fy Z6):(ws.map V.str).all kr=Z1:=by grind [kr]
def zJ(a:Z4)(ws:fy Z6):cF a ws≠[]:=by unfold cF;split <;> simp
inductive oX(K:Frag)(xs:fy V)(H:Hp)(Q:VK):Z3
 |m (a:jl) (ns:fy Z4)(_:xs=[.ref a])(_:X0 K H a (ns.map .int))(_:Q (.int ns.sum) H)
def An{X:Cx}(f:X.calm=Z1):dh X (.builtin "sum") (oX X.K):=by
 rintro X4 s σ H xs us Q I r ⟨a,ns,rfl,j,q⟩;let⟨u,rfl,g⟩:=vals1 r;cases (show u=Value.ref a from g);let⟨C5,h,pl,_⟩:=I.list j;let c:=alH h;let⟨zs,e⟩:=c.allInts.items;let b:=pl.isList;rw[e] at b;refine sum_intListG (I.ok.hd f) b λh' l t' i=>{.int ns.sum,H,I.kept i,{t',?_},q}
 let h1:numsOf C5=ns:=c.numsOf;let h2:numsOf (intItems zs).toList=zs.toList.map (·.1):=nums_intItems zs;rw[←e] at h2;let h3:zs.toList.map (·.1)=ns:=h2.symm.trans h1;rw[preSum_eq,ajA o8,h3]
def Hf{X:Cx}{K:Frag}(e:X.K=K):SlR X (Il K):=by subst e;exact fY
def QM{X:Cx}{K:Frag}(e:X.K=K):SlR X (Ij K):=by subst e;exact XD
def yE{K:Frag}{tu:Bool}{l:jl}(D:jl){xs:fy V}{g:TG}{tt:TT}{te:TE}{σ:St}{H:Hp}{R:Hp->Z3}(c:Z5->St->Hp->fy V->Z3)(h0:c 0 σ H [])(r:∀i σ H ys,c i σ H ys->SqB K tu H l xs)(hs:∀i x σ H ys T,xs[i]?=some x->c i σ H ys->H T=Z0->g (.ref T) σ (Z9 H T (.tup [.int ↥i,x])) λa o=>tt a o λb n=>if b=Z1 then
   te a n λy j=>j D=some (.lst ys)/\ys.length<Z7/\c (i+1) a (Z9 j D (.lst (ys++[y]))) (ys++[y]) else c (i+1) a n ys)(z:∀σ H ys,c xs.length σ H ys->R H) :
  ∃W:Z5->Z5->St->Hp->fy V->Z3,(∃m,W 0 m σ H [])/\∀i m σ' H' ys,W i m σ' H' ys->((Ite K tu l).stop i H'/\R H')∨
   ((Ite K tu l).go i H'/\∃N:St->Hp->fy V->Z3,(∀σ' H' f,N σ' H' f->∃q,q<m/\W (i+1) q σ' H' f)/\∀x H2,(Ite K tu l).yld i H' x H2->g x σ' H2 λa o=>tt a o λb n=>if b=Z1 then
    te a n λy j=>j D=some (.lst ys)/\ys.length<Z7/\N a (Z9 j D (.lst (ys++[y]))) (ys++[y])
    else N a n ys):=by
 exists λi m σ H ys=>m=xs.length-i/\i≤xs.length/\c i σ H ys,{xs.length,o8,ajb _,h0};rintro i m σ H ys ⟨rfl,hi,p⟩;let q1:=r i σ H ys p;by_cases h:i<xs.length
 .let ex:xs[i]?=some xs[i]:=aiG h;refine .inr {{xs,_,q1,ex},c (i+1),λσ' H' f u=>{xs.length -(i+1),o6,J,h,u},?_};rintro v H' ⟨T,x,t,rfl,rfl,s⟩;exact hs i x σ H ys T (s xs q1) p t
 .let e:i=xs.length:=by omega
  subst e;exact .inl {⟨xs,q1,J⟩,z σ H ys p}
def bOf(a:fy Z6)(w:Z6):nt Z4:=
 if w=wW then some (-1) else if w=wS then(br isW a).map (λi:Nat=>↥i) else if w=wL then(br isK a).map (λi:Nat=>↥i) else Z0
def L7(a:fy Z6):bOf a wN=Z0:=by unfold bOf;rw[aiL o4,aiL o4,aiL o4]
def EF(a:fy Z6):bOf a wW=some (-1):=by unfold bOf;rw[aiN rfl]
def Dz(a:fy Z6):bOf a wS =(br isW a).map (λi:Nat=>↥i):=by unfold bOf;rw[aiL o4,aiN rfl]
def Es(a:fy Z6):bOf a wL =(br isK a).map (λi:Nat=>↥i):=by unfold bOf;rw[aiL o4,aiL o4,aiN rfl]
def VW(ws:fy Z6):Z3:=∀(d:Z5)w,ws[d]?=some w->w=wN∨w=wW∨(w=wS/\br isW (ws.take d)≠Z0)∨(w=wL/\br isK (ws.take d)≠Z0)
def VW.nil:VW []:=λd w h=>by simp at h
def VW.snoc{f:Z4}(h:VW ws)(b:w∈cF f ws):VW (ws++[w]):=λd x e=>by
 by_cases g:d<ws.length
 .rw[aiM g] at e;rw[ajX o6];exact h d x e
 .rw[aiP o6] at e;let c:d-ws.length=0:=by grind
  rw[c] at e;let e:w=x:=⇑e
  subst e;let a:d=ws.length:=by omega
  subst a;rw[ajX o6,ai7];unfold cF at b;rcases aiX.mp b with h1|h1
  .grind
  .grind
def VW.four(h:VW ws){d:Z5}(e:ws[d]?=some w):w=wN∨w=wW∨w=wS∨w=wL:=by
 rcases h d w e with h|h|⟨h,_⟩|⟨h,_⟩
 .exact .inl h
 .exact .inr (.inl h)
 .grind
 .grind
def tW:∀{l:fy Z6}{i:Z5},kI p l=some i->i<l.length/\∃w,l.reverse[i]?=some w/\p w=Z1
 |[],i,h=>by simp[kI] at h
 |w::r,i,h=>by
  unfold kI at h;by_cases a:p w=Z1
  .rw[aiN a] at h;let h:=aiY h;subst h;refine{o8,w,?_,a};rw[al8,aiP o8];simp
  .rw[aiL a] at h;let⟨h1,x,h2,h3⟩:=tW h;refine{by simp;omega,x,?_,h3};rwa[al8,aiM (⇑h1)]
def tR{i:Z5}(h:br p ws=some i):i<ws.length/\∃w,ws[i]?=some w/\p w=Z1:=by unfold br at h;let⟨h1,w,h2,h3⟩:=tW h;rw[am1] at h2;rw[akW] at h1;exact⟨h1,w,h2,h3⟩
def bA(ws:fy Z6)(d:Z5):Z4:=((ws[d]?.bind λw=>bOf (ws.take d) w)).getD (-1)
def AU{d:Z5}(e:ws[d]?=some w):bA ws d =(bOf (ws.take d) w).getD (-1):=by unfold bA;rw[e];rfl
def Kept(ws:fy Z6)(d:Z5):Z3:=∃w,ws[d]?=some w/\w≠wN
def Gh{b:Z4}(h:bOf pre w=some b):b = -1∨∃i:Z5,b =↥i/\i<pre.length/\∃x,pre[i]?=some x/\x≠wN:=by
 unfold bOf at h;split at h
 .grind
 .split at h
  .let⟨i,h1,h2⟩:=ai9.mp h;let⟨c,x,e,a⟩:=tR h1;refine .inr {i,h2.symm,c,x,e,?_};let:x=wW:=ajm a;rw[this];decide +kernel
  .split at h
   .let⟨i,h1,h2⟩:=ai9.mp h;let⟨c,x,e,a⟩:=tR h1;exact .inr {i,h2.symm,c,x,e,ajm a}
   .cases h
def iA(ws:fy Z6)(d:Z5):bA ws d = -1∨∃i:Z5,bA ws d =↥i/\i<d/\Kept ws i:=by
 cases e:ws[d]? with
 |none=>left;unfold bA;rw[e];rfl
 |some w=>
  rw[AU e];cases h:bOf (ws.take d) w with
  |none=>exact .inl J
  |some b=>
   rcases Gh h with h1|⟨i,h1,h2,x,h3,h4⟩
   .exact .inl h1
   .rw[aiU] at h2;refine .inr {i,h1,o6,x,?_,h4};rwa[aj7 o6] at h3
def lW(ws:fy Z6)(d:Z5):bA ws d <↥d:=by rcases iA ws d with h|⟨i,h,h2,_⟩ <;> omega
def zZ(ws:fy Z6)(d:Z5):-1≤bA ws d:=by rcases iA ws d with h|⟨i,h,h2,_⟩ <;> omega
def VW.base(h:VW ws){d:Z5}(e:ws[d]?=some w)(hn:w≠wN):bOf (ws.take d) w=some (bA ws d):=by
 rw[AU e];rcases h d w e with h|h|⟨h,h2⟩|⟨h,h2⟩
 .exact absurd h hn
 .subst h;rw[EF];rfl
 .subst h;rw[Dz];cases q:br isW (ws.take d) with
  |none=>exact absurd q h2
  |some i=>rfl
 .subst h;rw[Es];cases q:br isK (ws.take d) with
  |none=>exact absurd q h2
  |some i=>rfl
def cy.get{C4:fy (Key×V)}{a:fy Z6}(B:cy C4 a){w:Z6}(h:w=wN∨w=wW∨w=wS∨w=wL):bD C4 (Sum.inr w) =(bOf a w).map Z8:=by
 rcases h with rfl|rfl|rfl|rfl
 .rw[B.n,L7];rfl
 .rw[B.w,EF];rfl
 .rw[B.s,Dz];cases br isW a <;> rfl
 .rw[B.l,Es];cases br isK a <;> rfl
def yh(ws:fy Z6)(d:Z5):V:=(((ws[d]?.bind λw=>bOf (ws.take d) w)).map Z8).getD .non
def xx{d:Z5}(e:ws[d]?=some w):yh ws d =((bOf (ws.take d) w).map Z8).getD .non:=by unfold yh;rw[e];rfl
def pW(ws:fy Z6):fy V:=(List.range ws.length).map<|yh ws
def wyF(f b:Z5->Z4):Z5->Z5->Z4
 |0,_=>0
 |k+1,d=>f d +(if b d<0 then 0 else wyF f b k (b d).toNat)
def uN{f b:Z5->Z4}(a:∀d,b d <↥d):∀d k,d<k->wyF f b k d=wyF f b (d+1) d
 |d,0,h=>absurd h<|akZ _
 |d,k+1,h=>by
  show f d +(if b d<0 then 0 else wyF f b k (b d).toNat)=f d +(if b d<0 then 0 else wyF f b d (b d).toNat);by_cases h0:b d<0
  .rw[aiN h0,aiN h0]
  .let c:=a d;rw[aiL h0,aiL h0,uN a (b d).toNat k o6,uN a (b d).toNat d o6]
termination_by d=>d
decreasing_by all_goals omega
def wy(f b:Z5->Z4)(d:Z5):Z4:=wyF f b (d+1) d
def wyI(f b:Z5->Z4)(i:Z4):Z4:=if i<0 then 0 else wy f b i.toNat
def afj{f b:Z5->Z4}(a:∀d,b d <↥d)(d:Z5):wy f b d=f d+wyI f b (b d):=by
 show f d +(if b d<0 then 0 else wyF f b d (b d).toNat)=f d +(if b d<0 then 0 else wy f b (b d).toNat);by_cases h0:b d<0
 .grind
 .rw[aiL h0,aiL h0];let c:=a d;rw[uN a (b d).toNat d o6];rfl
def sumTo(c:Z5->Z4):Z5->Z4
 |0=>0
 |k+1=>sumTo c k+c k
def yR(c:Z5->Z4):∀k,((List.range k).map c).sum=sumTo c k
 |0=>rfl
 |k+1=>by rw[akF,aja,List.sum_append,yR c k];simp[sumTo]
def szD(C1:fy (fy Z4))(ws:fy Z6)(d:Z5):Z4:=(C1.getD d []).getD (bA ws d+1).toNat 0
def xD(C1:fy (fy Z4))(r2 r3:Z4)(ws:fy Z6)(d:Z5):Z4:=r2+r3*szD C1 ws d
def cI(C1:fy (fy Z4))(r2 r3:Z4)(ws:fy Z6)(d:Z5):Z4:=wy (xD C1 r2 r3 ws) (bA ws) d
def gk(C1:fy (fy Z4))(r2 r3:Z4)(ws:fy Z6)(i:Z4):Z4:=wyI (xD C1 r2 r3 ws) (bA ws) i
def xE(C1:fy (fy Z4))(r2 r3:Z4)(ws:fy Z6)(d:Z5):cI C1 r2 r3 ws d =(r2+r3*szD C1 ws d)+gk C1 r2 r3 ws (bA ws d):=afj (lW ws) d
def yP(C1:fy (fy Z4))(r2 r3:Z4)(ws:fy Z6):gk C1 r2 r3 ws (-1)=0:=rfl
def nv(C1:fy (fy Z4))(r2 r3:Z4)(ws:fy Z6)(d:Z5):gk C1 r2 r3 ws ↥d=cI C1 r2 r3 ws d:=by unfold gk wyI;rw[aiL o6];rfl
def bB(C1:fy (fy Z4))(C0:fy Z4)(r0 r1 r2 r3:Z4)(ws:fy Z6)(d:Z5):Z4:=
 if ws[d]?=some wN then 0 else(r0+r1*(↥C1.length -↥d))*szD C1 ws d+C0.getD d 0*cI C1 r2 r3 ws d
def wc(ns:fy Z4)(m:Z4):Z3:=m∈ns/\∀ x∈ns,m≤x
def fW:fy Z4->Z4
 |[]=>0
 |[x]=>x
 |x::y::r=>if x≤fW (y::r) then x else fW (y::r)
def lI:∀{ns:fy Z4},ns≠[]->wc ns (fW ns)
 |[],h=>absurd J h
 |[x],_=>by
  refine{by simp[fW],λy b=>?_};let:y=x:=⇑b
  subst this;exact ajL _
 |x::y::r,_=>by
  let⟨h1,h2⟩:=lI (ns:=y::r) o8;show wc _ (if x≤fW (y::r) then x else fW (y::r));by_cases h:x≤fW (y::r)
  .rw[aiN h];refine{ajM ..,λz a=>?_};rcases aiV.mp a with rfl|a
   .exact ajL _
   .grind
  .rw[aiL h];refine{ai3 _ h1,λz a=>?_};rcases aiV.mp a with rfl|a
   .omega
   .exact h2 z a
def wc.eq{m:Z4}(h:wc ns m):m=fW ns:=by let hn:ns≠[]:=ans h.1;let⟨h1,h2⟩:=lI hn;exact Int.le_antisymm (h.2 _ h1)<|h2 _ h.1
inductive tO(K:Frag)(xs:fy V)(H:Hp)(Q:VK):Z3
 |m a ns(_:xs=[.ref a])(_:X3 K H a (ns.map .int))(_:ns≠[])(_:Q (.int (fW ns)) H)
def ES(F:X.calm=Z1):dh X (.builtin "min") (tO X.K):=by
 rintro X4 s σ H xs us Q I r ⟨a,ns,rfl,z,l,q⟩;let⟨u,rfl,O⟩:=vals1 r;cases (show u=Value.ref a from O);let⟨C5,S,pt,_⟩:=I.tuple z;let p:=alH S;let h:s.heap.IsTuple a C5.toArray:=pt;let g:a<(~~~s):=by let⟨o,e,_⟩:=h;exact aiO e
 let m:=uL p;let n:0<ns.length:=alS.mpr l;let c:∀i v,C5.toArray[i]?=some v->∃t,v=Value.int (ns.getD i 0) t:=λi v e=>p.int_at i v (⇑e)
 refine call_min_walk<|ak1 h {(~~~s),_,_,_,_,_,1,Walks.tuple (A:=X.A.in1) (I.ok.hd F) _ a (lO g<|aiK _) C5.toArray,{{_,aiW _ J,J,J},let ⟨o,e,r⟩:=h;{o,aiI _ e,r}},λb f=>?_,by simp;omega,CmpOf.ints_lt (λi=>ns.getD i 0) c,λv h' tk Y U=>?_}
 .show b <(s.heap.push _).objs.size;rw[aj0];simp only[List.mem_cons,List.not_mem_nil,or_false] at f;rcases f with rfl|rfl
  .exact aky _
  .exact akK g
 .let⟨t,rfl⟩:=c _ _ Y;let⟨b1,b2⟩:=argBest_lt (λi=>ns.getD i 0) (C5.toArray.size-1);let hsz:C5.toArray.size=ns.length:=by simp[m]
  refine{.int<|fW ns,H,I.kept λb o e=>U b o (λB=>?_)<|aiI _ e,{t,?_},q}
  .let:b=( ~~~s):=⇑B
   exact absurd (aiO e) (by rw[this];exact aj4 _)
  .congr 1;refine wc.eq {?_,λx C=>?_}
   .let f:argBest (λi j=>decide (ns.getD i 0<ns.getD j 0)) (C5.toArray.size-1)<ns.length:=by omega
    rw[ai0,aiG f,akA];exact ajF f
   .let⟨j,y⟩:=ajs.mp C;let L:j<ns.length:=(aiH.mp y).1;let:=b2 j o6;rw[show ns.getD j 0=x by rw[ai0,y];rfl] at this;exact this
def VN(C0:fy Z4)(ws:fy Z6):Z3:=∀d:Z5,ws[d]?=some wN->C0.getD d 0=0
def VN.nil:VN C0 []:=λd h=>by simp at h
def VN.snoc{b:Z4}(h:VN C0 ws)(c:C0[ws.length]?=some b)(f:w∈cF b ws):VN C0 (ws++[w]):=λd e=>by
 by_cases i:d<ws.length
 .rw[aiM i] at e;exact h d e
 .rw[aiP o6] at e;let g:d-ws.length=0:=by grind
  rw[g] at e;let e:w=wN:=⇑e
  let a:d=ws.length:=by omega
  subst a;rw[ai0,c,akA];unfold cF at f;rw[e] at f;let l:(wN=wW)=False:=eq_false o4;let j:(wN=wS)=False:=eq_false o4;let m:(wN=wL)=False:=eq_false o4;by_cases h0:b=0
  .exact h0
  .grind
def ud(C1:fy (fy Z4))(C0:fy Z4)(r0 r1 r2 r3:Z4)(d:Z5):Z4:=
 if C0.getD d 0>0 then(r0+r1*(↥C1.length -↥d))*fW (C1.getD d [])+C0.getD d 0*(r2+r3*fW (C1.getD d [])) else 0
def bdD(C1:fy (fy Z4))(C0:fy Z4)(r0 r1 r2 r3:Z4)(ws:fy Z6)(d:Z5):Z4:=
 if d<ws.length then bB C1 C0 r0 r1 r2 r3 ws d else ud C1 C0 r0 r1 r2 r3 d
def nC{c a:Z5->Z4}:∀{k:Z5},(∀d,d<k->c d=a d)->sumTo c k=sumTo a k
 |0,_=>rfl
 |k+1,h=>by show sumTo c k+c k=sumTo a k+a k;rw[nC (k:=k) λd b=>h d o6,h k o6]
def vB{c a:Z5->Z4}:∀{k:Z5},(∀d,d<k->c d≤a d)->sumTo c k≤sumTo a k
 |0,_=>ajL _
 |k+1,h=>by
  show sumTo c k+c k≤sumTo a k+a k;let:=vB (k:=k) λd b=>h d o6
  let:=h k o6;omega
def qR{c:Z5->Z4}:∀{k:Z5},(∀d,d<k->0≤c d)->0≤sumTo c k
 |0,_=>ajL _
 |k+1,h=>by
  show 0≤sumTo c k+c k;let:=qR (k:=k) λd a=>h d o6
  let:=h k o6;omega
def wJ{f b:Z5->Z4}(a:∀d,0≤f d):∀k d,0≤wyF f b k d
 |0,_=>ajL _
 |k+1,d=>by
  show 0≤f d +(if b d<0 then 0 else wyF f b k (b d).toNat);let h1:=a d;by_cases h0:b d<0
  .rw[aiN h0];omega
  .rw[aiL h0];let:=wJ (b:=b) a k (b d).toNat;omega
def yV{f b c a:Z5->Z4}{n:Z5}(h:∀e,e<n->f e=c e/\b e=a e)(g:∀d,b d <↥d):∀k d,d<n->wyF f b k d=wyF c a k d
 |0,_,_=>rfl
 |k+1,d,hd=>by
  let⟨h1,h2⟩:=h d hd;show f d +(if b d<0 then 0 else wyF f b k (b d).toNat)=c d +(if a d<0 then 0 else wyF c a k (a d).toNat);rw[h1,←h2];by_cases h0:b d<0
  .grind
  .rw[aiL h0,aiL h0];let i:=g d;rw[yV h g k (b d).toNat o6]
def wK{k d:Z5}(h:d<k):bA (ws.take k) d=bA ws d:=by unfold bA;rw[aj7 h,List.take_take,alL o6]
def Em{r0 r1 r2 r3:Z4}{k d:Z5}(h:d<k):bB C1 C0 r0 r1 r2 r3 (ws.take k) d=bB C1 C0 r0 r1 r2 r3 ws d:=by
 let b:∀e,e<k->szD C1 (ws.take k) e=szD C1 ws e:=λe a=>by unfold szD;rw[wK a]
 let c:cI C1 r2 r3 (ws.take k) d=cI C1 r2 r3 ws d:=by unfold cI wy;refine yV (n:=k) (λe a=>{?_,wK a}) (lW _) _ _ h;unfold xD;rw[b e a]
 unfold bB;rw[aj7 h,b d h,c]
def Itv(K:Frag)(a:jl)(n:Z5):It:=
 {λi H=>∃xs x,X0 K H a xs/\xs.length=n/\xs.reverse[i]?=some x,λi H x H'=>H'=H/\∀xs,X0 K H a xs->xs.reverse[i]?=some x,λi _=>i=n}
def Ri{α:Type}{xs:fy α}{i:Z5}{x:α}(h:xs.reverse[i]?=some x):i<xs.length/\xs[xs.length-1-i]?=some x:=by grind
def Iu{P:t6}{w:t7}{K:Frag}{tg:Expr}(a it:jl)(n:Z5):Turn P w K tg (Itv K a n) [it] it (λi h=>h.IsRevIter it a (↥n-1 -↥i)) where
 mem:=by simp
 obj:=λi h st b f=>by
  let e:b=it:=⇑f
  subst e;let⟨o,e,c,d⟩:=st;exact{o,e,λv z=>by rw[d] at z;cases z}
 keep:=λi h h' st k=>st.at λo e=>k it o8 o e
 item:=by
  intro X C y m O i X4 s σ H E I l st j;subst C y m;let⟨xs,x,L,hn,F⟩:=j;let⟨hi,t⟩:=Ri F;let⟨C5,rv,p,hz⟩:=I.list L;let⟨u,hu,ru⟩:=rv.get t;let⟨f0,f1,f2,q,A,r⟩:=l it o8;let B:↥n-1 -↥i =((xs.length-1-i:Z5):Z4):=by omega
  rw[B] at st;refine wpAny_pyNext_rev_item st p.isList (x:=u) (⇑hu) λh' g S=>?_
  let e1:((xs.length-1-i:Z5):Z4)-1 =↥n-1 -((i+1:Z5):Z4):=by omega
  rw[e1] at g;let U:Inv X X4 σ H {s with heap:=h'}:=I.turned (t':=s.toks) (λb o f e=>(S.2 b f).trans e) f0 f1 q A r;let⟨o,e,c,d⟩:=id g;exact{u,J,wH (s:={s with heap:=h'}) e c d o7 {x,H,U,ru,{J,λys hy=>by rwa[I.uz hy L]},g,λb f=>(l b f).1}}
 done:=by
  intro X C y m O i X4 s σ H E I l st j;subst C y m;let j:i=n:=j;subst j;let B:↥i-1 -↥i = -1:=by omega
  rw[B] at st;let⟨f0,f1,f2,q,A,r⟩:=l it o8;exact wpAny_pyNext_rev_end (I.ok.hd O) st λh' Y=>{J,I.turned (t':=s.toks) (λb o f e=>Y b o f e) f0 f1 q A r}
 self:=λ_ _ _ _ _ st h=>wpAny_pyIter_revIter st h
inductive EW(K:Frag)(R:It->Hp->Z3)(vs:fy V)(H1:Hp):Z3
 |m l xs(_:vs=[.ref l])(_:X0 K H1 l xs)(_:R (Itv K l xs.length) H1)
def air(K:Frag)(ta:TA):TI:=λσ H R=>ta σ H λvs H1=>EW K R vs H1
def WE{X:Cx}{tg a:Expr}{ta:TA}{p pos:Pos}(n:Gl X "reversed")(c:X.mg "reversed" = Z0)(r:PA X [a] ta)(hs:starEach [a] X.env=[(Z2,eval a X.env)]:=by rfl) :
  PI X tg (.Call (.Name "reversed" p) [a] [] pos) (air X.K ta):=by
 intro X4 s σ H R I h;refine Call_<|gO I n c boot_reversed<|ajt (thn (r pos X4 s σ H _ I h) λ us s1 ⟨vs,H1,I1,r1,q1⟩=>?_) hs J;let⟨l,xs,e,g,q⟩:=q1;subst e;let⟨u,rfl,i⟩:=vals1 r1;cases (show u=Value.ref l from i);let⟨C5,m,pl,v⟩:=I1.list g;let t:=m.length;refine call_reversed_list pl.isList ?_;let j:((C5.toArray.size:Z5):Z4)-1 =↥xs.length-1 -((0:Z5):Z4):=by simp;omega
 rw[j];let st:(s1.heap.push (revObj l (↥xs.length-1 -((0:Z5):Z4)))).IsRevIter (~~~s1) l (↥xs.length-1 -((0:Z5):Z4)):={_,aiW _ J,J,J};refine wpAny_pyIter_revIter (s:={s1 with heap:=s1.heap.push (revObj l<|↥xs.length-1 -((0:Z5):Z4))}) st ?_;refine{(~~~s1),[~~~s1],_,_,H1,J,I1.kept (t':=s1.toks) λb o e=>aiI _ e,Iu l _ xs.length,st,λb f=>?_,q};let e:b=( ~~~s1):=⇑f
 subst e;exact I1.nA (aiK _)<|I1.hok.fresh<|aiK _
def IE{K:Frag}{a:jl}(D:jl){xs:fy V}{g:TG}{tt:TT}{te:TE}{σ:St}{H:Hp}{R:Hp->Z3}(f:Z5->St->Hp->fy V->Z3)(h0:f 0 σ H [])(s:∀i σ H ys,f i σ H ys->X0 K H a xs)(hs:∀i x σ H ys,xs.reverse[i]?=some x->f i σ H ys->g x σ H λc o=>tt c o λb n=>if b=Z1 then
   te c n λy l=>l D=some (.lst ys)/\ys.length<Z7/\f (i+1) c (Z9 l D (.lst (ys++[y]))) (ys++[y]) else f (i+1) c n ys)(u:∀σ H ys,f xs.length σ H ys->R H) :
  ∃W:Z5->Z5->St->Hp->fy V->Z3,(∃m,W 0 m σ H [])/\∀i m σ' H' ys,W i m σ' H' ys->((Itv K a xs.length).stop i H'/\R H')∨
   ((Itv K a xs.length).go i H'/\∃N:St->Hp->fy V->Z3,(∀σ' H' h,N σ' H' h->∃r,r<m/\W (i+1) r σ' H' h)/\∀x H2,(Itv K a xs.length).yld i H' x H2->g x σ' H2 λc o=>tt c o λb n=>if b=Z1 then
    te c n λy l=>l D=some (.lst ys)/\ys.length<Z7/\N c (Z9 l D (.lst (ys++[y]))) (ys++[y])
    else N c n ys):=by
 exists λi m σ H ys=>m=xs.length-i/\i≤xs.length/\f i σ H ys,{xs.length,o8,ajb _,h0};rintro i m σ H ys ⟨rfl,hi,p⟩;let q:=s i σ H ys p;by_cases j:i<xs.length
 .let ex:xs.reverse[i]?=some (xs.reverse[i]'(⇑j)):=aiG _;refine .inr {{xs,_,q,J,ex},f (i+1),λσ' H' h t=>{xs.length -(i+1),o6,J,j,t},λx H' y=>?_};let⟨e,y⟩:=y;subst e;exact hs i x σ _ ys (y xs q) p
 .let e:i=xs.length:=by omega
  subst e;exact .inl {J,u σ H ys p}
inductive MN(K:Frag)(x:V)(y:V)(H:Hp)(Q:VK):Z3
 |m a b xs ys(_:x=.ref a)(_:y=.ref b)(_:X3 K H a xs)(_:H b=some (.tup ys))(_:ys≠[])(_:xs.length+ys.length≤Z7)(_:∀p H',H' p=some (.tup (xs++ys))->aj H H'->Q (.ref p) H')
def Ht{ws:fy mu}(q:IsTup s.heap t (#[]:sA mu))(m:IsTup s.heap b ws.toArray)(h1:Q (.ref b) s):wpAny (model prog w) A (binaryOp .Add (.ref t) (.ref b)) Q E s:=by
 let⟨⟨cls,dd,data,p⟩,h,i,n,j⟩:=id q;let⟨⟨l,g,data2,f⟩,e,a,o,c⟩:=id m;simp only at i j a c;subst i j a c;exact concat_meets {_,h,J} {_,e,J} amj seq_tuple_add alq alf (ak3 _ _)
   (tuple_addW0 t b #[] ws.toArray n o dd g p f o8) ⟨h,e,h1⟩
def Cv{X:Cx}{K:Frag}(e:X.K=K):OpR X (binaryOp .Add) (MN K):=by
 subst e;intro X4 s σ H x y v u Q I l n h;let⟨a,b,xs,ys,rfl,rfl,p,c,m,g,q⟩:=h;cases l;cases n;let⟨C5,r1,j,_⟩:=I.tuple p;let⟨i,r2,p2,_⟩:=I.tuple<|X3.of c;by_cases f:xs=[]
 .subst f;let:C5=[]:=r1.xu.mpr rfl;subst this;exact Ht j p2 {.ref b,H,I,J,q b H c<|aj.refl _}
 .refine HT.P9 j p2 (λz=>f<|r1.xu.mp z) (λz=>absurd (r2.xu.mp z) m) (λz=>?_) (by rwa[←r1.length,←r2.length]);refine{.ref (~~~s),_,I.laid (t':=s.toks) (o:=.tup (xs++ys)) (λb r q=>aiI _ q) (aiK _) ?_,J,q _ _ af<|aj.new<|I.hok.fresh<|aiK _};exact{by rwa[ajj],_,r1.append r2,IsTup.new _ _}
abbrev Lf:=fy Z6×Z4
def vL{α S L:Type}(g:α->S->fy L×S):fy α->S->fy L×S
 |[],s=>([],s)
 |a::r,s=>((g a s).1 ++(vL g r (g a s).2).1,(vL g r (g a s).2).2)
def qI{α S L:Type}(g:α->S->fy L×S):∀a b s,vL g (a++b) s =((vL g a s).1 ++(vL g b (vL g a s).2).1,(vL g b (vL g a s).2).2)
 |[],b,s=>by simp[vL]
 |x::r,b,s=>by show((g x s).1 ++(vL g (r++b) (g x s).2).1,(vL g (r++b) (g x s).2).2)=_;rw[qI g r b];simp[vL]
def Fy{α b S L:Type}(g:b->S->fy L×S)(f:α->b):∀a s,vL g (a.map f) s=vL (λx=>g (f x)) a s
 |[],s=>rfl
 |x::r,s=>by show((g (f x) s).1 ++(vL g (r.map f) (g (f x) s).2).1,(vL g (r.map f) (g (f x) s).2).2)=_;rw[Fy g f r];rfl
def rF(b:nt Lf)(c:Z4):Bool:=match b with|none=>false|some x=>decide (x.2≤c)
def visit(nx:fy Z6->fy Z6)(bd:fy Z6->Z4):Z5->fy Z6->nt Lf->fy Lf×nt Lf
 |0,_,b=>([],b)
 |f+1,ws,b=>if rF b (bd ws)=Z1 then([(ws,bd ws)],b) else if nx ws=[] then([(ws,bd ws)],some (ws,bd ws)) else vL (λw=>visit nx bd f<|ws++[w]) (nx ws) b
section
variable{nx:fy Z6->fy Z6}{bd:fy Z6->Z4}
structure fK(b:nt Lf)(lv:fy Lf)(b':nt Lf):Z3 where
 low:∀ l∈lv,∃x,b'=some x/\x.2≤l.2
 pos:b'=b∨∃(x:Lf)(j:Z5),b'=some x/\lv[j]?=some x/\(∀(i:Z5)l,i<j->lv[i]?=some l->x.2<l.2)/\∀y,b=some y->x.2<y.2
def fK.nil:fK b [] b:={λl h=>by simp at h,.inl J}
def fK.trans(h1:fK b l1 b1)(h2:fK b1 l2 b2):fK b (l1++l2) b2:=by
 exists λl a=>?_
 .rcases aiX.mp a with h|h
  .let⟨x,ex,s⟩:=h1.low l h;rcases h2.pos with e|⟨y,j,p,_,_,c⟩
   .grind
   .grind
  .exact h2.low l h
 .rcases h2.pos with e|⟨x,j,ex,f,n,c⟩
  .rcases h1.pos with r|⟨x,j,ex,f,n,c⟩
   .grind
   .let g:j<l1.length:=(aiH.mp f).1;refine .inr {x,j,e.trans ex,by rwa[aiM g],λi l hi a=>?_,c};rw[aiM o6] at a;exact n i l hi a
  .refine .inr {x,l1.length+j,ex,by rwa[aiP o6,Nat.add_sub_cancel_left],λi l hi a=>?_,λy p=>?_}
   .by_cases m:i<l1.length
    .rw[aiM m] at a;let⟨z,o,q⟩:=h1.low l<|aiQ a;let:=c z o;omega
    .grind
   .rcases h1.pos with r|⟨z,_,o,_,_,q⟩
    .grind
    .grind
def fK.list{α:Type}{g:α->nt Lf->fy Lf×nt Lf}(h:∀a b,fK b (g a b).1 (g a b).2):∀as b,fK b (vL g as b).1 (vL g as b).2
 |[],b=>fK.nil
 |a::r,b=>(h a b).trans<|fK.list h r _
def qm:∀(f:Z5)(ws:fy Z6)(b:nt Lf),fK b (visit nx bd f ws b).1 (visit nx bd f ws b).2
 |0,ws,b=>fK.nil
 |f+1,ws,b=>by
  unfold visit;split
  .rename_i a;refine{λl c=>?_,.inl J};let:l =(ws,bd ws):=⇑c
   subst this;cases b with
   |none=>cases a
   |some x=>exact{x,J,ajm a}
  .rename_i a;split
   .refine{λl c=>?_,.inr {(ws,bd ws),(0),J,J,λi l hi=>by omega,λy e=>?_}}
    .grind
    .subst e;let:¬y.2≤bd ws:=λz=>a (aiS z)
     show bd ws<y.2;omega
   .exact fK.list (λw b=>qm f (ws++[w]) b) (nx ws) b
def Cq{α:Type}{g:α->nt Lf->fy Lf×nt Lf}(h:∀a b,b≠Z0->(g a b).2≠Z0):∀as b,b≠Z0->(vL g as b).2≠Z0
 |[],b,hb=>hb
 |a::r,b,hb=>Cq h r _<|h a b hb
def fK.some(h:fK b lv b')(a:b≠Z0):b'≠Z0:=by
 rcases h.pos with e|⟨x,_,e,_⟩
 .rw[e];exact a
 .rw[e];simp
variable{n:Z5}(hn:∀ws,nx ws=[]↔n≤ws.length)
include hn
def Al:∀(f:Z5)(ws:fy Z6)(b:nt Lf),n<f+ws.length->0<f->(visit nx bd f ws b).1≠[]/\(visit nx bd f ws b).2≠Z0
 |0,ws,b,h,h0=>by omega
 |f+1,ws,b,h,h0=>by
  unfold visit;split
  .rename_i i;exists o8;cases b with
   |none=>cases i
   |some x=>simp
  .split
   .exact⟨o8,o8⟩
   .rename_i j;let l:ws.length<n:=by grind
    cases e:nx ws with
    |nil=>exact absurd e j
    |cons w r=>
     let c:=Al f (ws++[w]) b (by simp;omega) o6;exists λz=>?_
     .let z:(visit nx bd f (ws++[w]) b).1++_=[]:=z;exact c.1 (List.append_eq_nil_iff.mp z).1
     .exact Cq (λa b g=>(qm f (ws++[a]) b).some g) r _ c.2
end
def pile(nx:fy Z6->fy Z6)(bd:fy Z6->Z4)(n:Z5):fy (fy Z6)->nt Lf->fy Lf×nt Lf:=vL λws=>visit nx bd (n+1-ws.length) ws
def Hl{n:Z5}(h:ws.length≤n)(h1:rF b (bd ws)=Z2)(h2:nx ws≠[]) :
  pile nx bd n (ws::r) b=pile nx bd n ((nx ws).map (λw=>ws++[w])++r) b:=by
 obtain⟨f,a⟩:∃f,n+1-ws.length=f+1:={n-ws.length,o6};let e:visit nx bd (n+1-ws.length) ws b=vL (λws=>visit nx bd (n+1-ws.length) ws) ((nx ws).map (λw=>ws++[w])) b:=by rw[a,Fy];show(if rF b (bd ws)=Z1 then _ else if nx ws=[] then _ else vL (λw=>visit nx bd f<|ws++[w]) (nx ws) b)=_;rw[aiL (by rw[h1];simp),aiL h2];congr 1;funext w;rw[show n+1 -(ws++[w]).length=f by simp;omega]
 unfold pile;rw[qI,←e];rfl
def Ii{n:Z5}(h:ws.length≤n)(h1:rF b (bd ws)=Z1) :
  pile nx bd n (ws::r) b =((ws,bd ws) ::(pile nx bd n r b).1,(pile nx bd n r b).2):=by
 obtain⟨f,a⟩:∃f,n+1-ws.length=f+1:={n-ws.length,o6};let e:visit nx bd (n+1-ws.length) ws b =([(ws,bd ws)],b):=by rw[a];exact aiN h1
 unfold pile;simp only[vL,e];rfl
def EM{n:Z5}(h:ws.length≤n)(h1:rF b (bd ws)=Z2)(h2:nx ws=[]) :
  pile nx bd n (ws::r) b =((ws,bd ws) ::(pile nx bd n r (some (ws,bd ws))).1,(pile nx bd n r (some (ws,bd ws))).2):=by
 obtain⟨f,a⟩:∃f,n+1-ws.length=f+1:={n-ws.length,o6};let e:visit nx bd (n+1-ws.length) ws b =([(ws,bd ws)],some (ws,bd ws)):=by rw[a];show(if rF b (bd ws)=Z1 then _ else if nx ws=[] then _ else _)=_;rw[aiL (by rw[h1];simp),aiN h2]
 unfold pile;simp only[vL,e];rfl
def work(n:Z5):fy (fy Z6)->Z5
 |[]=>0
 |ws::r=>5 ^ (n+1-ws.length)+work n r
def fO(n:Z5):∀a b,work n (a++b)=work n a+work n b
 |[],b=>by simp[work]
 |x::r,b=>by simp only[List.cons_append,work,fO n r b,Nat.add_assoc]
def Aj(n:Z5):∀a,work n a.reverse=work n a
 |[]=>rfl
 |x::r=>by rw[al8,fO,Aj n r];simp only[work];omega
def yy{n:Z5}{ws:fy Z6}(h:ws.length<n):∀(nx:fy Z6),work n (nx.map (λw=>ws++[w]))=nx.length*5 ^ (n-ws.length)
 |[]=>by simp[work]
 |w::r=>by simp only[List.map_cons,work,yy h r,List.length_cons];rw[show n+1 -(ws++[w]).length=n-ws.length by simp,Nat.add_mul];omega
def uq(n:Z5):∀a,a.length≤work n a
 |[]=>aiK _
 |x::r=>by let:=uq n r;let:=anL (n:=n+1-x.length) (show 0<5 by omega);simp only[work,List.length_cons];omega
def Gi{n:Z5}{ws:fy Z6}{nx:fy Z6}(h:ws.length<n)(h4:nx.length≤4):work n (nx.map (λw=>ws++[w]))<5 ^ (n+1-ws.length):=by rw[yy h,show n+1-ws.length =(n-ws.length)+1 by omega,Nat.pow_succ];let:=anL (n:=n-ws.length) (show 0<5 by omega);let:=am3 (5 ^ (n-ws.length)) h4;omega
def pL(C0:fy Z4)(ws:fy Z6):bP C0 ws=[]↔C0.length≤ws.length:=by
 unfold bP;cases e:C0[ws.length]? with
 |none=>exact{λ_=>amg.mp e,λ_=>rfl}
 |some a=>exact{λh=>absurd h<|zJ a ws,λh=>by rw[ajv h] at e;cases e}
def BP(C0:fy Z4)(ws:fy Z6):(bP C0 ws).length≤4:=by
 unfold bP;split
 .simp
 .unfold cF;split <;> split <;> split <;> simp
def jD(h:w∈bP C0 ws):∃a,C0[ws.length]?=some a/\w∈cF a ws:=by
 unfold bP at h;split at h
 .simp at h
 .grind
def T9(H:Hp)(a:jl)(l:Lf):Z3:=∃t,H a=some (.tup [.ref t,.int l.2])/\H t=some (.tup<|l.1.map V.str)
def c7(H H':Hp):Z3:=∀t xs,H t=some (.tup xs)->H' t=some (.tup xs)
def c7.of(s:aj H H'):c7 H H':=λt xs e=>s _ _ e
def c7.trans(a:c7 H H')(b:c7 H' H''):c7 H H'':=λt xs e=>b _ _<|a _ _ e
def c7.lst(h:H l=some (.lst xs)):c7 H (Z9 H l (.lst ys)):=λt zs e=>by rw[ak λz=>by rw[z,h] at e;cases e];exact e
structure iQ(H:Hp)(LL:fy jl)(lv:fy Lf):Z3 where
 len:LL.length=lv.length
 get:∀(i:Z5)a l,LL[i]?=some a->lv[i]?=some l->T9 H a l
def iQ.mono(R:iQ H LL lv)(k:c7 H H'):iQ H' LL lv:=
 {R.len,λi a l b c=>let ⟨t,h1,h2⟩:=R.get i a l b c;{t,k _ _ h1,k _ _ h2}}
def iQ.nil:iQ H [] []:={J,λi a l e=>by simp at e}
def iQ.snoc(R:iQ H LL lv)(h:T9 H a l):iQ H (LL++[a]) (lv++[l]):=
 ⟨by simp[R.len],λi b m c e=>by
  let g:=R.len;by_cases hi:i<LL.length
  .rw[aiM hi] at c;rw[aiM o6] at e;exact R.get i b m c e
  .rw[aiP o6] at c;rw[aiP o6] at e;let f:i-LL.length=0:=by let:=(aiH.mp c).1;simp at this;omega
   rw[f] at c;rw[show i-lv.length=0 by omega] at e;simp at c e;subst c e;exact h⟩
structure dR(H:Hp)(PL:fy jl)(S:fy (fy Z6)):Z3 where
 len:PL.length=S.length
 get:∀(i:Z5)a ws,PL[i]?=some a->S[i]?=some ws->H a=some (.tup (ws.map V.str))
def dR.mono(R:dR H PL S)(k:c7 H H'):dR H' PL S:={R.len,λi a ws b c=>k _ _<|R.get i a ws b c}
def dR.nil:dR H [] []:={J,λi a l e=>by simp at e}
def dR.append(R:dR H PL S)(e:dR H PM S'):dR H (PL++PM) (S++S'):=
 ⟨by simp[R.len,e.len],λi b m c a=>by
  let f:=R.len;by_cases hi:i<PL.length
  .rw[aiM hi] at c;rw[aiM o6] at a;exact R.get i b m c a
  .rw[aiP o6] at c;rw[aiP o6] at a;rw[←f] at a;exact e.get _ b m c a⟩
def dR.one(h:H a=some (.tup (ws.map V.str))):dR H [a] [ws]:=
 ⟨J,λi b m c e=>by
  let f:i=0:=by grind
  subst f;simp at c e;subst c e;exact h⟩
def dR.last(R:dR H PL (S++[ws])):∃c a,PL=c++[a]/\dR H c S/\H a=some (.tup (ws.map V.str)):=by
 let b:=R.len;let e:PL≠[]:=λz=>by rw[z] at b;simp at b
 exists PL.dropLast,PL.getLast e,(List.dropLast_concat_getLast e).symm,{by simp at b;rw[List.length_dropLast];omega,λi a w f g=>?_}
 .let hi:i<PL.dropLast.length:=(aiH.mp f).1;let h1:PL[i]?=some a:=by grind
  let h2:(S++[ws])[i]?=some w:=by grind
  exact R.get i a w h1 h2
 .refine R.get (PL.length-1) _ ws ?_ ?_
  .grind
  .grind
def zw(H:Hp)(v c:V):nt Lf->Z3
 |none=>v=.non/\c=.non
 |some x=>∃t,v=.ref t/\H t=some (.tup<|x.1.map V.str)/\c=.int x.2
def zw.mono(h:zw H v c b)(k:c7 H H'):zw H' v c b:=by
 cases b with
 |none=>exact h
 |some x=>let⟨t,e,h,z⟩:=h;exact{t,e,k _ _ h,z}
def ahj{n:Z5}(h:n≤7):5 ^ (n+1)≤390625:=ai8 (Nat.pow_le_pow_right o6 (show n+1≤8 by omega)) o7
def x6{n:Z5}(h:n≤400000):n<Z7:=akk h o7
def Hs{k:Z5}(e:σ.set k (some x)=σ')(h:N σ' H):nk k x σ H N:=by subst e;exact h
def gK{c:TT}{t u:TS}{D:Ends}{σ:St}{H:Hp}(a:∀Q:Bool->Hp->Z3,Q Z2 H->c σ H Q)(h:u D σ H):vc c t u D σ H:=a _<|gb h
def gB{c:TT}{t u:TS}{D:Ends}{σ:St}{H:Hp}(a:∀Q:Bool->Hp->Z3,Q Z1 H->c σ H Q)(h:t D σ H):vc c t u D σ H:=a _<|fQ h
def AW{X:Cx}{K:Frag}(e:X.K=K):dh X (.builtin "isinstance") (iJ K):=by subst e;exact oh
open PySem PySem.Spec PyProof.Rows Builtin Builtin.Str
def oQ(x y:Z6):(x++y).cps.toList=x.cps.toList++y.cps.toList:=by show(x.cps++y.cps).toList=_;simp
def xV(x:Z6):x.cps.toList.length=x.length:=by simp[Str.length]
def wG{f b:Z5->Z4}{B:Z4}(c:0≤B)(a:∀d,f d≤B):∀k d,wyF f b k d≤↥k*B
 |0,_=>by show↥0≤_;simp
 |k+1,d=>by
  show f d +(if b d<0 then 0 else wyF f b k (b d).toNat)≤((k+1:Z5):Z4)*B;let h1:=a d;let h2:0≤↥k*B:=ajI o6 c;let e:((k+1:Z5):Z4)*B =↥k*B+B:=by rw[show((k+1:Z5):Z4) =↥k+1 from J,amK,Int.one_mul]
  rw[e];by_cases h0:b d<0
  .rw[aiN h0];omega
  .rw[aiL h0];let:=wG (b:=b) c a k (b d).toNat;omega
def qc{c:Z5->Z4}{B:Z4}(a:0≤B):∀{k:Z5},(∀d,d<k->c d≤B)->sumTo c k≤↥k*B
 |0,_=>by show↥0≤_;simp
 |k+1,h=>by
  show sumTo c k+c k≤((k+1:Z5):Z4)*B;let h1:=qc (k:=k) a λd b=>h d o6
  let h2:=h k o6;rw[show((k+1:Z5):Z4) =↥k+1 from J,amK,Int.one_mul];omega
def jc(xs:sA Z5):Z3:=∀(i j a b:Z5),xs[i]?=some a->xs[j]?=some b->i<j->a<b
def ua{xs:sA Z5}{j:Z5}(g:jc xs):∀(b lo hi:Z5),hi≤xs.size->hi-lo≤b->lo≤hi->(∀i a,i<lo->xs[i]?=some a->a<j)->(∀i a,hi≤i->xs[i]?=some a->j≤a) →
  ∃p,SetTable.below.go xs j b lo hi=p/\p≤xs.size/\(∀i a,i<p->xs[i]?=some a->a<j)/\(∀i a,p≤i->xs[i]?=some a->j≤a)
 |0,lo,hi,h1,h2,h3,h4,h5=>{lo,J,o6,h4,λi a c e=>h5 i a o6 e}
 |b+1,lo,hi,h1,h2,h3,h4,h5=>by
  unfold SetTable.below.go;by_cases m:lo<hi
  .rw[aiN m];dsimp only;let l:(lo+hi) / 2<xs.size:=by omega
   let em:xs[(lo+hi) / 2]?=some xs[(lo+hi) / 2]:=ajT l;let n:xs.getD ((lo+hi) / 2) j=xs[(lo+hi) / 2]:=by simp[Array.getD,l]
   rw[n];by_cases f:xs[(lo+hi) / 2]<j
   .rw[aiN f];refine ua g b _ hi h1 o6 o6 (λi a c e=>?_) h5;by_cases h:i =(lo+hi) / 2
    .rw[h,em] at e;cases e;exact f
    .exact alJ (g i _ a _ e em o6) f
   .rw[aiL f];refine ua g b lo _ o6 o6 o6 h4 λi a c e=>?_;by_cases h:i =(lo+hi) / 2
    .rw[h,em] at e;cases e;exact alz f
    .exact ajr (akk (alz f)<|g _ i _ a em e o6)
  .rw[aiL m];exact{lo,J,o6,h4,λi a c e=>h5 i a o6 e}
def uw(b:jc xs)(j:Z5):SetTable.below xs j≤xs.size/\(∀i a,i<SetTable.below xs j->xs[i]?=some a->a<j)/\(∀i a,SetTable.below xs j≤i->xs[i]?=some a->j≤a):=by let⟨p,e,h⟩:=ua (j:=j) b xs.size 0 xs.size (aiK _) o6 o6 (λi a h=>by omega) (λi a h e=>by rw[amL h] at e;cases e);let:SetTable.below xs j=p:=e;rwa[this]
def D4{xs:sA Z5}(b:jc xs){i a:Z5}(h:xs[i]?=some a):SetTable.below xs (a+1)=i+1:=by
 let⟨h1,h2,h3⟩:=uw b (a+1);let hi:i<xs.size:=(ajw.mp h).1;rcases al9 (SetTable.below xs (a+1)) (i+1) with z|z|z
 .exact absurd (h3 i a (Nat.le_of_lt_succ z) h) (Nat.not_succ_le_self a)
 .exact z
 .let e:xs[i+1]?=some (xs[i+1]'o6):=ajT o6;let u1:=h2 (i+1) _ z e;let u2:=b i (i+1) _ _ h e o6;omega
def DB(a:jc xs):SetTable.below xs 0=0:=by
 let⟨h1,h2,_⟩:=uw a 0;rcases ant (SetTable.below xs 0) with z|z
 .exact z
 .let e:xs[0]?=some (xs[0]'o6):=ajT o6;let:=h2 0 _ z e;omega
def Af{α:Type}(xs:sA α){p:Z5}(b:p≤xs.size)(x:α)(i:Z5):(SetTable.insertAt xs p x)[i]? = if i<p then xs[i]? else if i=p then some x else xs[i-1]?:=by
 rw[←ajW,SetTable.toList_insertAt];let a:(xs.toList.take p).length=p:=by rw[aiU];exact alL b
 by_cases h1:i<p
 .rw[aiN h1,aiM<|a.symm ▸ h1,aj7 h1,ajW]
 .let h2:=alz h1;rw[aiL h1,aiP<|a.symm ▸ h2,a];let⟨k,rfl⟩:=Nat.exists_eq_add_of_le h2;cases k with
  |zero=>simp
  |succ k=>rw[aiL o6,show p +(k+1)-p=k+1 by omega,amx,ak7,ajW];rfl
def B0{xs:sA Z5}(h:jc xs){j:Z5}(o:xs[SetTable.below xs j]?≠some j):jc (SetTable.insertAt xs (SetTable.below xs j) j):=by
 let⟨p,h1,h2⟩:=uw h j;let h3:∀i a,SetTable.below xs j≤i->xs[i]?=some a->j<a:=λi a hi e=>by
  let:=h2 i a hi e;rcases anu this with z|z
  .exact z
  .exfalso;subst z;rcases anu hi with y|y
   .let m:=ajT<|alJ y (ajw.mp e).1;exact aj4 _<|akk (h2 _ _ (aiK _) m)<|h _ _ _ _ m e y
   .rw[←y] at e;exact o e
 intro i k a b f c l;rw[Af xs p] at f c;by_cases g:i<SetTable.below xs j
 .rw[aiN g] at f;by_cases k1:k<SetTable.below xs j
  .rw[aiN k1] at c;exact h i k a b f c l
  .rw[aiL k1] at c;by_cases k2:k=SetTable.below xs j
   .rw[aiN k2] at c;cases c;exact h1 i a g f
   .rw[aiL k2] at c;exact alJ (h1 i a g f)<|h3 (k-1) b o6 c
 .rw[aiL g] at f;by_cases n:i=SetTable.below xs j
  .rw[aiN n] at f;cases f;rw[aiL o6,aiL o6] at c;exact h3 (k-1) b o6 c
  .rw[aiL n] at f;rw[aiL o6,aiL o6] at c;exact h (i-1) (k-1) a b f c o6
def HD(a:jc xs){j:Z5}(h:xs[SetTable.below xs j]?=some j):j∈xs.toList:=by grind
def vv:∀(m:Z5)(l:fy Z5),(∀j,j<m->j∈l)->m≤l.length
 |0,l,_=>ajb _
 |m+1,l,h=>by
  let a:=h m o6;let b:=vv m (l.erase m) λj c=>(List.mem_erase_of_ne o6).mpr<|h j o6
  rw[List.length_erase_of_mem a] at b;let:=List.length_pos_of_mem a;omega
def hop(N i:Z5):Z5:=(i*5+1) % N
def Eo(N:Z5):Z5->Z5->Z5
 |0,i=>i
 |m+1,i=>Eo N m<|hop N i
def AZ(N:Z5):Z5->Z5->Z5
 |0,_=>0
 |m+1,i=>(1 <<< i) ||| AZ N m (hop N i)
def Ae{N j:Z5}:∀m i,(AZ N m i).testBit j=Z1->∃k,k<m/\Eo N k i=j
 |0,i,h=>by simp[AZ] at h
 |m+1,i,h=>by
  unfold AZ at h;rw[Nat.testBit_or,Bool.or_eq_true] at h;rcases h with h|h
  .exists (0),o6;rw[Nat.testBit_shiftLeft] at h;simp only[Bool.and_eq_true,decide_eq_true_eq] at h;let⟨h1,h2⟩:=h;let:j-i=0:=by
    rcases ant (j-i) with z|z
    .exact z
    .rw[Nat.testBit_one_eq_true_iff_self_eq_zero] at h2;exact h2
   show i=j;omega
  .let⟨k,a,e⟩:=Ae m (hop N i) h;exact{k+1,o6,e}
def fJ(N:Z5):Bool:=(List.range N).all λi=>AZ N N i==2 ^ N-1
def Rz:fJ 8=Z1:=by decide +kernel
def Cw:fJ 32=Z1:=by decide +kernel
def AE:fJ 128=Z1:=by decide +kernel
def Gz{N:Z5}(h:fJ N=Z1){i j:Z5}(hi:i<N)(a:j<N):∃k,k<N/\Eo N k i=j:=by unfold fJ at h;rw[akg] at h;let:=h i<|ale.mpr hi;rw[amd] at this;refine Ae N i ?_;rw[this,Nat.testBit_two_pow_sub_one];exact aiS a
def adv(t:SetTable):Z5->SetTable.Probe->SetTable.Probe
 |0,p=>p
 |k+1,p=>adv t k<|t.advance p
def QD(t:SetTable):∀a b p,adv t (a+b) p=adv t b (adv t a p):=by intro x;induction x <;> grind [adv]
def oU(t:SetTable)(q:Z5×Z5)(d:nt Z5):SetTable.Probe:={j:=q.1,more:=SetTable.runEnd t.mask q.1-q.1,i:=q.1,perturb:=q.2,dummy:=d}
def Cp(t:SetTable):∀m p,p.more=m->adv t (m+1) p=oU t (SetTable.leap t.mask p.i p.perturb) p.dummy
 |0,p,h=>by show t.advance p=_;unfold SetTable.advance;rw[aiL o6];rfl
 |m+1,p,h=>by
  show adv t (m+1) (t.advance p)=_;let e:t.advance p={p with j:=p.j+1,more:=p.more-1}:=by unfold SetTable.advance;rw[aiN o6]
  rw[e,Cp t m _ (by grind)]
def eB(mask:Z5):Z5->Z5×Z5->Z5×Z5
 |0,q=>q
 |m+1,q=>eB mask m<|SetTable.leap mask q.1 q.2
def ahL(mask i:Z5):SetTable.runEnd mask i-i≤9:=by unfold SetTable.runEnd;split <;> omega
def yG(t:SetTable)(d:nt Z5):∀m q,∃k,k≤10*m/\adv t k (oU t q d)=oU t (eB t.mask m q) d
 |0,q=>{(0),o6,J}
 |m+1,q=>by let⟨k,a,e⟩:=yG t d m<|SetTable.leap t.mask q.1 q.2;exists (SetTable.runEnd t.mask q.1-q.1+1)+k,(by let:=ahL t.mask q.1;omega);rwa[QD,Cp t (SetTable.runEnd t.mask q.1-q.1) (oU t q d) rfl]
def yL(mask:Z5):∀a b q,eB mask (a+b) q=eB mask b (eB mask a q):=by intro x;induction x <;> grind [eB]
def yS(mask:Z5):∀m q,(eB mask m q).2=q.2 / 32 ^ m
 |0,q=>by simp[eB]
 |m+1,q=>by show(eB mask m<|SetTable.leap mask q.1 q.2).2=_;rw[yS mask m];show q.2 / 32 / 32 ^ m=_;rw[Nat.div_div_eq_div_mul,Nat.pow_succ,Nat.mul_comm]
def vz(mask:Z5):∀m i,eB mask m (i,0) =(Eo (mask+1) m i,0)
 |0,i=>rfl
 |m+1,i=>by
  show eB mask m (SetTable.leap mask i 0)=_;let e:SetTable.leap mask i 0 =(hop (mask+1) i,0):=by unfold SetTable.leap hop;simp
  rw[e,vz mask m];rfl
def CI(h:Z4):SetTable.bits h<2 ^ 64:=by unfold SetTable.bits;let h1:=aj3 h (show(2 ^ 64:Z4)≠0 by decide);let h2:=ajO h (show↥0<2 ^ 64 by decide);omega
def yH{mask:Z5}(a:fJ (mask+1)=Z1){q:Z5×Z5}(c:q.2<2 ^ 64){j:Z5}(f:j<mask+1):∃m,m<mask+15/\(eB mask m q).1=j:=by
 let b:(eB mask 13 q).2=0:=by rw[yS];exact Nat.div_eq_of_lt<|alJ c o7
 let l0:(eB mask 13 q).1<mask+1:=by rw[show(13:Z5)=12+1 from J,yL];show(_ % (mask+1))<_;exact amZ _ o6
 let⟨k,g,e⟩:=Gz a l0 f;exists 13+k,o6;rw[yL,show eB mask 13 q =((eB mask 13 q).1,0) from by rw[←b],vz];exact e
def HR{t:SetTable}(a:t.dummies=#[])(j:Z5):(t.slot j=.empty/\t.place[SetTable.below t.place j]?≠some j)∨(∃i,t.slot j=.live i)/\t.place[SetTable.below t.place j]?=some j:=by
 unfold SetTable.slot;by_cases h:t.place[SetTable.below t.place j]?=some j
 .grind
 .left;let h2:SetTable.has t.dummies j=Z2:=by rw[a];simp[SetTable.has]
  let h1:(t.place[SetTable.below t.place j]? == some j)=Z2:=⇑h
  simp only[h1,h2];exact⟨J,h⟩
def Fi(f:t.dummies=#[])(h:Z4):∀(a:Z5)(p:SetTable.Probe),p.dummy=Z0 →
  (∃j,SetTable.probe.go t (λ_=>h+1) h a p=some (.empty j Z0)/\t.place[SetTable.below t.place j]?≠some j)∨∀k,k<a->t.place[SetTable.below t.place (adv t k p).j]?=some (adv t k p).j
 |0,p,_=>.inr λk l=>by omega
 |a+1,p,hp=>by
  unfold SetTable.probe.go;rcases HR f p.j with⟨e,hn⟩|⟨⟨i,e⟩,g⟩
  .grind
  .rw[e];dsimp only;let c:((h+1:Z4)==h)=Z2:=by simp;omega
   rw[c];simp only[Bool.false_eq_true,↓reduceIte];let b:(t.advance p).dummy=Z0:=by unfold SetTable.advance;split <;> exact hp
   rcases Fi f h a (t.advance p) b with z|z
   .exact .inl z
   .refine .inr λk l=>?_
    cases k with
    |zero=>exact g
    |succ k=>exact z k o6
def EZ{t:SetTable}(n:t.dummies=#[])(l:jc t.place)(g:fJ (t.mask+1)=Z1)(hs:t.place.size≤t.mask)(h:Z4):∃j,t.freeSlot h=some (j,Z2)/\t.place[SetTable.below t.place j]?≠some j:=by
 let c:=Fi n h (10*SetTable.turns t.mask) (t.probeStart h) rfl;rcases c with⟨j,e,hn⟩|a
 .refine{j,?_,hn};unfold SetTable.freeSlot SetTable.probe;rw[e];rfl
 .exfalso;let f:=vv (t.mask+1) t.place.toList λj o=>by let⟨m,f,e⟩:=yH g (q:=(SetTable.bits h % (t.mask+1),SetTable.bits h)) (CI h) o;let⟨k,p,i⟩:=yG t Z0 m (SetTable.bits h % (t.mask+1),SetTable.bits h);let b:t.probeStart h=oU t (SetTable.bits h % (t.mask+1),SetTable.bits h) Z0:=rfl;let:=a k (by unfold SetTable.turns;omega);rw[b,i] at this;let this:t.place[SetTable.below t.place (eB t.mask m (SetTable.bits h % (t.mask+1),SetTable.bits h)).1]?=some (eB t.mask m (SetTable.bits h % (t.mask+1),SetTable.bits h)).1:=this;rw[e] at this;exact HD l this
  simp at f;omega
def Aq{mask:Z5}:∀a q,
  (∃j,SetTable.layClean.free mask owner a q.1 q.2=some j/\owner[j]?=some Z0)∨∀m,m<a->owner[(eB mask m q).1]?≠some Z0
 |0,q=>.inr λm c=>by omega
 |a+1,q=>by
  unfold SetTable.layClean.free;cases e:(List.range (SetTable.runEnd mask q.1+1-q.1)).find? λk=>(owner.getD (q.1+k) (some 0)).isNone with
  |some k=>
   left;let g:=List.find?_some e;exists q.1+k,J;by_cases b:q.1+k<owner.size
   .simp_all
   .grind
  |none=>
   dsimp only;rcases Aq a (SetTable.leap mask q.1 q.2) with z|z
   .exact .inl z
   .refine .inr λm c=>?_
    cases m with
    |succ m=>exact z m o6
    |zero=>intro h0;let:=List.find?_eq_none.mp e 0<|ale.mpr (by unfold SetTable.runEnd;split <;> omega);let h0:owner[q.1]?=some Z0:=h0;let b:q.1<owner.size:=(ajw.mp h0).1;let f:=(ajw.mp h0).2;simp[Array.getD,b,f] at this
def fE(owner:sA (nt Z5)):fy Z5:=owner.toList.filterMap id
def G5{l:fy (nt Z5)}(h:∀j,j<l.length->l[j]?≠some Z0):(l.filterMap id).length=l.length:=by
 induction l with
 |nil=>rfl
 |cons x r b=>
  let c:=h 0 o8;cases x with
  |none=>exact absurd J c
  |some a=>rw[show(some a::r).filterMap id=a::r.filterMap id from J,ajE,ajE,b λj e=>by let:=h (j+1) (by simp;omega);simpa using this]
def Qj{mask:Z5}{owner:sA (nt Z5)}(b:fJ (mask+1)=Z1)(hs:owner.size=mask+1)(a:(fE owner).length<mask+1){i p:Z5}(f:p<2 ^ 64):∃j,SetTable.layClean.free mask owner (SetTable.turns mask) i p=some j/\owner[j]?=some Z0:=by
 rcases Aq (mask:=mask) (owner:=owner) (SetTable.turns mask) (i,p) with z|z
 .exact z
 .exfalso;let c:=G5 (l:=owner.toList) λj g=>by let⟨m,h,e⟩:=yH b (q:=(i,p)) f (j:=j) (by simpa[hs] using g);let:=z m (by unfold SetTable.turns;omega);rw[e] at this;rwa[ajW]
  unfold fE at a;rw[c] at a;simp[hs] at a
def Ig{l:fy (nt Z5)}{j k:Z5}(h:l[j]?=some Z0):((l.set j (some k)).filterMap id).Perm (l.filterMap id++[k]):=by
 let c:j<l.length:=(aiH.mp h).1;let e:l=l.take j++Z0::l.drop (j+1):=by let b:l[j]=Z0:=(aiH.mp h).2;let:=alD j l;rw[akx c,b] at this;exact this.symm
 let a:l.set j (some k)=l.take j++some k::l.drop (j+1):=by grind
 rw[a]
 conv=>rhs;rw[e]
 simp only[List.filterMap_append];rw[show(some k::l.drop (j+1)).filterMap id=k ::(l.drop (j+1)).filterMap id from J,show(Z0::l.drop (j+1)).filterMap id =(l.drop (j+1)).filterMap id from J,akL];exact(amh _).mpr (List.perm_append_singleton _ _).symm
def AY{mask:Z5}(a:fJ (mask+1)=Z1):∀(hs:fy Z4)(owner:sA (nt Z5))(k:Z5),owner.size=mask+1->(fE owner).Perm (List.range k)->k+hs.length≤mask+1 →
  ∃o,hs.foldl (λacc h=>do
   let (owner,k) ←acc;let j ←SetTable.layClean.free mask owner (SetTable.turns mask) (SetTable.bits h % (mask+1)) (SetTable.bits h)
   pure (owner.setIfInBounds j (some k),k+1)) (some (owner,k))=some (o,k+hs.length)/\o.size=mask+1/\(fE o).Perm (List.range (k+hs.length))
 |[],owner,k,h1,h2,h3=>⟨owner,J,h1,h2⟩
 |h::r,owner,k,h1,h2,h3=>by
  let b:(fE owner).length<mask+1:=by rw[h2.length_eq,ama];simp at h3;omega
  let⟨j,g,l⟩:=Qj a h1 b (i:=SetTable.bits h % (mask+1))<|CI h;let c:(fE (owner.setIfInBounds j (some k))).Perm (List.range (k+1)):=by unfold fE;rw[Array.toList_setIfInBounds,akF];exact(Ig (by grind)).trans (h2.append_right _)
  let⟨o,e,s1,f⟩:=AY a r (owner.setIfInBounds j<|some k) (k+1) (⇑h1) c (by simp at h3;omega);refine{o,?_,s1,by rwa[ajE,show k +(r.length+1)=k+1+r.length by omega]};rw[amB];simp only[Option.bind_eq_bind,Option.bind_some,g];rwa[ajE,show k +(r.length+1)=k+1+r.length by omega]
def B5{mask:Z5}(b:fJ (mask+1)=Z1)(a:sA Z4)(hn:a.size≤mask):∃o,SetTable.layClean mask a=some o/\o.size=mask+1/\(fE o).Perm (List.range a.size):=by
 let h0:fE (Array.replicate (mask+1) Z0)=[]:=by unfold fE;simp
 let⟨o,e,h1,h2⟩:=AY b a.toList (Array.replicate (mask+1) Z0) 0 o8 (by rw[h0];exact .nil) (by simp;omega);rw[Nat.zero_add,ajS] at h2;refine{o,?_,h1,h2};unfold SetTable.layClean;rw[←Array.foldl_toList];rw[e];rfl
def nJ{α:Type}(f:α->Bool)(g:α->nt Z5)(a:∀x,f x =(g x).isSome):∀l:fy α,l.filterMap (λj=>(g j).map λ_=>j)=l.filter f
 |[]=>rfl
 |x::r=>by
  cases e:g x with
  |none=>rw[List.filterMap_cons_none (by rw[e];rfl),List.filter_cons_of_neg (by rw[a,e];simp),nJ f g a r]
  |some y=>rw[List.filterMap_cons_some (b:=x) (by rw[e];rfl),List.filter_cons_of_pos (by rw[a,e];rfl),nJ f g a r]
def QH{l:fy Z5}(h:l.Pairwise (· < ·)):jc l.toArray:=by intro i j a b f e c;simp only[List.getElem?_toArray] at f e;let⟨hi,n⟩:=aiH.mp f;let⟨g,m⟩:=aiH.mp e;let:=List.pairwise_iff_getElem.mp h i j hi g c;omega
def Qk{mask:Z5}(h:fJ (mask+1)=Z1)(a:sA Z4)(hn:a.size≤mask)(finger moves:Z5)(led plain:Bool) :
  ∃place b,SetTable.laid mask finger moves led plain a=some ({mask,place,dummies:=#[],finger,led,moves,plain},b)/\jc place/\place.size=a.size/\b.toList.Perm (List.range a.size):=by
 let⟨o,e,hs,g⟩:=B5 h a hn;exists _,_,by unfold SetTable.laid;rw[e];rfl,?_,?_
 .rw[alZ];let n:(λj=>Option.map (λx:Z5×Nat=>x.1) (Option.map (λy=>(j,y)) (o.getD j Z0)))=λj=>(o.getD j Z0).map λ_=>j:=by funext j;cases o.getD j Z0 <;> rfl
  rw[n,nJ (λj=>(o.getD j Z0).isSome) _ λ_=>rfl];exact QH<|List.pairwise_lt_range.filter _
 .let m:((List.range (mask+1)).filterMap λj=>(o.getD j Z0).map λy=>(j,y)).length =(fE o).length:=by
   rw[←aiE (f:=λx:Z5×Nat=>x.2)];rw[alZ];unfold fE;let c:o.toList =(List.range (mask+1)).map λj=>o.getD j Z0:=by
    refine aln λj=>?_
    rw[ajW,aiR];by_cases l:j<mask+1
    .simp_all
    .grind
   rw[c,alX];congr 2;funext j;simp only[Function.comp_apply,_root_.id];cases o.getD j Z0 <;> rfl
  simp only[List.size_toArray,List.length_map];rw[m,g.length_eq,ama]
 .let i:((List.range (mask+1)).filterMap λj=>(o.getD j Z0).map λy=>(j,y)).map (λx:Z5×Nat=>x.2)=fE o:=by
   rw[alZ];unfold fE;let c:o.toList =(List.range (mask+1)).map λj=>o.getD j Z0:=by
    refine aln λj=>?_
    rw[ajW,aiR];by_cases l:j<mask+1
    .simp_all
    .grind
   rw[c,alX];congr 1;funext j;simp only[Function.comp_apply,_root_.id];cases o.getD j Z0 <;> rfl
  show(((List.range (mask+1)).filterMap λj=>(o.getD j Z0).map λy=>(j,y)).map λx:Z5×Nat=>x.2).Perm _;rwa[i]
structure lQ(t:SetTable)(n:Z5)(L:Bool):Z3 where
 sz:t.place.size=n
 dm:t.dummies=#[]
 ri:jc t.place
 pl:t.plain=Z1
 ld:t.led=L
 ms:(t.mask=7/\n≤4)∨(t.mask=31/\n≤18)∨(t.mask=127/\n≤63)
def lQ.fits{n:Z5}(h:lQ t n L):t.fits n=Z1:=by unfold SetTable.fits SetTable.fill;rw[h.sz,h.dm];let:=h.ms;simp;omega
def lQ.fresh(L:Bool):lQ (.fresh 0 0 L) 0 L:={J,J,λi j a b h=>by simp[SetTable.fresh] at h,J,J,.inl ⟨J,o6⟩}
def lQ.cov{n:Z5}(h:lQ t n L):fJ (t.mask+1)=Z1:=by
 rcases h.ms with⟨e,_⟩|⟨e,_⟩|⟨e,_⟩ <;> rw[e]
 .exact Rz
 .exact Cw
 .exact AE
def kU{α:Type}(xs:sA α)(p:Z5)(x:α):(SetTable.insertAt xs p x).size=xs.size+1:=by rw[←ajS,(SetTable.insertAt_perm xs p x).length_eq];simp
def Fz{es:sA (Z4×mu)}{L:Bool}(T:lQ t es.size L)(hn:es.size<63)(h:Z4)(x:mu) :
  ∃a t',layNew t es h x =(a,t',Z2,Z2)/\a.size=es.size+1/\t'.place.size=es.size+1/\t'.dummies=#[]/\jc t'.place/\t'.plain=Z1/\t'.led=L/\t'.mask=t.mask:=by
 let⟨j,f,i⟩:=EZ T.dm T.ri T.cov (by let:=T.ms;let:=T.sz;omega) h;let hsz:=T.sz;let b:(SetTable.insertAt es (SetTable.below t.place j) (h,x)).size=es.size+1:=kU ..;let g:SetTable.has t.dummies j=Z2:=by rw[T.dm];simp[SetTable.has]
 let e:t.put j =({t with place:=SetTable.insertAt t.place (SetTable.below t.place j) j},SetTable.below t.place j):=by unfold SetTable.put;simp only[g];rfl
 let c:({t with place:=SetTable.insertAt t.place (SetTable.below t.place j) j}:SetTable).fits (es.size+1)=Z1:=by unfold SetTable.fits SetTable.fill;simp only[kU,T.dm,hsz];let:=T.ms;simp;omega
 refine{SetTable.insertAt es (SetTable.below t.place j) (h,x),{t with place:=SetTable.insertAt t.place (SetTable.below t.place j) j},?_,b,by show(SetTable.insertAt _ _ _).size=_;rw[kU,hsz],T.dm,B0 T.ri i,T.pl,T.ld,J};unfold layNew;rw[f];dsimp only;rw[e];dsimp only;unfold SetTable.orStandIn;rw[b,c];rfl
def HW{b mask:Z5}(i:SetTable.sizeAbove b-1=mask)(j:fJ (mask+1)=Z1)(hn:es.size≤mask) :
  ∃c t',relayAll t es b =(c,t',Z2)/\c.size=es.size/\t'.place.size=es.size/\t'.dummies=#[]/\jc t'.place/\t'.plain=t.plain/\t'.led=t.led/\t'.mask=mask:=by
 let⟨place,a,e,m,g,f⟩:=Qk j (es.map (·.1)) (⇑hn) t.finger (t.movedTo mask) t.led t.plain;rw[Array.size_map] at g f;let o:t.relaid (es.map (·.1)) b=some ({mask,place,dummies:=#[],finger:=t.finger,led:=t.led,moves:=t.movedTo mask,plain:=t.plain},a):=by unfold SetTable.relaid;rwa[i]
 let h:(a.filterMap (es[·]?)).size=es.size:=by rw[←ajS,Array.toList_filterMap,((f.filterMap _).trans (by rw[filterMap_getElem?_range])).length_eq];simp
 let n:coversAll a es.size=Z1:=List.isPerm_iff.mpr f;let l:({mask,place,dummies:=#[],finger:=t.finger,led:=t.led,moves:=t.movedTo mask,plain:=t.plain}:SetTable).fits es.size=Z1:=by unfold SetTable.fits SetTable.fill;simp[g];omega
 refine{a.filterMap (es[·]?),{mask,place,dummies:=#[],finger:=t.finger,led:=t.led,moves:=t.movedTo mask,plain:=t.plain},?_,h,g,J,m,J,J,J};unfold relayAll;rw[o];dsimp only;rw[h,n,l];rfl
def Vq:mu->Z4
 |.int n _=>n
 |_=>0
def j8(es:sA (Z4×mu)):fy Z4:=es.toList.map λe=>Vq e.2
def jr(prog:t6)(w:t7)(h:Heap)(a:jl)(b:fy Z4)(L:Bool):Z3:=
 ∃es ep t,h.get? a=some {.type "set",Z0,.set es ep t,#[]}/\ElemsOf (intKind prog w) es.toList/\(j8 es).Perm b/\lQ t es.size L/\es.size≤63
def AN(c:ElemsOf (intKind prog w) es.toList){k:Z4}:k∈j8 es↔∃ e∈es.toList,(intKind prog w).is k e.2=Z1:=by
 unfold j8;rw[ajd];constructor
 .rintro⟨e,a,rfl⟩;let⟨⟨g,f,_⟩,_⟩:=c e a;let⟨t,b⟩:=alj (show Value.isInt g e.2=Z1 from f);exact{e,a,by rw[b];exact intKind_is prog w _ t}
 .rintro⟨e,a,f⟩;let⟨t,b⟩:=alj (show Value.isInt k e.2=Z1 from f);exact{e,a,by rw[b];rfl}
def z9(es:sA (Z4×mu)):(j8 es).length=es.size:=by unfold j8;simp
section
variable{prog:t6}{w:t7}{A:Around}{E:mu->q8->Z3}{s:q8}
def vj{ep:Z5}(b:s.heap.get? a=some {.type "set",Z0,.set es ep t,#[]})(c:es'.size≤64)(h:∀h',Heap.SameBut a s.heap h'->h'.get? a=some {.type "set",Z0,.set es' (ep+1) t',#[]}->Q () {s with heap:=h'}):wpAny (model prog w) A (storeSet a es' t') Q E s:=by refine wpAny_storeSet_of b J (h _ (akc s.heap a _) ?_)<|ajr<|aF o6;let:=aju (Obj.putSet es' t') b (by rw[putSet_of es' t' rfl];rfl);rwa[putSet_of es' t' rfl] at this
def Hr{k:Z4}(hS:jr prog w s.heap a fm L)(v:(step_dedup fm k).length≤63)(h:∀b h',Heap.SameBut a s.heap h'->jr prog w h' a (step_dedup fm k) L->Q b {s with heap:=h'}) :
  wpAny (model prog w) A (setAddHashed a (.int k tk) (hashInt k)) Q E s:=by
 let⟨es,ep,t,Y,i,l,O,hsz⟩:=hS;let hf:=O.fits;let u:(Value.int k tk).scannable=Z1:=rfl;let n:(intKind prog w).is k (.int k tk)=Z1:=intKind_is prog w k tk;unfold setAddHashed setAddHashedIn;refine aka<|aiF<|alo Y J hf ?_;dsimp only;rw[byScan_of (knd:=intKind prog w) u (by unfold scanBound;omega) i];simp only[↓reduceIte];unfold setAddByScan;refine aiF ?_;refine aiF<|wpAny_rule ?_;refine aiF<|wpAny_setScan_of (knd:=intKind prog w) n Y J hf i ?_;cases hr:List.findIdx? (λe=>(intKind prog w).is k e.2) es.toList with
 |some j=>
  dsimp only;let⟨hj,a4,_⟩:=List.findIdx?_eq_some_iff_getElem.mp hr;let a0:k∈fm:=l.mem_iff.mp<|(AN i).mpr {_,ajF hj,a4};let r:step_dedup fm k=fm:=by unfold step_dedup;rw[aiN<|akR.mpr ⟨k,a0,o8⟩]
  rw[r] at h;refine aiJ<|aiJ ?_;let e:s={s with heap:=s.heap}:=by cases s;rfl
  rw[e];exact h _ s.heap (Heap.SameBut.refl a s.heap) ⟨es,ep,t,Y,i,l,O,hsz⟩
 |none=>
  dsimp only;let C:k∉fm:=λz=>by let⟨e,he,hp⟩:=(AN i).mp<|l.mem_iff.mpr z;let:=List.findIdx?_eq_none_iff.mp hr e he;rw[hp] at this;exact Bool.noConfusion this
  let r:step_dedup fm k=fm++[k]:=by
   unfold step_dedup;rw[aiL (λz=>by
    let⟨y,hy,e⟩:=akR.mp z;let:y=k:=⇑e
    exact C<|this ▸ hy)]
  rw[r] at h v;let a7:fm.length=es.size:=by rw[←l.length_eq,z9]
  let S:es.size<63:=by grind
  let g:=layNew_perm t es (hashInt k)<|.int k tk;let⟨f,x,e1,z1,z2,z3,z4,z5,z6,z7⟩:=Fz O S (hashInt k)<|.int k tk;let a8:layNew t es ((intKind prog w).hash k) (.int k tk) =(f,x,Z2,Z2):=e1;rw[e1] at g;dsimp only at g;rw[Array.toList_push] at g;let p:ElemsOf (intKind prog w) f.toList:=(i.push n u).perm g;let o:(j8 f).Perm (fm++[k]):=by unfold j8;refine(g.map _).trans ?_;rw[aja];exact l.append_right _
  let B:layNew t es (hashInt k) (.int k tk) =(f,x,Z2,Z2):=e1;rw[B];dsimp only;refine aiF<|aiJ ?_;rw[z5];simp only[↓reduceIte];rw[hashByValue_scannable 8 u];refine aiF<|aiJ ?_;simp only[plainKind,↓reduceIte];refine aiF (vj Y o6 λh1 F U=>?_);by_cases c:x.tooFull=Z1
  .rw[c];simp only[Bool.not_false,Bool.and_self,↓reduceIte];obtain⟨mask,hm,hc,a3,a5⟩:∃mask,SetTable.sizeAbove (SetTable.grown f.size)-1=mask/\fJ (mask+1)=Z1/\f.size≤mask/\((mask=7/\f.size≤4)∨(mask=31/\f.size≤18)∨(mask=127/\f.size≤63)):=by
    unfold SetTable.tooFull SetTable.fill at c;rw[z2,z3,z7] at c;let c:(es.size+1+0)*5≥t.mask*3:=ajm c;rcases O.ms with⟨q,H⟩|⟨q,H⟩|⟨q,H⟩
    .rw[q] at c;let:f.size=5:=by omega
     rw[this];exact{(31),o4,Cw,o6,o6}
    .rw[q] at c;let:f.size=19:=by omega
     rw[this];exact{(127),o4,AE,o6,o6}
    .grind
   let m:=relayAll_perm x f<|SetTable.grown f.size;let⟨a2,t2,e2,y1,y2,y3,y4,y5,y6,y7⟩:=HW (t:=x) (es:=f) hm hc a3;rw[e2] at m ⊢;dsimp only at m ⊢;refine aiF<|aiJ ?_;refine aiF (vj U o6 λh2 a1 a6=>?_);refine aiJ<|aiJ ?_;refine h _ h2 (F.trans a1) {a2,_,t2,a6,p.perm m,(m.map _).trans o,{y2.trans y1.symm,y3,y4,y5.trans z5,y6.trans z6,by rwa[y7,y1]},o6}
  .let c:x.tooFull=Z2:=⇑c
   rw[c];simp only[Bool.and_false,Bool.false_eq_true,↓reduceIte];refine aiJ<|aiJ ?_;refine h _ h1 F {f,_,x,U,p,o,{z2.trans z1.symm,z3,z4,z5,z6,?_},o6};unfold SetTable.tooFull SetTable.fill at c;rw[z2,z3,z7] at c;let c:¬(es.size+1+0)*5≥t.mask*3:=akG c;rw[z7,z1];rcases O.ms with⟨q,H⟩|⟨q,H⟩|⟨q,H⟩
   .grind
   .grind
   .right;right;omega
def jr.at(S:jr prog w h a fm L)(e:∀o,h.get? a=some o->h'.get? a=some o):jr prog w h' a fm L:=by grind [jr]
def tX(val:Z5->Z4):∀{i n:Z5},i≤n->(firstMet val i).length≤(firstMet val n).length
 |i,0,h=>by rw[show i=0 by omega];exact aiK _
 |i,n+1,h=>by
  by_cases e:i=n+1
  .grind
  .refine ai8 (tX val (show i≤n by omega)) ?_;rw[firstMet_succ,step_length];split <;> omega
def FZ{n:Z5}{P:Z5->mu->Z3}{St:Z5->q8->Z3}(W:WalksS prog w A.in1 I fp wr G n P St)(S:jl)(x:S∉fp)(val:Z5->Z4)(r:∀i v,P i v->∃t,v=.int (val i) t)(c:(firstMet val n).length≤63):∀k i s,n-i=k->i≤n->St i s->jr prog w s.heap S (firstMet val i) L →
   (∀s',Moved (S::wr) G s s'->jr prog w s'.heap S (firstMet val n) L->R (.ok (.ret .none)) s')->codeAny (model prog w) A (.builtin "set.update.loop" {[.ref S,.ref I],[]}) R s:=by
 let j:S∉wr:=λh=>x<|W.sub _ h
 let a:∀ b∈wr,b∈S::wr:=λb c=>ai3 _ c
 intro k
 induction k with
 |zero=>
  intro i s Y hi f F H;let B:i=n:=by omega
  subst B;refine aj8 ala ?_;rw[aj1 akm _];show wpAny _ A.in1 (pyNext (.ref I) >>= _) _ _ s;refine aiF (W.done s _ _ f λs' p=>?_);show wpAny _ A.in1 (ret Value.none) _ _ s';exact aiJ<|H s' (p.mono a) (F.at λo e=>p.heap S o j e)
 |succ k U=>
  intro i s Y hi f F H;let g:i<n:=by omega
  refine aj8 ala ?_;rw[aj1 akm _];show wpAny _ A.in1 (pyNext (.ref I) >>= _) _ _ s;refine aiF (W.item i s _ _ g f λv s' hP z p=>?_);let⟨t,rfl⟩:=r i v hP;let O:jr prog w s'.heap S (firstMet val i) L:=F.at λo e=>p.heap S o j e
  show wpAny _ A.in1 (holding [Value.int (val i) t] (setAdd S<|.int (val i) t) >>= _) _ _ s';refine aiF<|aka ?_;unfold setAdd;refine aka ?_;refine aiF<|(intKind prog w).pyHash (k:=val i) (intKind_is _ _ _ _) ?_;let y:=firstMet_succ val i;refine Hr (s:={s' with toks:=s'.toks+1}) O (by rw[←y];exact ai8 (tX val g) c) λb h' q l=>?_
  rw[←y] at l;refine aiJ {alw akm _,U (i+1) _ o6 g (W.frame _ s' _ _ z (akU _) λb c o e=>?_) l λC m u=>?_}
  .rw[q.2 b λh:b=S=>x (by rwa[←h])];exact e
  .refine H C (Moved.trans W.gtrans ((p.mono a).then_heap (akU _) λb o c e=>?_) m) u;rwa[q.2 b λh:b=S=>c (by grind)]
def Ia(a:mu)(h:Q₁ (.ref (~~~s)) {s with heap:=s.heap.push {.type "set",Z0,.set #[] 0 (.fresh 0 0 (!w.params.followText "set-order")),#[]}}) :
  codeAny (model prog w) A (.call (.builtin "set.__new__") {[.type "set",a],[]}) (wants Q₁ E) s:=by
 refine codeAny_of_tree ?_;show wpAny _ A.in1 (do checkBuiltinCall "set.__new__" {[.type "set",a],[]};again<|.builtin "set.__new__" {[.type "set",a],[]}) _ _ s;refine aiF<|alu (PySem.F.newCall_set_1 a)<|aiJ {alw amR _,aj8 PySem.F.entry_set_new ?_};rw[aj1 amR _];unfold Builtin.«set.__new__» Builtin.Frozenset.newClass;let b:=sub_set_self;let⟨c,g,d,e,os⟩:=s;dsimp only
 wp_walk
 refine akS<|aiJ ?_;dsimp only;simp only[newObj];refine aiF<|wpAny_alloc<|aiJ ?_;exact aiJ h
set_option maxHeartbeats 6400000 in
theorem Fq(hh:A.handled=Z0)(hl:s.heap.IsList l items)(hi:IntsAre items.toList ns)(U:(firstMet (λi=>ns.getD i 0) items.size).length≤63)(h:∀h' tk,jr prog w h' (~~~s) (firstMet (λi=>ns.getD i 0) items.size) (!w.params.followText "set-order")->(∀b o,b<~~~s->s.heap.get? b=some o->h'.get? b=some o)->Q (.ref (~~~s)) {s with heap:=h',toks:=tk}) :
  wpAny (model prog w) A (call (.type "set") [.ref l]) Q E s:=by
 let⟨c,tl,ac⟩:=ajY.mro;let a5:=ajY.made;let ab:=ajY.sub;refine amY<|codeAny_of_tree ?_;show wpAny _ _ (callAny (.type "set") _) _ _ _;refine aiJ {Code.quiet_builtin _ o4,aj8 PySem.F.entry_type_call ?_};rw[Around.under_plain (weight_type_call_type "set" [.ref l] []) rfl];let h1:=ajY.notType;let h2:=ajY.canCreate;let ar:=PySem.F.typeCall_set_1<|.ref l
 repeat (any_goals (first|assumption|wp_step))
 obtain⟨led,m⟩:∃led:Bool,led=!w.params.followText "set-order":={1};refine akN (Ia (.ref l) (E:=E) (Q₁:=λobj g=>obj=.ref (~~~s)/\g={s with heap:=s.heap.push {.type "set",Z0,.set #[] 0 (.fresh 0 0 led),#[]}}) {J,by rw[m]}) λr g hr=>?_
 cases r with
 |error e=>exact hr
 |ok fl=>
  cases fl with
  |ret obj=>
   let⟨rfl,rfl⟩:=hr;let hS:(s.heap.push {.type "set",Z0,.set #[] 0 (.fresh 0 0 led),#[]}).get? (~~~s)=some {.type "set",Z0,.set #[] 0 (.fresh 0 0 led),#[]}:=aiW _ rfl;let hT:Shared.TypeIs {s with heap:=s.heap.push {.type "set",Z0,.set #[] 0 (.fresh 0 0 led),#[]}} (.ref (~~~s)) "set":={_,hS,J};let am:=ajY.init.lookup;let ag:=ajY.init.bind<|.ref (~~~s)
   repeat (any_goals (first|assumption|wp_step))
   refine akN (codeAny_call_builtin (R:=wants (λr j=>r=.none/\∃h' tk,j={s with heap:=h',toks:=tk}/\jr prog w h' (~~~s) (firstMet (λi=>ns.getD i 0) items.size) (!w.params.followText "set-order")/\(∀b o,b<~~~s->s.heap.get? b=some o->h'.get? b=some o)) E) ajY.init.plain PySem.F.entry_set_init<|check_set_init_1 hT ?_) λS j a=>?_
   .let⟨ol,H,y,nl,O⟩:=hl;let⟨a8,p,a0,f⟩:=ol;simp only at y O;subst y;subst O;let u:(s.heap.push {.type "set",Z0,.set #[] 0 (.fresh 0 0 led),#[]}).get? l=some {.type "list",p,.seq items nl,f}:=aiI _ H;let a9:=PySem.F.sub_list_set;let a7:=PySem.F.sub_list_frozenset;let al:(Value.type "list" == Value.type "dict")=Z2:=by decide
    let x:(s.heap.push {.type "set",Z0,.set #[] 0 (.fresh 0 0 led),#[]}).IsList l items:={_,u,J,nl,J};unfold Builtin.«set.__init__» noKeywords Builtin.Frozenset.updateFrom;generalize hPI:pyIter=PI
    wp_walk
    subst hPI;refine alk x ?_;refine aiF<|wpAny_runValue ?_;let B:l<(~~~s):=aiO H;let a2:A.in1.in1.in1.handled=Z0:=by simp[hh]
    let z:l≠(s.heap.push {.type "set",Z0,.set #[] 0 (.fresh 0 0 led),#[]}).objs.size:=by rw[aj0];exact ajq<|akK B
    let a4:( ~~~s)∉[(s.heap.push {.type "set",Z0,.set #[] 0 (.fresh 0 0 led),#[]}).objs.size,l]:=by rw[aj0];simp only[List.mem_cons,List.mem_singleton,List.not_mem_nil,or_false,not_or];exact{ajq<|aky _,akM B}
    let C:∀(i:Z5)(v:mu),items[i]?=some v->∃t,v=.int ((λi=>ns.getD i 0) i) t:=λi v hv=>IntsAre.int_at hi i v (by grind)
    refine FZ (L:=!w.params.followText "set-order") ((Walks.list a2 _ l z items).toS) (~~~s) a4 (λi=>ns.getD i 0) C U (items.size-0) 0 _ o6 (ajb _) {{_,aiW _ J,J,J},(x.push _)} ?hS0 ?hR
    case hS0=>exact{#[],(0),_,aiI _ hS,λe he=>by simp at he,.nil,by rw[←m];exact lQ.fresh _,o8}
    case hR=>
     intro s' Y q;let⟨h',g',d',a1,a3⟩:=s';let eg:g'=s.gens:=Y.gens;let ed:d'=s.drawn:=Y.drawn;let eo:a3=s.os:=Y.os;subst eg;subst ed;subst eo;show wpAny _ _ _ _ _ _;refine aiJ ?_;show wpAny _ _ (ret Value.none) _ _ _;refine aiJ {J,h',a1,J,q,λb o U e=>?_};let an:b≠(~~~s):=ajq U;let ae:b≠(s.heap.push {.type "set",Z0,.set #[] 0 (.fresh 0 0 led),#[]}).objs.size:=by rw[aj0];exact ajq<|akK U
     exact Y.heap b o (by grind)<|aiI _<|aiI _ e
   .cases S with
    |error e=>exact a
    |ok n=>
     cases n with
     |ret r=>
      let⟨rfl,h',tk,rfl,q,a6⟩:=a
      repeat (any_goals (first|assumption|wp_step))
      exact h _ _ q a6
     |_=>exact a.elim
  |_=>exact hr.elim
end
structure rO(t:SetTable)(n:Z5)(L:Bool):Z3 where
 sz:t.place.size=n
 ri:jc t.place
 pl:t.plain=Z1
 ld:t.led=L
 fits:t.fits n=Z1
def lQ.w{t:SetTable}{n:Z5}{L:Bool}(h:lQ t n L):rO t n L:=⟨h.sz,h.ri,h.pl,h.ld,h.fits⟩
def MZ(prog:t6)(w:t7)(h:Heap)(a:jl)(b:fy Z4)(L:Bool):Z3:=
 ∃es ep t,h.get? a=some {.type "set",Z0,.set es ep t,#[]}/\ElemsOf (intKind prog w) es.toList/\(j8 es).Perm b/\rO t es.size L/\es.size≤63
def jr.w{prog:t6}{w:t7}{h:Heap}{a:jl}{f:fy Z4}{L:Bool}(S:jr prog w h a f L):MZ prog w h a f L:=let ⟨es,ep,t,a,b,c,d,e⟩:=S;⟨es,ep,t,a,b,c,d.w,e⟩
def Di{α:Type}(next:Z5->Z5):∀(b k:Z5)(a:fy α)(out:sA α),a.length=b->(pickOrder.go next b k a out).toList.Perm (out.toList++a)
 |0,k,a,out,h=>by let:a=[]:=alh.mp h;subst this;unfold pickOrder.go;simp
 |b+1,k,a,out,h=>by
  unfold pickOrder.go;let c:next k % a.length<a.length:=amZ _ o6
  rw[aiG c];dsimp only;refine(Di next b (k+1) _ _ (by grind)).trans ?_;rw[Array.toList_push,akL];refine(amh _).mpr ?_;rw[List.eraseIdx_eq_take_drop_succ];let e:a=a.take (next k % a.length)++a[next k % a.length]::a.drop (next k % a.length+1):=by simp_all
  conv=>rhs;rw[e]
  show(a[next k % a.length] ::(a.take (next k % a.length)++a.drop (next k % a.length+1))).Perm _;exact amm.symm
def GO{α:Type}(next:Z5->Z5)(xs:sA α):(pickOrder next xs).toList.Perm xs.toList:=by
 unfold pickOrder;let:=Di next xs.size 0 xs.toList #[] o8
 simpa using this
def fG(w:t7)(d:jl)(ep:Z5)(es:sA (Z4×mu)):sA (Z4×mu):=if w.params.followText "set-order" = Z1 then pickOrder (w.params.setOrder d ep) es else es
def oi(w:t7)(d:jl)(ep:Z5)(es:sA (Z4×mu)):(fG w d ep es).toList.Perm es.toList:=by
 unfold fG;split
 .exact GO _ _
 .exact .rfl
def nB(w:t7)(d:jl)(ep:Z5)(es:sA (Z4×mu)):(fG w d ep es).size=es.size:=by rw[←ajS,(oi w d ep es).length_eq,ajS]
def slotAt(w:t7)(t:SetTable)(i:Z5):Z5:=if w.params.followText "set-order" = Z1 then 0 else match i with
 |0=>0
 |k+1=>t.place.getD k 0+1
inductive iO(h:Heap)(I d:jl)(first i n ep:Z5):Z3
 |m o(_:h.get? I=some o)(_:o.cls=.type "set_iterator")(_:o.data=.fields #[rawInt first,rawInt i,.ref d,rawInt n,rawInt ep])
def n9(h:Heap)(d:jl)(es:sA (Z4×mu))(ep:Z5)(t:SetTable):Z3:=h.get? d=some {.type "set",Z0,.set es ep t,#[]}
section
variable{prog:t6}{w:t7}{A:Around}{E:mu->q8->Z3}{s:q8}
def tP{d:jl}{es:sA (Z4×mu)}{ep:Z5}{t:SetTable}(q:n9 s.heap d es ep t)(c:rO t es.size (!w.params.followText "set-order")){i:Z5}{Q:nt (mu×Z5)->q8->Z3}(h:∀r,(match (fG w d ep es)[i]? with|some e=>r=some (e.2,slotAt w t (i+1))|none=>r=Z0)->Q r s)(hi:i≤es.size) :
  wpAny (model prog w) A (setNext d (slotAt w t i) i ep) Q E s:=by
 let o:=c.fits;refine aiF<|alo q J o ?_;refine aiF<|aiF<|akS<|aiJ ?_;by_cases b:w.params.followText "set-order" = Z1
 .let a:(model prog w).w.params.followText "set-order" = Z1:=b;simp only[a,↓reduceIte];simp only[bne_self_eq_false,Bool.false_eq_true,↓reduceIte];refine aiF ?_;refine aiF<|alo q J o ?_;refine aiF<|aiF<|akS<|aiJ ?_;simp only[a,↓reduceIte];refine aiF<|akS<|aiJ ?_;refine aiJ<|h _ ?_;unfold fG slotAt;simp only[b,↓reduceIte];cases e:(pickOrder (w.params.setOrder d ep) es)[i]? with
  |none=>have g:(pickOrder ((model prog w).w.params.setOrder d ep) es)[i]? = Z0:=e;rw[g];rfl
  |some x=>have g:(pickOrder ((model prog w).w.params.setOrder d ep) es)[i]?=some x:=e;rw[g];rfl
 .let b:w.params.followText "set-order" = Z2:=⇑b
  let a:(model prog w).w.params.followText "set-order" = Z2:=b;simp only[a,Bool.false_eq_true,↓reduceIte];let n:=c.pl;let l:t.led=Z1:=by rw[c.ld,b];rfl
  show wpAny _ _ (if (!t.plain&&decide (es.size>1))=Z1 then _ else _) _ _ _;rw[n];simp only[Bool.not_true,Bool.false_and,Bool.false_eq_true,↓reduceIte];show wpAny _ _ ((if (!t.led&&!es.isEmpty)=Z1 then _ else _) >>= _) _ _ _;rw[l];simp only[Bool.not_true,Bool.false_and,Bool.false_eq_true,↓reduceIte];refine aiF<|aiJ ?_;refine aiJ<|h _ ?_;let v:fG w d ep es=es:=by grind [n9,fG,slotAt]
  let f:∀j,slotAt w t j=match j with|0=>0|k+1=>t.place.getD k 0+1:=λj=>by unfold slotAt;rw[aiL (by rw[b];simp)]
  let hsz:=c.sz;let m:SetTable.below t.place (slotAt w t i)=i:=by
   rw[f];cases i with
   |zero=>exact DB c.ri
   |succ k=>
    let p:k<t.place.size:=by omega
    let y:t.place[k]?=some t.place[k]:=ajT p;show SetTable.below t.place (t.place.getD k 0+1)=k+1;rw[show t.place.getD k 0=t.place[k] by simp[Array.getD,p]];exact D4 c.ri y
  rw[v,m,f];by_cases u:i<es.size
  .simp_all
  .grind
namespace FS
def Am:Manifest.owners.lookup (String.ofList ['r','o','t','a','r','e','t','i','_','t','e','s'].reverse)=some Manifest.sig_set_iterator:=by kernel_rfl
def gf:Slot "set_iterator" "__next__" "set_iterator.__next__" :=
 .of (owner:="set_iterator") (n:="__next__") (by rw[alM,akP];kernel_rfl) o4 o4 o4
  (by first|exact .inl o4|exact .inr o4) (by rw[amS];kernel_rfl)
def qC:entryFor table "set_iterator.__next__" = some Builtin.«set_iterator.__next__»:=entryFor_of_tree (by kernel_rfl)
def rV(a:mu):argsOk "set_iterator.__next__" ⟨[a],[]⟩:=by unfold argsOk;rw[signature?_of (id:="set_iterator.__next__") (n:=['_','_','t','x','e','n','_','_']) (o:=['r','o','t','a','r','e','t','i','_','t','e','s']) (by kernel_rfl) Am];kernel_rfl
def sq:Slot "set_iterator" "__iter__" "set_iterator.__iter__" :=
 .of (owner:="set_iterator") (n:="__iter__") (by rw[alM,akP];kernel_rfl) o4 o4 o4
  (by first|exact .inl o4|exact .inr o4) (by rw[amS];kernel_rfl)
def AL(a:mu):argsOk "set_iterator.__iter__" ⟨[a],[]⟩:=by unfold argsOk;rw[signature?_of (id:="set_iterator.__iter__") (n:=['_','_','r','e','t','i','_','_']) (o:=['r','o','t','a','r','e','t','i','_','t','e','s']) (by kernel_rfl) Am];kernel_rfl
def zq:entryFor table "set_iterator.__iter__" = some Builtin.«dict_keyiterator.__iter__» :=
 entryFor_alias (id':="dict_keyiterator.__iter__") (by kernel_rfl) (by first|rfl|decide +kernel|(unfold String.splitOn;simp +decide [String.splitOnAux])) o4 (by kernel_rfl)
def xr:entryFor table "set.__iter__" = some Builtin.«frozenset.__iter__» :=
 entryFor_alias (id':="frozenset.__iter__") (by kernel_rfl) J o4 (by kernel_rfl)
end FS
def iO.typeIs{a b c e:Z5}(x:iO s.heap I d a b c e):s.TypeIs (.ref I) "set_iterator":=let ⟨o,ho,hc,_⟩:=x;⟨o,ho,hc⟩
def iO.at{a b c e:Z5}(x:iO h I d a b c e)(k:∀o,h.get? I=some o->h'.get? I=some o):iO h' I d a b c e:=by grind [iO]
def n9.typeIs{ep:Z5}(x:n9 s.heap d es ep t):s.TypeIs (.ref d) "set":={_,x,J}
def yY{I d:jl}{es:sA (Z4×mu)}{ep:Z5}{t:SetTable}{i:Z5}{Q:nt mu->q8->Z3}(c:iO s.heap I d (slotAt w t i) i es.size ep)(n:n9 s.heap d es ep t)(j:rO t es.size (!w.params.followText "set-order"))(hi:i<es.size)(u:∀h' x,(fG w d ep es)[i]?=some x->iO h' I d (slotAt w t (i+1)) (i+1) es.size ep->Heap.SameBut I s.heap h'->Q (some x.2) {s with heap:=h'}):wpAny (model prog w) A (pyNext (.ref I)) Q E s:=by
 let⟨o,h,q,b⟩:=id c;let hex:∃x,(fG w d ep es)[i]?=some x:={_,ajT (by rwa[nB])};let⟨x,l⟩:=hex;refine aiF<|al2<|ajP (name:=Str.ofString "__next__") c.typeIs FS.gf<|ajR FS.gf c.typeIs FS.qC ?_<|FS.rV _;refine aiF<|alu (a:=(Value.ref I,[])) J ?_
 try dsimp only
 refine aiF<|wpAny_fieldsOf h b ?_;refine aiF<|alT n J j.fits ?_;simp only[bne_self_eq_false,Bool.false_eq_true,↓reduceIte,Int.toNat_natCast];refine aiF<|tP n j (λr p=>?_)<|ajr hi;rw[l] at p;subst p;refine aiF<|akf h b o8 ?_;let g:=aju (Obj.mapFields (·.setIfInBounds 0 (Value.int (slotAt w t (i+1):Z4) 0))) h<|akr<|ajN b _;let m:=(al6 (o:=o) (f:=(·.setIfInBounds 0 (Value.int (slotAt w t (i+1):Z4) 0)))).trans q;let e:(Obj.mapFields (·.setIfInBounds 0 (Value.int (slotAt w t (i+1):Z4) 0)) o).data=.fields #[rawInt (slotAt w t (i+1)),rawInt i,.ref d,rawInt es.size,rawInt ep]:=by rw[ajN b];simp[rawInt]
 generalize Obj.mapFields (·.setIfInBounds 0 (Value.int (slotAt w t (i+1):Z4) 0)) o=v at g m e;refine aiF<|akf g e o8 ?_;refine aiJ {x.2,J,aiJ<|u _ x l ?_<|(akc ..).trans<|akc ..};exact{_,aju _ g<|akr<|ajN e _,(al6 ..).trans m,by rw[ajN e];simp[rawInt]}
def Ay{I d:jl}{es:sA (Z4×mu)}{ep:Z5}{t:SetTable}{Q:nt mu->q8->Z3}(h:A.handled=Z0)(c:iO s.heap I d (slotAt w t es.size) es.size es.size ep)(j:n9 s.heap d es ep t)(g:rO t es.size (!w.params.followText "set-order"))(n:∀h',Heap.ExtBut I s.heap h'->Q Z0 {s with heap:=h'}):wpAny (model prog w) A (pyNext (.ref I)) Q E s:=by
 let⟨o,f,p,e⟩:=id c;let l:(fG w d ep es)[es.size]? = Z0:=amL (by rw[nB];exact aiK _);refine aiF<|al2<|ajP (name:=Str.ofString "__next__") c.typeIs FS.gf<|ajR FS.gf c.typeIs FS.qC ?_<|FS.rV _;refine aiF<|alu (a:=(Value.ref I,[])) J ?_
 try dsimp only
 refine aiF<|wpAny_fieldsOf f e ?_;refine aiF<|alT j J g.fits ?_;simp only[bne_self_eq_false,Bool.false_eq_true,↓reduceIte,Int.toNat_natCast];refine aiF<|tP j g (λr i=>?_)<|aiK _;rw[l] at i;subst i;refine aiF<|akf f e o8 ?_;refine aiF ?_;simp only[newExc,newTuple];refine aiF<|ajB ?_ (by size_fits);refine aiF (m:=firstArgMember _ _)<|alu (a:=Value.none) (by first|rfl|(simp only[firstArgMember];rfl)) ?_;refine ajB ?_ (by size_fits);simp only[raiseNew];refine aiF<|wpAny_handled ?_
 first|rw[show A.in1.handled=Z0 from h]|rw[h]
 refine aiF<|aiJ<|wpAny_throw ?_;refine aiF<|amq (T:="StopIteration") (b:=Z1) {_,aiW _ J,J} isSubtype_stop ?_;exact aiJ<|n _<|((Heap.SameBut.extBut<|akc ..).push _).push _
def zp{a b c e:Z5}(f:iO s.heap I d a b c e)(h:Q (.ref I) s):wpAny (model prog w) A (pyIter (.ref I)) Q E s:=by refine wpAny_pyIter_slot f.typeIs FS.sq<|ajR FS.sq f.typeIs FS.zq ?_<|FS.AL _;exact aiJ {1,"set_iterator",_,f.typeIs,FS.gf.lookup,h}
def AR(d:jl)(n ep:Z5):Obj:={.type "set_iterator",Z0,.fields #[rawInt (0:Z5),rawInt (0:Z5),.ref d,rawInt n,rawInt ep],#[]}
def HU{d:jl}{es:sA (Z4×mu)}{ep:Z5}{t:SetTable}{Q:mu->q8->Z3}(c:n9 s.heap d es ep t)(g:rO t es.size (!w.params.followText "set-order"))(h:Q (.ref (~~~s)) {s with heap:=s.heap.push (AR d es.size ep)}):wpAny (model prog w) A (pyIter (.ref d)) Q E s:=by
 let e:=g.fits;refine wpAny_pyIter_slot c.typeIs amT<|ajR amT c.typeIs FS.xr ?_<|PySem.F.args_set_iter_1 _;refine aiF<|alu (a:=d) J ?_;refine aiF<|aiF<|alT c J e<|aiJ ?_;refine aiF<|aiF<|alo c J e ?_;refine aiF<|aiF<|akS<|aiJ ?_;refine aiJ ?_;let f:∀b:Bool,(b &&(!t.plain&&decide (es.size>1)))=Z2:=λb=>by rw[g.pl];simp
 show wpAny _ _ (if (!w.params.followText "set-order" &&(!t.plain&&decide (es.size>1)))=Z1 then _ else _) _ _ _;rw[f];simp only[Bool.false_eq_true,↓reduceIte];refine aiF<|aiJ ?_;refine aiF<|wpAny_setEpoch_of c J e ?_;simp only[newFields];refine aiF<|ajB ?_;refine aiJ {1,"set_iterator",_,{_,aiW _ J,J},FS.gf.lookup,?_};exact h
def GY(e:s.TypeIs (.ref r) "set")(h:Q Z2 s):wpAny (model prog w) A (Builtin.List.listLengthHint (.ref r)) Q E s:=by
 refine aiF<|alK e PySem.F.slot_set_len.lookup ?_;generalize hid:("set.__len__":String)=c
 wp_delta
 rw[show splitId c=some ("set","__len__") from by subst hid;decide +kernel];subst hid;refine aiF<|amq (T:="set") (b:=Z1) e (by rw[amS];kernel_rfl) ?_;refine amC (λa=>absurd a o7) λ_=>?_;refine amC (λ_=>?_) λa=>absurd o4 a;refine aiF<|wpAny_typeOf e ?_;exact aiJ h
def GD(p:A.handled=Z0)(I d:jl)(f:d≠I){es:sA (Z4×mu)}{ep:Z5}{t:SetTable}(l:rO t es.size (!w.params.followText "set-order")) :
  Walks prog w A I [I,d] [I] es.size (λi v=>∃e,(fG w d ep es)[i]?=some e/\v=e.2) (λi h=>iO h I d (slotAt w t i) i es.size ep/\n9 h d es ep t) where
 sub:=λb a=>by simp at a;simp[a]
 frame:=λ_ _ _ st m=>{st.1.at λo e=>m I o8 o e,m d o8 _ st.2}
 item:=λi s Q E hi st g=>yY st.1 st.2 l hi λh' x q c n=>g _ h' s.toks ⟨x,q,J⟩ {c,(n.2 d f).trans st.2} λb o a j=>n.extBut b o (λh=>a (by simp[h])) j
 done:=λs Q E st g=>Ay p st.1 st.2 l λh' r=>g h' s.toks λb o a j=>r b o (λh=>a (by simp[h])) j
 self:=λ_ _ _ _ st h=>zp st.1 h
def Bu(w:t7)(t:SetTable):slotAt w t 0=0:=by unfold slotAt;split <;> rfl
def QO{d:jl}{es:sA (Z4×mu)}{ep:Z5}{t:SetTable}(c:rO t es.size (!w.params.followText "set-order")):KdlSrc prog w "set" d d es.size (λi v=>∃e,(fG w d ep es)[i]?=some e/\v=e.2) (λh=>n9 h d es ep t) where
 type:=λ_ a=>a.typeIs
 there:=λ_ a=>{aiO a,aiO a}
 keep:=λ_ _ a g=>g d (.inl J) _ a
 notList:=by decide
 notTuple:=by decide
 hint:=λ_ _ _ _ a b=>GY a.typeIs b
 iter:=λA s f a=>{AR d es.size ep,_,(λ_ _ b=>HU a c b),GD f _ d (ajq<|aiO a) c,{{_,aiW _ J,J,by rw[Bu];rfl},aiI _ a}}
end
section
variable{X:Cx}
def CJ:∀{us:fy mu}{ns:fy Z4},us.length=ns.length->(∀(j:Z5)v,us[j]?=some v->∃n t,ns[j]?=some n/\v=Value.int n t)->Vals (ns.map Z8) us
 |[],[],_,_=>.nil
 |[],_::_,h,_=>by simp at h
 |_::_,[],h,_=>by simp at h
 |u::us,n::ns,h,key=>by
  let⟨m,t,a,b⟩:=key 0 u rfl;let a:n=m:=⇑a
  subst a;exact .cons ⟨t,b⟩ (CJ (⇑h) λj v e=>by let⟨m,t,c,f⟩:=key (j+1) v (⇑e);exact{m,t,⇑c,f})
def D3(hc:X.calm=Z1){X4:fy (jl×Obj)}{σ:St}{H:Hp}{s:q8}{d:jl}{fm:fy Z4}{Q:VK}(I:Inv X X4 σ H s)(hS:MZ X.prog X.w s.heap d fm (!X.w.params.followText "set-order"))(q:∀(l:jl)(a:fy Z4),H l=Z0->a.Perm fm->a.Pairwise (·≤·)->Q (.ref l) (Z9 H l (.lst (a.map Z8)))):wpAny (model X.prog X.w) X.A (call (.builtin "sorted") [.ref d]) (EP X X4 σ Q) X.xe s:=by
 let⟨es,ep,t,C,r,O,hT,hsz⟩:=hS;let C:n9 s.heap d es ep t:=C;obtain⟨ns,f⟩:∃ns,ns=j8 (fG X.w d ep es):={1};let F:ns.Perm fm:=by rw[f];exact((oi X.w d ep es).map _).trans O
 let B:ns.length=es.size:=by rw[f,z9,nB]
 let u:ns.length<64:=by omega
 refine Calls.call_function_entry kind_sorted plain_sorted entry_sorted (args_sorted1 _) ?_;refine aiF (m:=checkCount "sorted" 1 1 _)<|aiJ ?_;refine aiF (PySem.W.kdu_collect (A:=X.A.in1) (QO (prog:=X.prog) (w:=X.w) (d:=d) (ep:=ep) hT) (I.ok.hd hc) C (ajr<|aF o6) λh' tk acc keep c=>?_);let U:IntsAre acc.toList ns:=by
  refine alH (CJ (by rw[ajS,c.1,B]) λj v e=>?_);let⟨x,h1,h2⟩:=c.2 j v (by grind);let hx:x∈(fG X.w d ep es).toList:=by grind
  let⟨⟨k,hk,_⟩,_⟩:=r x<|(oi X.w d ep es).mem_iff.mp hx;let⟨t',Y⟩:=alj (show Value.isInt k x.2=Z1 from hk);refine{k,t',?_,by rw[h2,Y]};rw[f];unfold j8;rw[aiR,ajW,h1];show some (Vq x.2)=some k;rw[Y];rfl
 let L:acc.toList.length<64:=by rwa[uL U]
 refine aiF<|wpAny_newList ?_<|ajr<|aF o6;let h:(h'.push (seqObj "list" acc.toList.toArray 0)).get? h'.objs.size=some (seqObj "list" acc.toList.toArray 0):=aiW _ rfl;refine aiF<|aka<|ajR slot_list_sort {_,h,J} entry_list_sort (list_sort_tree h U L λout a b1 b2 b3=>{1,?_})<|args_list_sort _;refine aiJ {1,?_};let⟨e,p⟩:=sortedHeap_at (out:=out) h;let y:s.heap.get? h'.objs.size=Z0:=by
  cases z:s.heap.get? h'.objs.size with
  |none=>rfl
  |some o=>exact absurd (aiO<|keep _ _ z)<|aj4 _
 let i:a.length≤Z7:=by rw[b2.length_eq];exact ajr<|aF o6
 let g:∀b o,s.heap.get? b=some o->(sortedHeap (h'.push (seqObj "list" acc.toList.toArray 0)) h'.objs.size acc.toList out).get? b=some o:=λb o z=>by let S:=keep b o z;let n:=aiO S;rw[sortedHeap_old (ajq n) (by rw[size_push'];exact akK n)];exact aiI _ S
 let⟨H',I',_⟩:=I.aaB (t':=tk) (vs:=a.map Z8) y g {by rwa[aiE],out.toList,e,xY b1,⇑p};exact{.ref h'.objs.size,_,I',J,q _ a H' (b2.trans F) b3}
def Gv(val:Z5->Z4)(i:Z5)(k:Z4):k∈firstMet val i↔∃j,j<i/\val j=k:=by
 let h:=firstMet_any val i k;rw[amz,akR,akR] at h;constructor
 .grind
 .grind
def nR(val:Z5->Z4):∀i,(firstMet val i).Nodup
 |0=>.nil
 |i+1=>by
  rw[firstMet_succ];unfold step_dedup;let a:=nR val i;split
  .exact a
  .grind
def dd(ns:fy Z4):fy Z4:=firstMet (λi=>ns.getD i 0) ns.length
def F1{k:Z4}:k∈dd ns↔k∈ns:=by
 unfold dd;rw[Gv];constructor
 .grind
 .intro b;let⟨j,a,e⟩:=akC b;exact{j,a,by rw[ai0,aiG a,e];rfl}
def P5{c ns:fy Z4}(f:c.Perm (dd ns))(hs:c.Pairwise (·≤·)):c.Pairwise (· < ·)/\∀k,k∈c↔k∈ns:=by refine{?_,λk=>f.mem_iff.trans F1};let e:c.Nodup:=f.nodup_iff.mpr<|nR _ _;let:=hs.and e;exact this.imp λ{a b}h=>by let:=h.1;let:=h.2;omega
inductive CN(K:Frag)(Q:VK)(v:V)(H1:Hp):Z3
 |m l ns(_:v=.ref l)(_:X0 K H1 l (ns.map Z8))(_:(dd ns).length≤63)(_:∀(r:jl)(ns':fy Z4),H1 r=Z0->ns'.Pairwise (· < ·)->(∀k,k∈ns'↔k∈ns)->Q (.ref r) (Z9 H1 r (.lst (ns'.map Z8))))
def af9(K:Frag)(te:TE):TE:=λσ H Q=>te σ H λv H1=>CN K Q v H1
def QF{e:Expr}{te:TE}{Y p2 j a:Pos}(C:X.calm=Z1)(m:Gl X "sorted")(y:X.mg "sorted" = Z0)(t:Gl X "set")(n:X.mg "set" = Z0)(S:PE X e te)(i:starEach [Expr.Call (.Name "set" p2) [e] [] a] X.env=[(Z2,eval (Expr.Call (.Name "set" p2) [e] [] a) X.env)]:=by rfl)(f:starEach [e] X.env=[(Z2,eval e X.env)]:=by rfl) :
  PE X (.Call (.Name "sorted" Y) [.Call (.Name "set" p2) [e] [] a] [] j) (af9 X.K te):=by
 intro X4 s σ H Q I h;refine ajC<|gO I m y boot_sorted ?_;refine alG ?_ i rfl;rw[i];refine akj ?_;refine ajC<|gO I t n boot_set ?_;refine ajt ?_ f rfl;rw[f];refine akj (thn (S X4 s σ H _ I h) λ u s1 ⟨x,H1,I1,r1,q1⟩=>?_);let⟨l,ns,rfl,O,z,q⟩:=q1;cases r1;refine akw ?_;let⟨C5,F,p,hz⟩:=I1.list O;let U:=alH F;let c:C5.length=ns.length:=by let:=F.length;simpa using this.symm
 refine Fq (I1.ok.hd C) p.isList (⇑U) (by rwa[ajx,c]) λh' L A keep=>?_
 refine akw ?_;let I2:Inv X X4 σ H1 {s1 with heap:=h',toks:=L}:=I1.kept λb o e=>keep b o (aiO e) e
 rw[show C5.toArray.size=ns.length by rw[ajx,c]] at A;exact D3 C I2 (jr.w A) λr v hr B g=>q r v hr (P5 B g).1 (P5 B g).2
end
end L2
namespace HT
open PySem PySem.Spec PyProof.Rows
def lexLe:fy Z4->fy Z4->Bool
 |[],[]=>Z1
 |[],_::_=>Z1
 |_::_,[]=>Z2
 |x::xs,y::ys=>if x=y then lexLe xs ys else decide (x≤y)
def vQ(x y:Z4)(xs ys:fy Z4):lexLe (x::xs) (y::ys)=if x=y then lexLe xs ys else decide (x≤y):=rfl
def yt:∀xs ys:fy Z4,lexLe xs ys=!lexLt ys xs
 |[],[]=>rfl
 |[],_::_=>rfl
 |_::_,[]=>rfl
 |x::xs,y::ys=>by
  rw[vQ,gr];by_cases h:x=y
  .rw[aiN h,aiN h.symm];exact yt xs ys
  .rw[aiL h,aiL λe=>h e.symm];by_cases a:x≤y
   .rw[aiS a,ai1 o6];rfl
   .rw[ai1 a,aiS o6];rfl
def HG(A:Around)(s:q8)(a:Z4)(t:Tok)(c:Z4)(u:Tok)(prog:t6)(w:t7)(E:mu->q8->Z3)(Q:mu->q8->Z3)(h:Q (.bool (decide (a≤c))) s) :
  wpAny (model prog w) A (richCompare .LtE (.int a t) (.int c u)) Q E s:=
 (PyProof.Rows.le_int h:wpAny (model prog w) A (compareOp .LtE (.int a t)<|.int c u) Q E s)
end HT
namespace L2
open PySem PySem.Spec PyProof.Rows
def Bk:∀{l m:fy Z4},l.Pairwise (· < ·)->m.Pairwise (· < ·)->(∀a,a∈l↔a∈m)->l=m
 |[],[],_,_,_=>rfl
 |[],b::m,_,_,h=>absurd ((h b).mpr o8) o8
 |a::l,[],_,_,h=>absurd ((h a).mp o8) o8
 |a::l,b::m,hl,hm,h=>by
  rw[List.pairwise_cons] at hl hm;let e:a=b:=by
   rcases aiV.mp ((h a).mp o8) with e|h1
   .exact e
   .rcases aiV.mp ((h b).mpr o8) with e|h2
    .exact e.symm
    .let:=hm.1 a h1;let:=hl.1 b h2;omega
  subst e;rw[Bk hl.2 hm.2 λc=>{λf=>?_,λf=>?_}]
  .rcases aiV.mp ((h c).mp (by simp[f])) with e|h1
   .subst e;let:=hl.1 c f;omega
   .exact h1
  .rcases aiV.mp ((h c).mpr (by simp[f])) with e|h1
   .subst e;let:=hm.1 c f;omega
   .exact h1
abbrev aiC:=Z4->nt (Z4×Z4×Bool)
def okG(a g:Bool):Z3:=g=Z1∨a=Z2
instance (gd g:Bool):Decidable (okG gd g):=inferInstanceAs<|Decidable (_∨_)
section
variable{α:Type}
def uX(M:Z4->nt α)(n:Z4)(x:nt α):Z4->nt α:=λm=>if m=n then x else M m
def Cy{M:Z4->nt α}{n:Z4}:uX M n x n=x:=aiN J
def ye{M:Z4->nt α}{n m:Z4}(h:m≠n):uX M n x m=M m:=aiL h
structure jN(Pr:V->α->Z3)(C4:fy (Key×V))(M:Z4->nt α):Z3 where
 nd:(C4.map (·.1)).Nodup
 uF:nX C4
 none_:∀n,M n=Z0->bD C4 (Sum.inl n)=Z0
 En:∀n u,M n=some u->∃v,bD C4 (Sum.inl n)=some v/\Pr v u
variable{Pr Pr':V->α->Z3}{C4:fy (Key×V)}{M:Z4->nt α}
def jN.nil:jN Pr [] (λ_=>Z0):={List.nodup_nil,nX.nil,λn _=>rfl,λn u e=>by cases e}
def jN.mono(h:jN Pr C4 M)(k:∀v u,Pr v u->Pr' v u):jN Pr' C4 M:={h.nd,h.uF,h.none_,λn u e=>let ⟨v,h1,h2⟩:=h.En n u e;{v,h1,k v u h2}}
def jN.put(h:jN Pr C4 M){n:Z4}(a:Pr v u):jN Pr (putK C4 (Sum.inl n) v) (uX M n (some u)):=by
 refine{EH _ h.nd,h.uF.put n _,λm e=>?_,λm b e=>?_}
 .by_cases em:m=n
  .grind [putK,uX]
  .rw[ye em] at e;rw[c6,aiL λz=>em<|alv z];exact h.none_ m e
 .by_cases em:m=n
  .subst em;rw[Cy] at e;cases e;exact{v,by rw[c6,aiN rfl],a}
  .rw[ye em] at e;rw[c6,aiL λz=>em<|alv z];exact h.En m b e
def jN.keys(h:jN Pr C4 M){ns:fy Z4}(e:C4.map (·.1)=ns.map Sum.inl)(n:Z4):n∈ns↔(M n).isSome=Z1:=by
 let:n∈ns↔(bD C4 (Sum.inl n)).isSome=Z1:=by rw[D8,e,ajd];exact{λh=>⟨n,h,J⟩,λ⟨y,h,z⟩=>by cases z;exact h}
 rw[this];cases a:M n with
 |none=>rw[h.none_ n a];simp
 |some u=>let⟨v,h1,_⟩:=h.En n u a;rw[h1];rfl
end
structure aiD where
 wh:Bool
 b:Z5
 d:Z5
 rows:fy (Z5×Z5)
 bits:Z5
structure PcU where
 wh:Bool
 b:Z5
 d:Z5
 rows:fy (Z5×Z5)
 c:Z4
inductive cM(CW CG:jl)(H:Hp)(v:V)(u:PcU):Z3
 |m a(_:v=.ref a)(_:PAt CW CG H a u.wh u.b u.d u.rows u.c)(_:u.rows.length≤100)
section
variable{CW CG:jl}{H H':Hp}{F:fy jl}{v:V}{u:PcU}
def cM.keep(h:cM CW CG H v u)(k:aj H H'):cM CW CG H' v u:=let ⟨a,h1,h2,h3⟩:=h;{a,h1,h2.keep k,h3}
end
open PySem PySem.Spec PySem.Calls PyProof.Rows
abbrev jq(h:Heap)(e it:jl)(i:Z4)(item:mu)(a:jl)(f:Bool):Z3:=
 h.get? e=some {.type "enumerate",Z0,.fields #[rawInt a,.bool f,.ref it,rawInt i,.none,item],#[]}
section
variable{prog:t6}{w:t7}{A:Around}{E:mu->q8->Z3}{s:q8}
def Ga(b:s.heap.get? a=some o)(h:Q (some o) s):wpAny (model prog w) A (loadIfAlive a) Q E s:=by
 let h':Q (s.heap.get? a) s:=by rwa[b]
 exact λ_ _ _=>h'
def zX{i:Z5}(he:jq s.heap e it i item a f)(ha:s.heap.get? a=some oa)(a0:a≠e)(a2:a≠it)(a4:s.heap.IsListIter it l i)(hl:s.heap.IsList l items)(hx:items[i]?=some x)(B:e≠it)(hQ:∀h',jq h' e it (↥i+1) item a Z1->h'.IsListIter it l (i+1)->h'.get? (~~~s)=some {.type "tuple",Z0,.seq #[.int i s.toks,x],#[]}->h'.objs.size= ~~~s+1 →
   (∀b o,b≠e->b≠it->s.heap.get? b=some o->h'.get? b=some o)->Q (some (.ref (~~~s))) {s with heap:=h',toks:=s.toks+1}) :
  wpAny (model prog w) A (pyNext (.ref e)) Q E s:=by
 let hT:s.TypeIs (.ref e) "enumerate":={_,he,J};refine aiF (al2 (ajP (name:=Str.ofString "__next__") hT akn
  (ajR akn hT alV ?_<|alO _)))
 let⟨H,g,d,S,os⟩:=s;show wpAny _ _ (field (.ref e) 2 >>= _) _ _ _;refine aiF<|ajD he J (x:=.ref it) J ?_;refine aiF (wpAny_nextOf_list_item a4 hl hx λh₁ y j=>?_);replace j:Heap.SameBut it H h₁:=j;let v:jq h₁ e it i item a f:=(j.2 e B).trans he;refine aiF<|ajD v J (x:=rawInt i) J ?_;refine aiF<|ajD v J (x:=.none) J ?_;refine aiF<|wpAny_mkInt ?_;refine aiF (al0 v o8 λh₂ t n=>?_);replace n:Heap.SameBut e h₁ h₂:=n;replace t:jq h₂ e it (↥i+1) item a f:=t;refine aiF (al0 t o8 λh₃ u m=>?_);replace m:Heap.SameBut e h₂ h₃:=m;replace u:jq h₃ e it (↥i+1) item a f:=u;refine aiF<|wpAny_newTuple ?_;let p:jq (h₃.push {.type "tuple",Z0,.seq #[.int i S,x],#[]}) e it (↥i+1) item a f:=aiI _ u;generalize hh₄:h₃.push {.type "tuple",Z0,.seq #[.int i S,x],#[]}=h at p;let hsz:h₃.objs.size=H.objs.size:=by rw[m.1,n.1,j.1]
 let a1:e<H.objs.size:=aiO he;let F:h.get? H.objs.size=some {.type "tuple",Z0,.seq #[.int i S,x],#[]}:=by rw[←hh₄,←hsz];exact aiW _ J
 let L:h.objs.size=H.objs.size+1:=by rw[←hh₄,aj0,hsz]
 let z:∀b o,b≠e->b≠it->H.get? b=some o->h.get? b=some o:=λb o U a3 Y=>by rw[←hh₄];exact aiI _<|m.extBut b o U<|n.extBut b o U<|j.extBut b o a3 Y
 let C:h.IsListIter it l (i+1):=by rw[←hh₄];let⟨o,ho,r⟩:=(y.extBut n.extBut<|ajH B).extBut m.extBut<|ajH B;exact{o,aiI _ ho,r}
 show wpAny _ _ (Builtin.SmallTypes.ownedTupleIsFree (.ref e) >>= _) _ _ {h,g,d,S+1,os};rw[hsz];clear hh₄ u m t n v j y hsz h₃ h₂ h₁;let O:h.get? a=some oa:=z a oa a0 a2 ha;refine aiF ?_;refine aiF<|ajD p J (x:=rawInt a) J ?_;show wpAny _ _ (loadIfAlive ((a:Z4).toNat) >>= _) _ _ _;rw[Int.toNat_natCast];refine aiF<|Ga O ?_;simp only[Option.isNone_some,Bool.false_eq_true,if_false];refine aiF<|ajD p J (x:=.bool f) J ?_;let fin:∀h₅:Heap,jq h₅ e it (↥i+1) item a Z1->Heap.SameBut e h h₅->Q (some (.ref H.objs.size)) ⟨h₅,g,d,S+1,os⟩:=λh₅ q c=>hQ h₅ q (C.extBut c.extBut<|ajH B) (c.extBut _ _ (akM a1) F) (by rw[c.1,L]) λb o Y hi e=>c.extBut b o Y<|z b o Y hi e
 cases f with
 |true=>rw[aiL (show ¬((Value.bool Z1 != Value.bool Z1)=Z1) from ai5)];refine aiJ ?_;simp only[Bool.false_eq_true,if_false];exact aiJ {1,aiJ<|fin h p<|Heap.SameBut.refl _ _}
 |false=>rw[aiN (show(Value.bool Z2 != Value.bool Z1)=Z1 from J)];refine aiF (al0 p o8 λh₅ q c=>?_);replace c:Heap.SameBut e h h₅:=c;replace q:jq h₅ e it (↥i+1) item a Z1:=q;refine aiJ ?_;simp only[Bool.false_eq_true,if_false];exact aiJ {1,aiJ<|fin h₅ q c}
def Bt{i:Z5}(r:A.handled=Z0)(m:jq s.heap e it i item a f)(g:s.heap.IsListIter it l i)(q:s.heap.IsList l items)(t:items[i]? = Z0)(u:∀h',Heap.ExtBut it s.heap h'->Q Z0 {s with heap:=h'}):wpAny (model prog w) A (pyNext (.ref e)) Q E s:=by
 let j:s.TypeIs (.ref e) "enumerate":={_,m,J};refine aiF (al2 (ajP (name:=Str.ofString "__next__") j akn
  (ajR akn j alV ?_<|alO _)))
 show wpAny _ _ (field (.ref e) 2 >>= _) _ _ _;refine aiF<|ajD m J (x:=.ref it) J ?_;refine aiF (wpAny_nextOf_list_end r g q t λh' x h c=>?_);let⟨o,n,p⟩:=c;refine aiF<|amq (T:="StopIteration") (b:=Z1) ⟨o,n,p⟩ isSubtype_stop ?_;exact aiJ<|u _ h
def EN:typeLookup (.type "enumerate") "__len__" = pure Z0:=by rw[alM,akP];kernel_rfl
def Eb:typeLookup (.type "enumerate") "__length_hint__" = pure Z0:=by rw[alM,akP];kernel_rfl
def DT(h:Heap)(e it:jl)(i:Z5)(c:jl->Z3):Z3:=(i=0/\IsEnum h e it 0 .none)∨∃item a f b,jq h e it i item a f/\h.get? a=some b/\a≠e/\a≠it/\c a
def Iw{i:Z5}(st:DT s.heap e it i Pa)(h:s.heap.IsListIter it l i)(p:s.heap.IsList l items)(q:items[i]?=some x)(g:e≠it)(r:∀h' item a f,jq h' e it (↥i+1) item a f->((i=0/\a= ~~~s)∨Pa a)->h'.IsListIter it l (i+1)->h'.get? (~~~s)=some {.type "tuple",Z0,.seq #[.int i s.toks,x],#[]}->h'.objs.size= ~~~s+1 →
   (∀b o,b≠e->b≠it->s.heap.get? b=some o->h'.get? b=some o)->Q (some (.ref (~~~s))) {s with heap:=h',toks:=s.toks+1}) :
  wpAny (model prog w) A (pyNext (.ref e)) Q E s:=by
 rcases st with⟨rfl,j⟩|⟨item,a,f,v,j,t,n,m,u⟩
 .exact wpAny_pyNext_enum_item (i:=0) j h p q g λh' a b c d k=>r h' x _ Z2 a (.inl ⟨J,J⟩) b c d k
 .exact zX j t n m h p q g λh' a b c d k=>r h' item _ Z1 a (.inr u) b c d k
def HF{i:Z5}(h:A.handled=Z0)(st:DT s.heap e it i Pa)(b:s.heap.IsListIter it l i)(g:s.heap.IsList l items)(j:items[i]? = Z0)(m:∀h',Heap.ExtBut it s.heap h'->Q Z0 {s with heap:=h'}):wpAny (model prog w) A (pyNext (.ref e)) Q E s:=by
 rcases st with⟨rfl,c⟩|⟨item,a,f,p,c,q,o,n,r⟩
 .exact wpAny_pyNext_enum_end (i:=0) h c b g j m
 .exact Bt h c b g j m
end
def nP{a b:Z5}(h:a<b∨b<a):a≠b:=by omega
def EnL(H0 H:Hp)(xs:fy V)(ts:fy jl):Z3:=∀(j:Z5)(t:jl),ts[j]?=some t->H0 t=Z0/\∃x,xs[j]?=some x/\H t=some (.tup [.int ↥j,x])
def Io{X:Cx}{X4:fy (jl×Obj)}{σ:St}{A:Around}(hh:A.handled=Z0){S e it l:jl}{xs:fy V}{us:fy mu}(rv:Vals xs us)(an:e≠it)(ac:l≠e)(ar:l≠it)(a7:S≠e)(ab:S≠it)(am:l≠S)(hz:xs.length≤Z7)(res:mu){R:Result->q8->Z3}{H0:Hp}(hR:∀H' s' ts,Inv X X4 σ H' s'->(∀b o,b≠S->H0 b=some o->H' b=some o)->ts.length=xs.length->H' S=some (.lst (ts.map V.ref))->EnL H0 H' xs ts->R (.ok (.ret res)) s') :
  ∀(k i:Z5)(H:Hp)(s:q8)(ts:fy jl),xs.length-i=k->i≤xs.length->Inv X X4 σ H s->fq X X4 H e->fq X X4 H it->DT s.heap e it i (λa=>ts[0]?=some a)->s.heap.IsListIter it l i->s.heap.IsList l us.toArray->(∀b o,b≠S->H0 b=some o->H b=some o)->H S=some (.lst (ts.map V.ref))->ts.length=i->EnL H0 H xs ts →
   codeAny (model X.prog X.w) A (.builtin "list.extend.loop" {[.ref S,.ref e,res],[]}) R s:=by
 intro k
 induction k with
 |zero=>
  intro i H s ts hk hi I fe U st B hl v O g hE;let L:us.toArray[i]? = Z0:=by let:=rv.length;simp;omega
  refine aj8 ami ?_;rw[aj1 ak0 _];refine aiF (HF (A:=A.in1) hh st B hl L λh' ex=>?_);refine aiJ<|hR H _ ts (I.wA (t':=s.toks) (ch:=[it]) (λb o c q=>ex b o (⇑c) q) λb c=>?_) v o6 O hE;let e1:b=it:=⇑c
  rwa[e1]
 |succ k ih=>
  intro i H s ts hk hi I fe U st B hl v O g hE;let p:i<xs.length:=by omega
  obtain⟨x,hx⟩:∃x,xs[i]?=some x:={_,aiG p};let⟨u,eu,ru⟩:=Vals.get rv hx;let ag:us.toArray[i]?=some u:=⇑eu
  refine aj8 ami ?_;rw[aj1 ak0 _];refine aiF (Iw (A:=A.in1) st B hl ag an λh' item a f as a8 a4 ht hsz kk=>?_);let nT:H (~~~s)=Z0:=I.hok.fresh<|aiK _;let I2:Inv X X4 σ (Z9 H (~~~s) (.tup [.int ↥i,x])) {s with heap:=h',toks:=s.toks+1}:=
   I.vY (ch:=[e,it]) (λb o c q=>by
    simp only[List.mem_cons,List.not_mem_nil,or_false,not_or] at c;exact kk b o c.1 c.2 q) (λb c=>by
    simp only[List.mem_cons,List.not_mem_nil,or_false] at c;rcases c with rfl|rfl
    .exact fe
    .exact U) (aiK _) {by show 2≤Z7;decide,[Value.int ↥i s.toks,u],.cons ⟨s.toks,J⟩<|.cons ru .nil,{_,ht,J,(0),J}}
  let m:S≠(~~~s):=ao O nT;let a0:Z9 H (~~~s) (.tup [.int ↥i,x]) S=some (.lst (ts.map V.ref)):=by rwa[ak m]
  let⟨_,C5,n,rS,lS,eS⟩:=I2.mU a0;let C:C5.length≤Z7:=by rw[←rS.length,aiE,g];exact ai8 (ajr p) hz
  let I3:=I2.EG (t':=s.toks+1) a0 eS (f:=(·.push (Value.ref (~~~s)))) (its':=C5++[Value.ref (~~~s)]) (ys:=(ts++[~~~s]).map V.ref) o8 (aja ▸ Vals.append rS (.cons J .nil)) (by rw[aiE,ajj,g];exact ai8 p hz);let up:∀b o,b≠S->h'.get? b=some o->(h'.update S (Obj.mapSeq (·.push (Value.ref (~~~s))))).get? b=some o:=λb o c e=>(ajz _ _<|ajH c).trans e
  let elt:e<(~~~s):=by
   rcases st with⟨_,he⟩|⟨_,_,_,_,he,_⟩
   .exact aiO he
   .exact aiO he
  let a6:it<(~~~s):=by let⟨o,F,_⟩:=B;exact aiO F
  let a9:∀b,b<~~~s->b≠S->Z9 (Z9 H (~~~s) (.tup [.int ↥i,x])) S (.lst ((ts++[~~~s]).map V.ref)) b=H b:=λb c hs=>by rw[ak hs,ak<|ajq c]
  let ae:Z9 (Z9 H (~~~s) (.tup [.int ↥i,x])) S (.lst ((ts++[~~~s]).map V.ref)) (~~~s)=some (.tup [.int ↥i,x]):=by rw[ak m.symm,af]
  let h:∀b o,b≠S->H b=some o->Z9 (Z9 H (~~~s) (.tup [.int ↥i,x])) S (.lst ((ts++[~~~s]).map V.ref)) b=some o:=λb o c eb=>by rwa[ak c,ak<|ao eb nT]
  let al:H0 (~~~s)=Z0:=by
   cases z:H0 (~~~s) with
   |none=>rfl
   |some o=>have:=v _ _ m.symm z;rw[nT] at this;cases this
  refine aiF (amD eS J (aiJ ⟨alw ak0 _,ih (i+1) _ _ (ts++[~~~s]) o6 p I3 {(a9 e elt a7.symm).trans fe.1,fe.2} {(a9 it a6 ab.symm).trans U.1,U.2} (.inr ?_) (by
   let⟨o,F,r⟩:=a4;exact{o,up it o ab.symm F,r}) (by
   let⟨o,F,r⟩:=hl;exact{o,up l o am<|kk l o ac ar F,r}) (λb o c eb=>h b o c<|v b o c eb) af (by rw[ajj,g];rfl) λj t Y=>?_⟩) C (by rw[Array.size_push];exact Nat.succ_le_succ C))
  .let first:(ts++[~~~s])[0]?=some a:=by
    rcases a8 with⟨h0,rfl⟩|ha
    .rw[List.eq_nil_of_length_eq_zero<|g.trans h0];rfl
    .rw[aiM (aiH.mp ha).1];exact ha
   let a5:∃oa,(h'.update S (Obj.mapSeq (·.push (Value.ref (~~~s))))).get? a=some oa/\a≠e/\a≠it:=by
    rcases a8 with⟨_,rfl⟩|ha
    .exact{_,up _ _ m.symm ht,akM elt,akM a6}
    .let⟨_,y,_,hy⟩:=hE 0 a ha;let aS:a≠S:=λz=>by rw[z,O] at hy;cases hy
     let⟨_,its',_,o,F,_⟩:=I3.hok a _<|h a _ aS hy;exact{o,F,ao hy fe.1,ao hy U.1}
   let⟨oa,l1,l2,l3⟩:=a5;refine{item,a,f,oa,?_,l1,l2,l3,first};let e2:((i+1:Z5):Z4) =↥i+1:=by omega
   rw[e2];exact up e _ a7.symm as
  .rcases al9 j ts.length with h1|h1|h1
   .rw[aiM h1] at Y;let⟨a1,y,a2,a3⟩:=hE j t Y;let tS:t≠S:=λz=>by rw[z,O] at a3;cases a3
    exact{a1,y,a2,h t _ tS a3}
   .subst h1;rw[aiP<|aiK _,anw] at Y;cases Y;rw[g];exact⟨al,x,hx,ae⟩
   .rw[ajv (by rwa[ajj])] at Y;cases Y
section
variable{X:Cx}
inductive GC(K:Frag)(Q:VK)(v:V)(H1:Hp):Z3
 |m l xs(_:v=.ref l)(_:X0 K H1 l xs)(_:∀(r:jl)(ts:fy jl)(H2:Hp),H1 r=Z0->aj H1 H2->ts.length=xs.length->H2 r=some (.lst (ts.map V.ref))->EnL H1 H2 xs ts->Q (.ref r) H2)
def ahS(K:Frag)(te:TE):TE:=λσ H Q=>te σ H λv H1=>GC K Q v H1
def BJ{e:Expr}{te:TE}{p1 p2 B a:Pos}(hc:X.calm=Z1)(O:Gl X "list")(a5:X.mg "list" = Z0)(a0:Gl X "enumerate")(U:X.mg "enumerate" = Z0)(he:PE X e te)(z:starEach [Expr.Call (.Name "enumerate" p2) [e] [] a] X.env=[(Z2,eval (Expr.Call (.Name "enumerate" p2) [e] [] a) X.env)]:=by rfl)(v:starEach [e] X.env=[(Z2,eval e X.env)]:=by rfl) :
  PE X (.Call (.Name "list" p1) [.Call (.Name "enumerate" p2) [e] [] a] [] B) (ahS X.K te):=by
 intro X4 s σ H Q I h;refine ajC<|gO I O a5 boot_list ?_;refine ajt ?_ z rfl;rw[z];refine akj ?_;refine ajC<|gO I a0 U boot_enumerate ?_;refine ajt ?_ v rfl;rw[v];refine akj (thn (he X4 s σ H _ I h) λ u s1 ⟨x,H1,I1,r1,q1⟩=>?_);let⟨l,xs,rfl,hl,q⟩:=q1;cases r1;refine akw ?_;let⟨us,rv,pl,hz⟩:=I1.list hl;let ll:l<(~~~s1):=by let⟨o,i,_⟩:=pl.isList;exact aiO i
 refine call_enumerate_list pl.isList λh' C z2 zs kk=>?_
 refine akw ?_;let I2:Inv X X4 σ H1 {s1 with heap:=h',toks:=s1.toks}:=I1.kept kk;let L:fq X X4 H1 (~~~s1+1):=I1.nA (akU _)<|I1.hok.fresh<|akU _;let fi:fq X X4 H1 (~~~s1):=I1.nA (aiK _)<|I1.hok.fresh<|aiK _;let a8:h'.IsList l us.toArray:=by let⟨o,i,r⟩:=pl.isList;exact{o,kk l o i,r}
 obtain⟨e0,y⟩:∃e0,~~~s1+1=e0:={1};rw[y] at C L ⊢;obtain⟨i0,a4⟩:∃i0,~~~s1=i0:={1};rw[a4] at C z2 fi y zs ll;let a6:h'.objs.size=i0+2:=zs;refine callType_codes PySem.F.called_list (PySem.F.typeCall_list_1 _) PySem.F.entry_list_init (code_list_new (.ref e0) (Q₁:=λobj g=>obj=.ref h'.objs.size/\g={s1 with heap:=h'.push {.type "list",Z0,.seq #[] 0,#[]}}) ⟨J,J⟩) λobj g hq=>?_
 let⟨h1,h2⟩:=hq;subst h1 h2;let hS:(h'.push {.type "list",Z0,.seq #[] 0,#[]}).get? h'.objs.size=some {.type "list",Z0,.seq #[] 0,#[]}:=aiW _ rfl;exists {_,hS,J},PySem.F.args_list_init_2 _ _;unfold Builtin.«list.__init__»;generalize hX:Builtin.List.listExtendWith=XX
 wp_walk
 subst hX;let f:((h'.push {.type "list",Z0,.seq #[] 0,#[]}).update h'.objs.size (Obj.mapSeq λx=>#[])).get? h'.objs.size=some {.type "list",Z0,.seq #[] 0,#[]}:=aju _ hS rfl;let kp:∀b o,h'.get? b=some o->((h'.push {.type "list",Z0,.seq #[] 0,#[]}).update h'.objs.size (Obj.mapSeq λx=>#[])).get? b=some o:=λb o e=>Heap.get?_update_of_ne _ (akM<|aiO e)<|aiI _ e
 generalize (h'.push {.type "list",Z0,.seq #[] 0,#[]}).update h'.objs.size (Obj.mapSeq λx=>#[])=h2 at f kp ⊢;obtain⟨S,m⟩:∃S,h'.objs.size=S:={1};rw[m] at f a6 ⊢;let e2:IsEnum h2 e0 i0 0 .none:=kp _ _ C;let hT:Shared.TypeIs {s1 with heap:=h2} (.ref e0) "enumerate":={_,e2,J};refine aiF<|wpAny_typeOf hT ?_;let a9:Builtin.List.listSameRef (Value.ref S) (Value.ref e0)=Z2:=by unfold Builtin.List.listSameRef;simp;exact nP o6
 refine amC (λa3=>absurd a3 (by rw[a9];decide)) λ_=>?_;refine aiF<|al7 (s:={s1 with heap:=h2}) e2 ?_;refine aiF<|aka ?_;refine aiF<|alK hT EN ?_;refine aiF<|alK hT Eb ?_;refine aiJ ?_;refine aiF<|wpAny_rule ?_;refine aiF ?_;refine aiF<|amD f J ?_;let p:=aju (Obj.mapSeq (·.push Value.none)) f rfl;refine amD p J ?_;let n:=aju (Obj.mapSeq (·.pop)) p rfl;let c:∀b o,h'.get? b=some o->((h2.update S (Obj.mapSeq (·.push Value.none))).update S (Obj.mapSeq (·.pop))).get? b=some o:=λb o e=>by let Y:S≠b:=nP (by let Y:@LT.lt Z5 _ b h'.objs.size:=aiO e;let hs:h'.objs.size=S:=m;omega);exact(ajz _ _ Y).trans ((ajz _ _ Y).trans<|kp b o e)
 generalize (h2.update S (Obj.mapSeq (·.push Value.none))).update S (Obj.mapSeq (·.pop))=h4 at n c ⊢;let ab:=rv.length;let nS:H1 S=Z0:=I2.hok.fresh (by grind);let I4:Inv X X4 σ (Z9 H1 S (.lst [])) {s1 with heap:=h4,toks:=s1.toks}:=I2.laid (t':=s1.toks) (h':=h4) c (by grind) {ajb _,[],_,.nil,n};let hh:X.A.handled=Z0:=I1.ok.hd hc;let ac:@LT.lt Z5 _ l i0:=ll;refine aiJ ⟨Code.quiet_builtin _ o4,Io (X:=X) (X4:=X4) (σ:=σ) (H0:=Z9 H1 S<|.lst []) (by simp[hh]) rv (S:=S) (e:=e0) (it:=i0) (l:=l) (nP o6) (nP o6) (nP o6) (nP o6) (nP o6) (nP o6) hz _ (λH' s' ts I' k' tl a7 hE=>?_) xs.length 0 (Z9 H1 S<|.lst []) _ [] o6 (ajb _) I4 {by rw[ak<|nP o6];exact L.1,L.2} {by rw[ak<|nP o6];exact fi.1,fi.2} (.inl {J,c _ _ C}) (by
  let⟨o,i,r⟩:=z2;exact{o,c _ _ i,r}) (by
  let⟨o,i,r⟩:=a8;exact{o,c _ _ i,r}) (λb o _ e=>e) af J λj t e=>by simp at e⟩
 refine{J,.ref S,H',I',J,q S ts H' nS (λb o eb=>k' b o (ao eb nS)<|(ak<|ao eb nS) ▸ eb) tl a7 λj t ej=>?_};let⟨a1,a2⟩:=hE j t ej;refine{?_,a2};by_cases ht:t=S
 .grind
 .rw[ak ht] at a1;exact a1
end
def nO{f:Z5->Z4}:∀k i,i≤k->f i≤f (argBest (λi j=>decide (f i>f j)) k)
 |0,i,h=>by rw[show i=0 by omega];exact ajL _
 |k+1,i,h=>by
  let e:argBest (λi j=>decide (f i>f j)) (k+1)=if decide (f (k+1)>f (argBest (λi j=>decide (f i>f j)) k)) then k+1 else argBest (λi j=>decide (f i>f j)) k:=rfl
  rw[e];by_cases a:f (k+1)>f (argBest (λi j=>decide (f i>f j)) k)
  .rw[aiN<|aiS a];by_cases hi:i=k+1
   .rw[hi];exact ajL _
   .let:=nO (f:=f) k i o6;omega
  .rw[aiL (⇑a)];by_cases hi:i=k+1
   .rw[hi];omega
   .exact nO k i o6
def vX{bt:Z5->Z5->Bool}:∀k,argBest bt k≤k
 |0=>aiK _
 |k+1=>by
  let e:argBest bt (k+1)=if bt (k+1) (argBest bt k) then k+1 else argBest bt k:=rfl
  rw[e];let:=vX (bt:=bt) k;split <;> omega
open PySem PySem.Spec PyProof.Rows Builtin Builtin.Str
section
variable{c:Z4}(h0:0≤c)(h1:c<10 ^ 20)
include h0 h1
end
@[elab_as_elim] def ln0{P:fy mu->Z3}(us:fy mu)(a:us.length=0)(h:P []):P us:=by
 cases us with
 |nil=>exact h
 |cons=>cases a
@[elab_as_elim] def ln1{P:fy mu->Z3}(us:fy mu)(b:us.length=1)(h:∀a,P [a]):P us:=by
 cases us with
 |nil=>cases b
 |cons x us=>exact ln0 (P:=λl=>P (x::l)) us (aj9 b)<|h x
@[elab_as_elim] def ln2{P:fy mu->Z3}(us:fy mu)(c:us.length=2)(h:∀a b,P [a,b]):P us:=by
 cases us with
 |nil=>cases c
 |cons x us=>exact ln1 (P:=λl=>P (x::l)) us (aj9 c)<|h x
@[elab_as_elim] def ln3{P:fy mu->Z3}(us:fy mu)(e:us.length=3)(h:∀a b c,P [a,b,c]):P us:=by
 cases us with
 |nil=>cases e
 |cons x us=>exact ln2 (P:=λl=>P (x::l)) us (aj9 e)<|h x
@[elab_as_elim] def ln4{P:fy mu->Z3}(us:fy mu)(e:us.length=4)(h:∀a b c d,P [a,b,c,d]):P us:=by
 cases us with
 |nil=>cases e
 |cons x us=>exact ln3 (P:=λl=>P (x::l)) us (aj9 e)<|h x
@[elab_as_elim] def ln5{P:fy mu->Z3}(us:fy mu)(f:us.length=5)(h:∀a b c d e,P [a,b,c,d,e]):P us:=by
 cases us with
 |nil=>cases f
 |cons x us=>exact ln4 (P:=λl=>P (x::l)) us (aj9 f)<|h x
@[elab_as_elim] def ln6{P:fy mu->Z3}(us:fy mu)(g:us.length=6)(h:∀a b c d e f,P [a,b,c,d,e,f]):P us:=by
 cases us with
 |nil=>cases g
 |cons x us=>exact ln5 (P:=λl=>P (x::l)) us (aj9 g)<|h x
@[elab_as_elim] def ln7{P:fy mu->Z3}(us:fy mu)(i:us.length=7)(h:∀a b c d e f g,P [a,b,c,d,e,f,g]):P us:=by
 cases us with
 |nil=>cases i
 |cons x us=>exact ln6 (P:=λl=>P (x::l)) us (aj9 i)<|h x
@[elab_as_elim] def ln8{P:fy mu->Z3}(us:fy mu)(j:us.length=8)(h:∀a b c d e f g i,P [a,b,c,d,e,f,g,i]):P us:=by
 cases us with
 |nil=>cases j
 |cons x us=>exact ln7 (P:=λl=>P (x::l)) us (aj9 j)<|h x
@[elab_as_elim] def ln9{P:fy mu->Z3}(us:fy mu)(m:us.length=9)(h:∀a b c d e f g i j,P [a,b,c,d,e,f,g,i,j]):P us:=by
 cases us with
 |nil=>cases m
 |cons x us=>exact ln8 (P:=λl=>P (x::l)) us (aj9 m)<|h x
@[elab_as_elim] def ln10{P:fy mu->Z3}(us:fy mu)(m:us.length=10)(h:∀a b c d e f g i j k,P [a,b,c,d,e,f,g,i,j,k]):P us:=by
 cases us with
 |nil=>cases m
 |cons x us=>exact ln9 (P:=λl=>P (x::l)) us (aj9 m)<|h x
def GA(K:Frag)(x:Z6)(a:jl):Z3:=nsIn K mainGlobals x=some (some<|.ref a)
def GN(K:Frag)(x:Z6):Z3:=nsIn K mainGlobals x=some Z0
def FA(K:Frag)(C:jl)(m:Z6)(f:jl):Z3:=findIn K (.ref C) m=some (some<|.ref f)
def GF(K:Frag)(x:Z6)(st:Stmt):Z3:=∃f fd,GA K x f/\Fun K x x st f fd
def MV(K:Frag)(m q:Z6)(st:Stmt)(f:jl):Z3:=isFn K (.ref f)=Z1/\∃fd,Fun K m q st f fd
def MF(K:Frag)(C:jl)(m q:Z6)(st:Stmt):Z3:=∃f,FA K C m f/\MV K m q st f
def PX(K:Frag)(C:jl):Z3:=Cls K C/\makesIn K C=Z1/\keepIn K (.ref C)=Z1
structure Bs(P:t6)(w:t7)(K:Frag)(mg:Z6->nt mu)(base:Heap):Z3 where
 ex:∃h:Heap,K.In h/\h.Ns mainGlobals mg
abbrev Bd(x q:Z6)(st:Stmt)(ps:fy Z6):Z3:=∀kV a e c b ct us,us.length=ps.length->bindArgs (fnOf x q (fu st) (dB st) (ay st) .none kV a e c b ct) {us,[]}=pure (ps.zip us)
section
variable{P:t6}{w:t7}{K:Frag}{mg:Z6->nt mu}{base:Heap}{x q m:Z6}{st:Stmt}{f C:jl}{fd:q9}{N ps:fy Z6}{k:Z5}{sp:Sp}
def Bs.at_(Y:Bs P w K mg base)(a:GA K x f):mg x=some (.ref f):=by let⟨h,X,G⟩:=Y.ex;exact ai2 X G a
def bdA{m q:Z6}{st:Stmt}{ps:fy Z6}(h:Bd m q st ps:=by intro _ _ _ _ _ _ us a;first|exact ln0 us a rfl|exact ln1 us a λ_=>rfl|exact ln2 us a λ_ _=>rfl|exact ln3 us a λ_ _ _=>rfl|exact ln4 us a λ_ _ _ _=>rfl|exact ln5 us a λ_ _ _ _ _=>rfl|exact ln6 us a λ_ _ _ _ _ _=>rfl|exact ln7 us a λ_ _ _ _ _ _ _=>rfl|exact ln8 us a λ_ _ _ _ _ _ _ _=>rfl|exact ln9 us a λ_ _ _ _ _ _ _ _ _=>rfl|exact ln10 us a λ_ _ _ _ _ _ _ _ _ _=>rfl):Bd m q st ps:=h
def GF.d(l:GF K x st)(Y:Bs P w K mg base)(h:∀{f fd},Fun K x x st f fd->aM P w K mg base (CXx P w) k f fd ps sp)(b:Bd x x st ps:=by exact bdA):DefX P w K mg base x k ps sp:=by let⟨f,fd,a,F⟩:=l;exact{f,fd,Y.at_ a,h F,F.kp,F.binds b}
def MV.d(l:MV K m q st f)(a:FA K C m f)(Y:Bs P w K mg base)(h:∀{f fd},Fun K m q st f fd->aM P w K mg base (CXx P w) k f fd ps sp)(b:Bd m q st ps:=by exact bdA):vS P w K mg base C m k ps sp:=by let⟨i,fd,F⟩:=l;exact{f,fd,⟨a,i,F.kp⟩,h F,F.binds b}
def MF.d(l:MF K C m q st)(Y:Bs P w K mg base)(h:∀{f fd},Fun K m q st f fd->aM P w K mg base (CXx P w) k f fd ps sp)(b:Bd m q st ps:=by exact bdA):vS P w K mg base C m k ps sp:=by let⟨f,a,l⟩:=l;exact l.d a Y h b
def MF.mk1(l:MF K C "__init__" q st)(a:GA K x C)(e:PX K C)(Y:Bs P w K mg base)(h:∀{f fd},Fun K "__init__" q st f fd->aM P w K mg base (CXx P w) k f fd ps sp)(c:Bd "__init__" q st ps:=by exact bdA):zv P w K mg base x C k ps sp:=by let⟨f,b,i,fd,F⟩:=l;exact{f,fd,Y.at_ a,⟨e.2.1,b,i,e.2.2⟩,h F,F.binds c}
def Fun.okY(F:Fun K x q st f fd)(S:aE N ps (ay st))(h:∀vs H Q E,sp vs H Q E->vs.length=ps.length/\∀a A outer s,cH k (A.deeper (envOfC q (ay st) (~~~s) f a)) →
   ∃t,PSs (aX (CXx P w) P w K mg base N q (ay st) f a A outer s H E) (dB st) t/\t {nx:=λ_ H'=>Q .non H',rt:=Q} (start N vs) H):aM P w K mg base (CXx P w) (k+1) f fd ps sp:=
 F.okX S (λvs H Q E e=>(h vs H Q E e).1) λa A outer s H vs Q E b e=>(h vs H Q E e).2 a A outer s b
end
section
variable{X:Cx}{k n:Z5}{C:jl}{ps:fy Z6}{sp:Sp}{E:XS}{x m:Z6}{p pos apos:Pos}{e o:Expr}{es:fy Expr}{ta:TE}{t:TA}
def pcS(D:DefX X.prog X.w X.K X.mg X.base x k ps sp)(f:dP X E)(h:cH n X.A)(i:PA X (e::es) t)(g:k≤n:=by first|decide|omega)(j:Gl X x:=by rfl)(a:(x ==("__debug__":Str))=Z2:=by decide)(c:starEach (e::es) X.env =(Z2,eval e X.env)::starEach es X.env:=by rfl)(b:(backTo pos (starEach es X.env)).any (·.1)=Z2:=by rfl) :
  PE X (.Call (.Name x p) (e::es) [] pos) (AM sp E t):=HH D f (h.mono g) j i a c b
def psS(i:Z5){x:Z6}{e:Expr}{te:TE}{pos pos':Pos}(b:X.N.Nodup)(f:PE X e te)(hi:X.N[i]?=some x:=by rfl)(a:Loc X.env.scope x:=by exact Or.inl J)(hs:swapsWith e (some (.Name x pos')) pos.line X.env=pure Z2:=by rfl)(c:X.fn x=Z1∨X.env.scope.names.lookup x=some .local:=by first|exact .inl rfl|exact .inr rfl|assumption) :
  PS X (.Assign [.Name x pos'] e pos) (Ec te (nk i)):=rQ b hi a f hs c
def pgN(i:Z5)(a:X.N.Nodup)(b:X.fn x=Z1∨X.env.scope.names.lookup x=some .local:=by first|exact .inl rfl|exact .inr rfl|assumption)(hi:X.N[i]?=some x:=by rfl)(c:Loc X.env.scope x:=by exact Or.inl J):PG X (.Name x pos) (nk i):=Qm a hi c b
end
def dE(w:t7)(e:Z6×Tok×mu):DictEntry:={hashStr w e.1,.str e.1 e.2.1,e.2.2}
def gdn{P:t6}{w:t7}{K:Frag}{a:jl}{ep:Z5}(es:fy (Z6×Tok×mu))(c:(es.map (·.1)).Nodup)(h:K.lookup a=some {.type "dict",Z0,.dict (es.map (dE w)).toArray ep,#[]}){b:Heap}(X:K.In b):b.DictOf (cu P w) a (es.map λe=>((Sum.inr e.1:Key),e.2.2)):=by
 exists _,_,_,X a _ h,⟨J,J,J⟩,J,?_,?_
 .intro e f;simp only[List.mem_toArray,List.mem_map] at f;let⟨x,_,rfl⟩:=f;exact{Sum.inr x.1,qQ x.1 x.2.1,J}
 .clear h c;show Pairs _ (es.map<|dE w) _
  induction es with
  |nil=>exact .nil
  |cons e es g=>exact .cons (qQ e.1 e.2.1) J g
 .rw[ako];exact alp.mpr ((alp.mp c).imp λh e=>h<|Sum.inr.inj e)
def yw{es:fy (Z6×Tok×mu)}(a:(es.map (·.1)).Nodup){e:Z6×Tok×mu}(h:e∈es):valueAt (es.map λe=>((Sum.inr e.1:Key),e.2.2)) (Sum.inr e.1)=some e.2.2:=by
 induction es with
 |nil=>cases h
 |cons x es c=>
  rw[ajl,ajg] at a;unfold valueAt;rw[ajl,List.find?_cons];rcases aiV.mp h with rfl|h
  .simp
  .let b:x.1≠e.1:=λz=>a.1 (z ▸ akd h)
   simp only[Sum.inr.injEq,b,decide_false];exact c a.2 h
def GDF(P:t6)(w:t7)(K:Frag)(mg:Z6->nt mu)(a:jl)(l:fy (Z6×Z6)):Z3:=(a==sysModules)=Z2/\∀h:Heap,K.In h->∃vs:fy (Key×mu),h.DictOf (cu P w) a vs/\∀ p∈l,valueAt vs (Sum.inr p.1)=mg p.2
def UU{P:t6}{w:t7}{K:Frag}{mg:Z6->nt mu}{a:jl}{ep:Z5}(es:fy (Z6×Tok×mu))(l:fy (Z6×Z6))(hs:(a==sysModules)=Z2)(h:K.lookup a=some {.type "dict",Z0,.dict (es.map (dE w)).toArray ep,#[]})(f:l.map (·.1)=es.map (·.1))(b:(l.map (·.1)).Nodup)(j:l.map (λp=>mg p.2)=es.map λe=>some e.2.2):GDF P w K mg a l:=by rw[f] at b;refine{hs,λn X=>{_,gdn es b h X,λp c=>?_}};let⟨i,hi⟩:=ajs.mp c;let h1:=congrArg (λl=>l[i]?) f;let h2:=congrArg (λl=>l[i]?) j;simp only[List.getElem?_map,hi,Option.map_some] at h1 h2;let⟨e,g,m⟩:=ai9.mp h1.symm;rw[g] at h2;rw[←m,yw b<|aiQ g];exact(aiY h2).symm
inductive zH(Kn:Z6->Z3)(F:Z6->Sp)(E:XS)(t:TA)(σ:St)(Q:VK)(y:V)(H1:Hp):Z3
 |m z(_:y=.str z)(_:Kn z)(_:t σ H1 λvs H2=>F z vs H2 Q (E σ))
def abO(a:Z6->Z3)(F:Z6->Sp)(E:XS)(ty:TE)(t:TA):TE:=λσ H Q=>ty σ H λy H1=>zH a F E t σ Q y H1
def HJ{X:Cx}{d:jl}{l:fy (Z6×Z6)}{j:Z6->Z3}{F:Z6->Sp}{k:Z5}{E:XS}{o i e:Expr}{es:fy Expr}{p pos:Pos}{ty:TE}{t:TA}(g:GDF X.prog X.w X.K X.mg d l)(hD:∀z,j z->∃n ps,(z,n)∈l/\DefX X.prog X.w X.K X.mg X.base n k ps (F z))(S:dP X E)(hr:cH k X.A)(C:PE X o (tC (.ref d)))(hi:PE X i ty)(hs:EA i)(ha:PA X (e::es) t)(U:starEach (e::es) X.env =(Z2,eval e X.env)::starEach es X.env:=by rfl)(c:(backTo pos (starEach es X.env)).any (·.1)=Z2:=by rfl)(ht:eval (.Call (.Subscript o i p) (e::es) [] pos) X.env =(do callWith pos (←eval (.Subscript o i p) X.env) [] (backTo pos (starEach (e::es) X.env)) (backToKw pos (keywordEach [] X.env))):=by rfl) :
  PE X (.Call (.Subscript o i p) (e::es) [] pos) (abO j F E ty t):=by
 intro X4 s σ H Q I h;rw[ht];refine aiF<|xA akY.lookup hs (thn (C X4 s σ H (λv H'=>v=.ref d/\H'=H) I ⟨J,J⟩) λ u s1 ⟨x,H1,I1,rx,ex,eH⟩=>?_);subst ex eH;obtain rfl:u=Value.ref d:=rx;refine thn (hi X4 s1 σ _ _ I1 h) λ iv s2 ⟨y,H2,I2,ry,a⟩=>?_
 let⟨z,rfl,Y,a⟩:=a;let⟨n,ps,O,D⟩:=hD z Y;let⟨f,fd,m,Fn,L,b⟩:=D.ex;let⟨vs,dd,hv⟩:=g.2 s2.heap I2.kIn;exists dd.typeIs;let B:=hv _ O;rw[m] at B;refine amk (lH (k:=Sum.inr z) ry) dd.mapOf B ?_;refine akl (h₀:=X.base) I.ok.mod.kin L (thn (ha pos X4 _ σ H2 _ (I2.tok _) a) λ us s3 ⟨vs,H3,I3,r,q⟩=>{I3.kIn,?_}) U c;exact oB Fn hr b S I3 r q
def RelV.Uz{x:V}{u:mu}(h:DY u=some x):RelV x u:=by unfold DY at h;split at h <;> first|(cases h;first|exact{1}|rfl)|cases h
def fj(K:Frag)(a:jl)(xs:fy V):Bool:=match K.lookup a with
 |some ⟨.type t,_,.seq C5 _,_⟩=>t == "tuple" &&(decide (C5.size≤1000)&&decide (C5.toList.map DY=xs.map some))
 |_=>Z2
def Fo{K:Frag}{a:jl}{xs:fy V}(h:fj K a xs=Z1){H:Hp}:X3 K H a xs:=by
 unfold fj at h;split at h
 .rename_i t _ C5 n _ e;simp only[Bool.and_eq_true,beq_iff_eq,decide_eq_true_eq] at h;let⟨rfl,h1,h2⟩:=h;refine .inr {_,C5,n,e,J,J,ajr<|aF h1,?_};clear h1 e;generalize C5.toList=us at h2
  induction us generalizing xs with
  |nil=>cases xs with
   |nil=>exact .nil
   |cons x xs=>simp at h2
  |cons u us b=>cases xs with
   |nil=>simp at h2
   |cons x xs=>simp only[List.map_cons,List.cons.injEq] at h2;exact .cons (RelV.Uz h2.1)<|b h2.2
 .cases h
def GDT(P:t6)(w:t7)(K:Frag)(a:jl)(l:fy (Z6×fy V)):Z3:=(a==sysModules)=Z2/\∀h:Heap,K.In h->∃vs:fy (Key×mu),h.DictOf (cu P w) a vs/\∀ p∈l,∃b,valueAt vs (Sum.inr p.1)=some (.ref b)/\∀H,X3 K H b p.2
def V1{P:t6}{w:t7}{K:Frag}{a:jl}{ep:Z5}(es:fy (Z6×Tok×mu))(l:fy (Z6×fy V))(hs:(a==sysModules)=Z2)(h:K.lookup a=some {.type "dict",Z0,.dict (es.map (dE w)).toArray ep,#[]})(g:l.map (·.1)=es.map (·.1))(c:(l.map (·.1)).Nodup)(m:∀ p∈es.zip l,∃b,p.1.2.2=.ref b/\fj K b p.2.2=Z1):GDT P w K a l:=by rw[g] at c;refine{hs,λr X=>{_,gdn es c h X,λp f=>?_}};let⟨i,hi⟩:=ajs.mp f;let h1:=congrArg (λl=>l[i]?) g;simp only[List.getElem?_map,hi,Option.map_some] at h1;let⟨e,j,q⟩:=ai9.mp h1.symm;let⟨b,n,o⟩:=m (e,p)<|aiQ (i:=i) (by rw[amf];exact⟨j,hi⟩);exact{b,by rw[←q,yw c<|aiQ j,n],λH=>Fo o}
inductive EI(l:fy (Z6×fy V))(Q:VK)(y:V)(H1:Hp):Z3
 |m z xs(_:y=.str z)(_:(z,xs)∈l)(_:Q (.bl Z1) H1)
def ahk(l:fy (Z6×fy V))(ty:TE):TE:=λσ H Q=>ty σ H λy H1=>EI l Q y H1
inductive ON(K:Frag)(l:fy (Z6×fy V))(Q:VK)(y:V)(H1:Hp):Z3
 |m z xs(_:y=.str z)(_:(z,xs)∈l)(_:∀b,(∀H,X3 K H b xs)->Q (.ref b) H1)
def tGT(K:Frag)(l:fy (Z6×fy V))(ty:TE):TE:=λσ H Q=>ty σ H λy H1=>ON K l Q y H1
section
variable{X:Cx}{i o:Expr}{pos:Pos}{ty:TE}{d:jl}{l:fy (Z6×fy V)}
def ac2(g:GDT X.prog X.w X.K d l)(hi:PE X i ty)(a:PE X o (tC (.ref d))):PC X .In i o (ahk l ty):=by
 intro X4 s σ H Q I h;refine thn (hi X4 s σ H _ I h) λ m s1 ⟨y,H1,I1,ry,q1⟩=>thn (a X4 s1 σ H1 (λv H'=>v=.ref d/\H'=H1) I1 ⟨J,J⟩) λ u s2 ⟨x,H2,I2,rx,ex,eH⟩=>?_
 let⟨z,xs,c,f,q1⟩:=q1;subst ex eH c;obtain rfl:u=Value.ref d:=rx;let⟨vs,dd,j⟩:=g.2 s2.heap I2.kIn;let⟨b,e,_⟩:=j _ f;refine wpAny_in_of (lH (k:=Sum.inr z) ry) g.1 dd.mapOf ?_;rw[e];exact{.bl _,_,I2.tok _,J,q1}
def agE(g:GDT X.prog X.w X.K d l)(c:PE X o (tC (.ref d)))(hi:PE X i ty)(hs:EA i):PE X (.Subscript o i pos) (tGT X.K l ty):=by
 intro X4 s σ H Q I h;refine xA akY.lookup hs (thn (c X4 s σ H (λv H'=>v=.ref d/\H'=H) I ⟨J,J⟩) λ u s1 ⟨x,H1,I1,rx,ex,eH⟩=>?_);subst ex eH;obtain rfl:u=Value.ref d:=rx;refine thn (hi X4 s1 σ _ _ I1 h) λ p s2 ⟨y,H2,I2,ry,a⟩=>?_
 let⟨z,xs,e,j,a⟩:=a;subst e;let⟨vs,dd,n⟩:=g.2 s2.heap I2.kIn;let⟨b,f,m⟩:=n _ j;exists dd.typeIs;exact amk (lH (k:=Sum.inr z) ry) dd.mapOf f {.ref b,_,I2.tok _,J,a b m}
end
def AA{X:Cx}{hs:fy ExceptHandler}:PH X hs (λ_ _ _ _ _=>False):=by
 unfold PH
 intros
 exact False.elim (by assumption)
def Cm:∀{l:fy Z5}{n:Z5},n∈l->n≤l.sum
 |x::l,n,h=>by
  rw[List.sum_cons];rcases aiV.mp h with h|h
  .omega
  .let:=Cm h;omega
def split_le{z p:Z6}{c:Z5}(a:p∈Txt.split z ⟨#[c]⟩):p.length≤z.length:=by let e:=ak8 z ⟨#[c]⟩;let h:=congrArg PySem.Str.length e;rw[←akO,size_glued] at h;let:=Cm (akd (f:=(·.length)) a);omega
def DF{z:Z6}{c:Z5}:(Txt.split z ⟨#[c]⟩).length≤z.length+1:=by let e:=ak8 z ⟨#[c]⟩;let h:=congrArg PySem.Str.length e;rw[←akO,size_glued] at h;let:(⟨#[c]⟩:Str).length=1:=rfl;rw[this] at h;omega
def DM:fy Z6->nt (Z4×Z4)
 |[a,b]=>if okW a=Z1/\okW b=Z1 then some (intOf a,intOf b) else Z0
 |_=>Z0
def chg(z:Z6):nt (Z4×Z4):=DM<|Txt.split z<|Str.ofString "="
def nq{z:Z6}(h:okW z=Z1):z.length≤20:=by simp only[okW,Bool.and_eq_true,decide_eq_true_eq] at h;exact h.1.1.2
def GQ{ps:fy Z6}(h:¬ps.length=2):DM ps=Z0:=by
 match ps,h with
 |[],_=>rfl
 |[_],_=>rfl
 |[_,_],h=>exact absurd J h
 |_::_::_::_,_=>rfl
inductive At where
 |c (s:Z6)
 |n (k:Z4)
def At.d:At->Z6
 |.c s=>s
 |.n k=>bH k
def dn:fy At->Z6
 |[]=>⟨#[]⟩
 |a::as=>as.foldl (λs b=>s++b.d) a.d
def flA(as:fy At):fy Z5:=as.flatMap λa=>a.d.cps.toList
def wj(as:fy At):(dn as).cps.toList=flA as:=by
 let:∀(as:fy At)(s:Z6),(as.foldl (λs b=>s++b.d) s).cps.toList=s.cps.toList++flA as:=by
  intro as
  induction as with
  |nil=>intro s;simp[flA]
  |cons a as c=>intro s;rw[amB,c,oQ];simp[flA]
 cases as with
 |nil=>rfl
 |cons a as=>show(as.foldl (λs b=>s++b.d) a.d).cps.toList=_;rw[this];simp[flA]
def ec(p:Z6):fy At:=if p.cps.size=0 then [] else [.c p]
def gl:fy Z6->fy (fy At)->fy (fy At)
 |[p],w::ws=>(ec p++w)::ws
 |p::q::r,ws=>ec p::gl (q::r) ws
 |_,ws=>ws
def cut(s:Z5):fy At->fy (fy At)
 |[]=>[[]]
 |.n k::as=>match cut s as with
  |w::ws=>(.n k::w)::ws
  |[]=>[]
 |.c z::as=>gl (Txt.split z ⟨#[s]⟩)<|cut s as
def gm(as:fy At):Z3:=∀k,At.n k∈as->0≤k/\k<10 ^ 20
def zR(p:Z6):flA (ec p)=p.cps.toList:=by
 unfold ec;split
 .rename_i h;let:p.cps=#[]:=Array.eq_empty_of_size_eq_zero h;rw[this];rfl
 .simp[flA,At.d]
def Cz(a b:fy At):flA (a++b)=flA a++flA b:=by simp[flA]
def jn(s:Z5):fy (fy Z5)->fy Z5
 |[]=>[]
 |[x]=>x
 |x::y::r=>x++s::jn s (y::r)
def wY(s:Z5):∀ws:fy Z6,(Str.join ⟨#[s]⟩ ws).cps.toList=jn s (ws.map (·.cps.toList))
 |[]=>rfl
 |[x]=>rfl
 |x::y::r=>by show(x ++⟨#[s]⟩++Str.join ⟨#[s]⟩ (y::r)).cps.toList=_;rw[oQ,oQ,wY s (y::r)];simp[jn]
def Qn(s:Z5)(x:fy Z5):∀{r:fy (fy Z5)},r≠[]->jn s (x::r)=x++s::jn s r
 |[],h=>absurd J h
 |_::_,_=>rfl
def JY(s:Z5)(a x:fy Z5)(r:fy (fy Z5)):jn s ((a++x)::r)=a++jn s (x::r):=by cases r <;> simp[jn]
def PU:∀{ps:fy Z6}{ws:fy (fy At)},ps≠[]->ws≠[]->gl ps ws≠[]
 |[],_,h,_=>absurd J h
 |[p],[],_,h=>absurd J h
 |[p],w::ws,_,_=>by simp[gl]
 |p::q::r,ws,_,_=>by simp[gl]
def IU(s:Z5):∀{ps:fy Z6}{ws:fy (fy At)},ps≠[]->ws≠[]->jn s ((gl ps ws).map flA)=jn s (ps.map (·.cps.toList))++jn s (ws.map flA)
 |[],_,h,_=>absurd J h
 |[p],[],_,h=>absurd J h
 |[p],w::ws,_,_=>by show jn s (flA (ec p++w)::ws.map flA)=_;rw[Cz,JY,zR];rfl
 |p::q::r,ws,_,hw=>by let a:=IU s (ps:=q::r) (ws:=ws) o8 hw;show jn s (flA (ec p) ::(gl (q::r) ws).map flA)=_;rw[Qn s _<|⇑(PU o8 hw),a,zR];simp[jn]
def qJ(s:Z5):∀as:fy At,cut s as≠[]
 |[]=>by simp[cut]
 |.n k::as=>by
  let:=qJ s as;unfold cut;split
  .simp
  .contradiction
 |.c z::as=>PU (λh=>by let:=split_pos z ⟨#[s]⟩;rw[h] at this;exact absurd this o7)<|qJ s as
def zG(s:Z5):∀as:fy At,jn s ((cut s as).map flA)=flA as
 |[]=>rfl
 |.n k::as=>by
  let a:=zG s as;let hn:=qJ s as;unfold cut;split
  .rename_i w ws e;rw[e] at a;show jn s (((bH k).cps.toList++flA w)::ws.map flA) =(bH k).cps.toList++flA as;rw[JY,←a];rfl
  .contradiction
 |.c z::as=>by
  show jn s ((gl _ _).map flA)=z.cps.toList++flA as;let b:Txt.split z ⟨#[s]⟩≠[]:=λh=>by let:=split_pos z ⟨#[s]⟩;rw[h] at this;exact absurd this o7
  rw[IU s b<|qJ s as,zG s as,←wY,ak8]
def EK{s:Z5}{p:Z6}(h:s∉p.cps.toList):s∉flA (ec p):=by rwa[zR]
def Cf{s:Z5}:∀{ps:fy Z6}{ws:fy (fy At)},(∀ p∈ps,s∉p.cps.toList)->(∀ w∈ws,s∉flA w)->∀ w∈gl ps ws,s∉flA w
 |[],ws,_,hw=>by cases ws <;> simpa[gl] using hw
 |[p],[],_,_=>by simp[gl]
 |[p],w::ws,hp,hw=>by
  intro x a;rcases aiV.mp a with rfl|a
  .rw[Cz,aiX];rintro(z|z)
   .exact EK (hp p o8) z
   .exact hw w o8 z
  .exact hw x (by simp[a])
 |p::q::r,ws,hp,hw=>by
  intro x a;rcases aiV.mp a with rfl|a
  .exact EK (hp p o8)
  .exact Cf (λy b=>hp y<|ai3 _ b) hw x a
def vd{s:Z5}(hs:s<48∨57<s):∀{as:fy At},gm as->∀ w∈cut s as,s∉flA w
 |[],_=>by simp[cut,flA]
 |.n k::as,h=>by
  let f:=vd hs (as:=as) λk b=>h k<|ai3 _ b
  unfold cut;split
  .rename_i w ws e;rw[e] at f;intro x a;rcases aiV.mp a with rfl|a
   .show s∉(bH k).cps.toList++flA w;rw[aiX];rintro(z|z)
    .exact gQ (h k o8).1 hs z
    .exact f w o8 z
   .exact f x (by simp[a])
  .intro x a;cases a
 |.c z::as,h=>Cf (StrLaws.split_free z s) (vd hs λk b=>h k<|ai3 _ b)
def AO{s:Z5}(hs:s<48∨57<s){as:fy At}(h:gm as):Txt.split (dn as) ⟨#[s]⟩ =(cut s as).map dn:=by
 let e:dn as=Str.join ⟨#[s]⟩ ((cut s as).map dn):=by
  refine yi ?_;rw[wj,wY,ako,←zG s as];congr 1;refine ake λw _=>?_
  exact(wj w).symm
 conv=>lhs;rw[e]
 refine lz (⇑(qJ s as)) λp a=>?_
 let⟨w,b,rfl⟩:=ajd.mp a;rw[wj];exact vd hs h w b
def wv:fy At->nt Z4
 |[.n k]=>some k
 |[.c z]=>if okW z=Z1 then some (intOf z) else Z0
 |_=>Z0
def wz{k:Z4}(h0:0≤k)(h1:k<10 ^ 20):intOf (bH k)=k:=by unfold intOf;rw[HX h0 h1];rfl
def zu{w:fy At}{k:Z4}(h:gm w)(e:wv w=some k):okW (dn w)=Z1/\intOf (dn w)=k:=by
 unfold wv at e;split at e
 .cases e;let:=h k o8;exact{Ci this.1 this.2,wz this.1 this.2}
 .split at e
  .rename_i z a;cases e;exact⟨a,J⟩
  .cases e
 .cases e
def pY{s:Z5}:∀{as:fy At},gm as->∀ w∈cut s as,gm w
 |[],_=>by intro w m k f;simp[cut] at m;subst m;cases f
 |.n k::as,h=>by
  let g:=pY (s:=s) (as:=as) λk f=>h k<|ai3 _ f
  unfold cut;split
  .rename_i w ws e;rw[e] at g;intro x a j b;rcases aiV.mp a with rfl|a
   .rcases aiV.mp b with e|b
    .cases e;exact h k o8
    .exact g w o8 j b
   .exact g x (by simp[a]) j b
  .intro x a;cases a
 |.c z::as,h=>by
  let g:=pY (s:=s) (as:=as) λk f=>h k<|ai3 _ f
  show ∀ w∈gl _ _,gm w;generalize Txt.split z ⟨#[s]⟩=ps;generalize cut s as=ws at g;let i:∀p,gm (ec p):=λp k f=>by unfold ec at f;split at f <;> simp at f
  induction ps with
  |nil=>cases ws <;> simpa[gl] using g
  |cons p ps l=>cases ps with
   |nil=>cases ws with
    |nil=>intro x a;simp[gl] at a
    |cons w ws=>
     intro x a j b;rcases aiV.mp a with rfl|a
     .rcases aiX.mp b with b|b
      .exact i p j b
      .exact g w o8 j b
     .exact g x (by simp[a]) j b
   |cons q r=>
    intro x a;rcases aiV.mp a with rfl|a
    .exact i p
    .exact l x a
def cv(w:fy At):nt (Z4×Z4):=match cut 61 w with
 |[a,b]=>match wv a,wv b with
  |some x,some y=>some (x,y)
  |_,_=>Z0
 |_=>Z0
def Jz{w:fy At}{c:Z4×Z4}(h:gm w)(e:cv w=some c):chg (dn w)=some c:=by
 unfold cv at e;split at e
 .rename_i a b g;split at e
  .rename_i x y j i;cases e;let f:=pY (s:=61) h;rw[g] at f;let h1:=zu (f a o8) j;let h2:=zu (f b o8) i;unfold chg;rw[Be,AO o7 h,g];show(if okW (dn a)=Z1/\okW (dn b)=Z1 then some (intOf<|dn a,intOf<|dn b) else Z0)=_;rw[aiN ⟨h1.1,h2.1⟩,h1.2,h2.2]
  .cases e
 .cases e
inductive Told where
 |chs (l:fy (Z4×Z4))
 |wrd (w:Z6)
 |nums (l:fy Z4)
def DE:fy Z6:=["whole","since","last"]
def iD:fy (Z6×Z5×nt Z5):=[("seal",1,some 1),("tidy",0,some 0),("carry",2,some 2),("harm",4,some 4),("heal",2,some 2),("marks",0,some 0),("lies",1,some 1),("line",2,some 2),("reach",1,some 1),("fetch",1,Z0),("price",1,Z0),("way",1,Z0),("plan",6,Z0)]
def gT(n:Z5)(f:Z5×nt Z5):Bool:=decide (f.1≤n) &&(match f.2 with|some m=>decide (n≤m)|none=>Z1)
def within(a:Z6)(ns:fy Z4):Z3:=(a = "harm"->∀b,ns[3]?=some b->b≤18446744073709551615)/\(a = "plan"->∀ x∈ns.tail,x≤1000000000000)
def wZ(a:Z6)(ns:fy Z4):Bool:=(if a = "harm" then(match ns[3]? with|some b=>decide (b≤18446744073709551615)|none=>Z1) else Z1) &&(if a = "plan" then ns.tail.all λx=>decide (x≤1000000000000) else Z1)
def Fv{a:Z6}{ns:fy Z4}(h:wZ a ns=Z1):within a ns:=by
 unfold wZ at h;rw[aly] at h;refine{λe b c=>?_,λe x f=>?_}
 .let h1:=h.1;rw[aiN e,c] at h1;exact ajm h1
 .let h2:=h.2;rw[aiN e] at h2;exact ajm<|akg.mp h2 x f
structure aeX(hd:Z6)(ws:fy Z6)(ns:fy Z4):Z3 where
 fm:∃f,(hd,f)∈iD/\gT ws.length f=Z1
 ok:∀ w∈ws,okW w=Z1
 en:ns=ws.map intOf
 wi:within hd ns
def RowW(a:Z6)(ws:fy Z6):Told->Z3
 |.chs l=>a = "day"/\ws.map chg=l.map some
 |.wrd w=>a = "keep"/\ws=[w]/\w∈DE
 |.nums ns=>a≠"day"/\a≠"keep"/\aeX a ws ns
def vU(z a:Z6)(td:Told):Z3:=∃ws,Txt.split z (Str.ofString " ")=a::ws/\RowW a ws td
def Bj{α c:Type}(f:α->nt c):fy α->nt (fy c)
 |[]=>some []
 |a::as=>match f a,Bj f as with
  |some b,some bs=>some (b::bs)
  |_,_=>Z0
def x9{α c:Type}{f:α->nt c}:∀{as:fy α}{bs:fy c},Bj f as=some bs->as.map f=bs.map some
 |[],bs,h=>by cases h;rfl
 |a::as,bs,h=>by
  unfold Bj at h;split at h
  .rename_i b e h1 h2;cases h;rw[ajl,ajl,h1,x9 h2]
  .cases h
def rd(as:fy At):nt (Z6×Told):=match cut 32 as with
 |[.c hd]::ws=>if hd = "day" then(match Bj cv ws with|some l=>some (hd,.chs l)|none=>Z0)
  else if hd = "keep" then(match ws with|[[.c w]]=>if w∈DE then some (hd,.wrd w) else none|_=>Z0)
  else match Bj wv ws,iD.find? (λp=>p.1=hd) with
   |some ns,some f=>if (gT ws.length f.2&&wZ hd ns)=Z1 then some (hd,.nums ns) else Z0
   |_,_=>Z0
 |_=>Z0
def MC{as:fy At}{B:Z6}{td:Told}(h:gm as)(e:rd as=some (B,td)):vU (dn as) B td:=by
 let hs:=AO (s:=32) o7 h;let A:=pY (s:=32) h;unfold rd at e;split at e
 .rename_i F ws p;rw[p] at hs A;let i:∀ w∈ws,gm w:=λw g=>A w (ai3 _ g)
  split at e
  .rename_i n;split at e
   .rename_i l C;cases e;exists ws.map dn,by rw[spS,hs];rfl,n;let:=x9 C;rw[ako];refine Eq.trans (ake λw g=>?_) this;obtain⟨c,p⟩:∃c,cv w=some c:=by let m:cv w∈ws.map cv:=akd g;rw[this] at m;let⟨c,_,e⟩:=ajd.mp m;exact⟨c,e.symm⟩
    rw[p];exact Jz (i w g) p
   .cases e
  .rename_i u;split at e
   .rename_i j;split at e
    .rename_i w;split at e
     .rename_i g;cases e;exact{[w],by rw[spS,hs];rfl,j,J,g}
     .cases e
    .cases e
   .rename_i r;split at e
    .rename_i ns f t y;split at e
     .rename_i q;cases e;rw[aly] at q;let z:=x9 t;let o:∀ w∈ws,∃k,wv w=some k:=λw g=>by let m:wv w∈ws.map wv:=akd g;rw[z] at m;let⟨c,_,e⟩:=ajd.mp m;exact⟨c,e.symm⟩
      refine{ws.map dn,by rw[spS,hs];rfl,u,r,{f.2,?_,by rw[aiE];exact q.1},λw g=>?_,?_,Fv q.2}
      .let h1:=List.mem_of_find?_eq_some y;let h2:=List.find?_some y;rwa[←ajm h2]
      .let⟨x,v,rfl⟩:=ajd.mp g;let⟨k,j⟩:=o x v;exact(zu (i x v) j).1
      .rw[ako];let:(ws.map (intOf ∘ dn)).map some=ns.map some:=by
        rw[←z,ako];refine ake λw g=>?_
        let⟨k,j⟩:=o w g;rw[j];exact congrArg some (zu (i w g) j).2
       exact((anx λa b h=>aiY h).mp this).symm
     .cases e
    .cases e
 .cases e
def El{ws:fy Z6}{a:fy (Z4×Z4)}{i:Z5}{w:Z6}{c:Z4×Z4}(h:(ws.take i).map chg=a.map some)(hi:ws[i]?=some w)(b:chg w=some c):(ws.take (i+1)).map chg =(a++[c]).map some:=by rw[aiZ,hi];simp[h,b]
section
variable{X:Cx}
def GP(O:X.calm=Z1):dh X (.builtin "max") (λxs H Q=>∃(a:jl)(ns:fy Z4),xs=[.ref a]/\X0 X.K H a (ns.map Z8)/\ns≠[]/\∀ m∈ns,(∀ x∈ns,x≤m)->Q (.int m) H):=by
 rintro X4 s σ H xs us Q I r ⟨a,ns,rfl,C,n,q⟩;let⟨u,rfl,U⟩:=vals1 r;cases (show u=Value.ref a from U);let⟨C5,Y,pt,_⟩:=I.list C;let z:=alH Y;let l:s.heap.IsList a C5.toArray:=pt.isList;let h:a<(~~~s):=by let⟨o,e,_⟩:=l;exact aiO e
 let p:=uL z;let y:0<ns.length:=alS.mpr n;let c:∀i v,C5.toArray[i]?=some v->∃t,v=Value.int (ns.getD i 0) t:=λi v e=>z.int_at i v (⇑e)
 refine call_max_walk<|alk l {(~~~s),_,_,_,_,_,1,Walks.list (A:=X.A.in1) (I.ok.hd O) _ a (lO h<|aiK _) C5.toArray,{{_,aiW _ J,J,J},let ⟨o,e,r⟩:=l;{o,aiI _ e,r}},λb g=>?_,by simp;omega,CmpOf.ints_gt (λi=>ns.getD i 0) c,λv h' tk hP hk=>?_}
 .show b <(s.heap.push _).objs.size;rw[aj0];simp only[List.mem_cons,List.not_mem_nil,or_false] at g;rcases g with rfl|rfl
  .exact aky _
  .exact akK h
 .let⟨t,rfl⟩:=c _ _ hP;let b1:=vX (bt:=λi j=>decide (ns.getD i 0>ns.getD j 0)) (C5.toArray.size-1);let hsz:C5.toArray.size=ns.length:=by simp[p]
  let g:argBest (λi j=>decide (ns.getD i 0>ns.getD j 0)) (C5.toArray.size-1)<ns.length:=by omega
  refine{.int _,H,I.kept λb o e=>hk b o (λF=>?_)<|aiI _ e,⟨t,J⟩,q _ ?_ λx L=>?_}
  .let:b=( ~~~s):=⇑F
   exact absurd (aiO e) (by rw[this];exact aj4 _)
  .rw[ai0,aiG g,akA];exact ajF g
  .let⟨j,B⟩:=ajs.mp L;let S:j<ns.length:=(aiH.mp B).1;let:=nO (f:=λi=>ns.getD i 0) (C5.toArray.size-1) j o6;rw[show ns.getD j 0=x by rw[ai0,B];rfl] at this;exact this
end
def mG{n:Z5}:∀{ws:fy Z6},(∀ w∈ws,w.length≤n)->(ws.map (·.length)).sum≤n*ws.length
 |[],_=>by simp
 |w::r,h=>by
  let h1:=h w o8;let h2:=mG (n:=n) (ws:=r) λc a=>h c<|ai3 _ a
  simp only[List.map_cons,List.sum_cons,List.length_cons];rw[Nat.mul_add];omega
end L2
namespace HT
open PySem PySem.Spec PyProof.Rows
section
open PySem.SeqAt
open PySem.AutoSeq1 (wpAny_loadPart')
open PySem.MeetsSeq PySem.MeetsSeq2 PySem.MeetsSeq3
def ints_get:∀{vs:fy mu}{ns:fy Z4},IntsAre vs ns->∀(i:Z5)(h:i<vs.length)(h2:i<ns.length),∃t,vs[i]=.int ns[i] t
 |_,_,.nil,i,h,_=>by cases h
 |_,_,.cons a t r,0,_,_=>⟨t,J⟩
 |_,_,.cons a t r,i+1,h,h2=>ints_get r i (akI h)<|akI h2
def QI(l b:jl)(items a:sA mu)(n S:Z5)(ns o:fy Z4)(hi:IntsAre items.toList ns)(F:IntsAre a.toList o)(hsz:items.size=a.size)(k:Z5) :
  ∀i:Z5,items.size-i=k->Meets (Builtin.«list.__eq__.loop» {[.ref l,.ref b,rawInt i,rawInt 1],[]})
   (λ_ R s=>s.heap.get? l=some {.type "list",Z0,.seq items n,#[]}/\s.heap.get? b=some {.type "list",Z0,.seq a S,#[]}∧
    R (.ok (.ret (.bool (lexLe (ns.drop i) (o.drop i))))) s):=by
 let z1:items.size=ns.length:=by rw[←hi.length];simp
 let Y:a.size=o.length:=by rw[←F.length];simp
 induction k with
 |zero=>
  intro i U prog w A R s h;let⟨z,g,d,x,os⟩:=s;let⟨r,p,h⟩:=h
  wp_walk using ajU r,ajU p
  let c:items[((i:Z5):Z4).toNat]? = Z0:=by simp;omega
  let f:a[((i:Z5):Z4).toNat]? = Z0:=by simp;omega
  rw[amM o6,amM o6] at h;rw[c,f]
  wp_walk using ajU r,ajU p
  show R (.ok<|.ret<|.bool<|decide (items.size≤a.size)) _;rwa[aiS o6]
 |succ k L=>
  intro i U prog w A R s h;let⟨z,g,d,x,os⟩:=s;let⟨r,p,h⟩:=h
  wp_walk using ajU r,ajU p
  let v:i<items.size:=by omega
  let j:i<a.size:=by omega
  let c:items[((i:Z5):Z4).toNat]?=some items[i]:=by simp[v]
  let f:a[((i:Z5):Z4).toNat]?=some a[i]:=by simp[j]
  let O:(↥i+1) =((i+1:Z5):Z4):=by push_cast;rfl
  obtain⟨t,B⟩:∃t,items[i]=.int (ns[i]'o6) t:=by let⟨t,e⟩:=ints_get hi i (⇑v) o6;exact{t,⇑e}
  obtain⟨u,C⟩:∃t,a[i]=.int (o[i]'o6) t:=by let⟨t,e⟩:=ints_get F i (⇑j) o6;exact{t,⇑e}
  rw[akx o6,akx (i:=i) (l:=o) o6,vQ] at h;rw[c,f,B,C];let⟨e,H,m⟩:=IA A.in1 ⟨z,g,d,x,os⟩ (ns[i]'o6) t (o[i]'o6) u;refine aiF<|H prog w _ _ ?_;cases e with
  |true=>
   rw[aiN<|m.mp J] at h
   wp_walk
   rw[O];exact⟨alw plain_eq_loop _,aj8 entry_eq_loop (by rw[aj1 plain_eq_loop _];exact L (i+1) o6 prog w A R _ ⟨r,p,h⟩)⟩
  |false=>
   rw[aiL λq=>absurd (m.mpr q) ai5] at h;let y:=HG A.in1 ⟨z,g,d,x,os⟩ (ns[i]'o6) t (o[i]'o6) u prog w
   wp_walk using ajU r,ajU p
   rw[c,f,B,C]
   wp_walk using y
   exact h
def FN(l b:jl)(items a:sA mu)(n i:Z5)(ns c:fy Z4)(hi:IntsAre items.toList ns)(j:IntsAre a.toList c)(hsz:items.size=a.size) :
  Meets (Builtin.«list.__le__» {[.ref l,.ref b],[]})
   (λ_ R s=>s.heap.get? l=some {.type "list",Z0,.seq items n,#[]}/\s.heap.get? b=some {.type "list",Z0,.seq a i,#[]}∧
    R (.ok (.ret (.bool (lexLe ns c)))) s):=by
 intro prog w A R s h;let⟨p,g,d,m,os⟩:=s;let⟨f,e,h⟩:=h;let o:=AutoSeq1.sub_list_list
 wp_walk using ajU f,ajU e
 exact⟨alw plain_eq_loop _,aj8 entry_eq_loop (by rw[aj1 plain_eq_loop _];exact QI l b items a n i ns c hi j hsz _ 0 J prog w A R _ ⟨f,e,h⟩)⟩
end
end HT
namespace L2
open PySem PySem.Spec PyProof.Rows
def ag4:R2:=λx y H Q=>∃a b ns c,x=.ref a/\y=.ref b/\H a=some (.lst<|ns.map Z8)/\H b=some (.lst<|c.map Z8)/\ns.length=c.length/\Q (.bl (!HT.lexLt c ns)) H
def RV{X:Cx}(o:X.A.units<cLine):OpR X (compareOp .LtE) ag4:=by
 intro X4 s σ H x y v u Q I m p h;let⟨a,b,ns,ms,rfl,rfl,t,j,C,q⟩:=h;cases m;cases p;let⟨z,C5,n,r1,B,e⟩:=I.mU t;let⟨L,c,l,r2,r,g⟩:=I.mU j;let f:IntsAre C5.toArray.toList ns:=uM r1;let i:IntsAre c.toArray.toList ms:=uM r2;let s1:C5.length=ns.length:=⇑f.length
 let s2:c.length=ms.length:=⇑i.length
 refine richCompare_meets_room (op:=.LtE) {_,e,J} {_,g,J} PySem.F.slot_list_le PySem.F.entry_list_le (PySem.F.args_list_le_2 _ _) (HT.FN a b C5.toArray c.toArray n l ns ms f i (by rw[ajx,ajx];omega))
  {e,g,show Value.bool (HT.lexLe ns ms)≠Value.notImplemented/\_ from{(λx=>nomatch x),.bl<|HT.lexLe ns ms,H,I,J,by rwa[HT.yt]}} o
def uu:∀{vs:fy mu}{xs:fy Z6},StrsAre vs xs->∀(i:Z5)(h:i<vs.length)(h2:i<xs.length),∃t,vs[i]=.str xs[i] t
 |_,_,.nil,i,h,_=>by cases h
 |_,_,.cons a t r,0,_,_=>⟨t,J⟩
 |_,_,.cons a t r,i+1,h,h2=>uu r i (akI h)<|akI h2
def isStr(z:Z6):mu->Bool
 |.str y _=>y.cps.toList==z.cps.toList
 |_=>Z2
def ahv(x:V)(xs:fy V)(H:Hp)(Q:VK):Z3:=∃(a:jl)(ws:fy Z6)(z:Z6)(j:Z5),x=.ref a/\xs=[.str z]/\H a=some (.lst<|ws.map V.str)/\ws[j]?=some z/\(∀i,i<j->ws[i]?≠some z)/\Q (.int (j:Z5)) H
def yT{X:Cx}:MtR X "list.index" ahv:=by
 rintro X4 s σ H x xs v us Q I p r ⟨a,ws,z,j,rfl,rfl,C,g,f,q⟩;cases p;let⟨u,rfl,o⟩:=Vals.one r;let⟨L,rfl⟩:=(show ∃t,u=Value.str z t from o);let⟨m,C5,n,r1,O,e⟩:=I.mU C;let sa:=qT r1;let S:=sa.length;let U:j<ws.length:=(aiH.mp g).1;let at_:∀(i:Z5)(h:i<C5.length),isStr z C5[i]=decide (ws[i]?=some z):=λi h=>by
  let⟨t,e⟩:=uu sa i h o6;rw[e,aiG o6];unfold isStr;by_cases c:ws[i]'o6=z
  .rw[c];simp
  .rw[ai1 λz=>c<|aiY z];refine anb.mpr λl=>c ?_
   generalize ws[i]'o6=y at l;cases y;cases z;simpa using l
 refine akE ali {_,e,J} PySem.F.entry_list_index (PySem.F.args_list_index_2 _ _)
  (MeetsSeq.list_index a C5.toArray n (.str z L) (isStr z) (λy B=>?_) j (by rw[ajx];omega) (by let:=alW;rw[aiE] at m;omega) (by let:=at_ j o6;rw[aiS g] at this;simpa using this) λi hi b=>by let:=at_ i o6;rw[ai1<|f i b] at this;simpa using this) {e,{.int _,H,I.tok _,{1},q}}
 let⟨i,h,e⟩:=akC (show y∈C5 by simpa using B);let⟨t,A⟩:=uu sa i h o6;rw[A] at e;subst e;exact PySem.SeqRoads2.EqGives.str _ _ _ _
def A4{X:Cx}:dh X (.type "str") (λxs H Q=>∃z:Z6,xs=[.str z]/\Q (.str z) H):=by intro X4 s σ H xs us Q I r h;let⟨z,rfl,q⟩:=h;let⟨u,rfl,t,rfl⟩:=vals1 r;exact PySem.P.str_of_str {.str _,H,I,{1},q}
def zY{X:Cx}:dh X (.type "str") (λxs H Q=>∃x:V,xs=[x]/\((∃z,x=.str z/\Q (.str z) H)∨(∃i:Z4,x=.int i/\i.natAbs.log2<1920/\Q (.str (toString i)) H))):=by
 intro X4 s σ H xs us Q I r h;obtain⟨x,rfl,⟨z,rfl,q⟩|⟨i,rfl,a,q⟩⟩:=h
 .exact A4 X4 s σ H _ us Q I r ⟨z,J,q⟩
 .exact eX X4 s σ H _ us Q I r ⟨i,J,a,q⟩
end L2
namespace Mine
open PySem L2
theorem E1{p:Z3}(h:p:=by show 3≤Z7;decide):p:=h
theorem v9{p:Z3}(h:p:=by show 2≤Z7;decide):p:=h
theorem v8{p:Z3}(h:p:=by show 1≤Z7;decide):p:=h
theorem v7{N ps sc}(h:aE N ps sc:=by exact{rfl,rfl,rfl,by decide +kernel,rfl,by decide +kernel,by decide +kernel}):aE N ps sc:=h
abbrev t8(a:Addr):Option V:=some<|.ref a
abbrev t9(a:Z4):Option V:=some<|.int a
seal PE PA PS PSs PT PTs PG PGs PI
def top(i:Z5):Stmt:=PySem.Challenge.pw_keepsakes_k89_plans_at_the_desk.main.body.getD i<|.Pass {(0),(0),(0),(0)}
abbrev jB:Stmt:=inClass (top 25) 0
abbrev kR:Stmt:=inClass (top 25) 1
abbrev mT:Stmt:=inClass (top 25) 2
abbrev jW:Stmt:=inClass (top 25) 3
abbrev iu:Stmt:=inClass (top 25) 4
abbrev jR:Stmt:=inClass (top 25) 5
abbrev qa:Stmt:=top 26
abbrev uO:Stmt:=top 39
abbrev pM:Stmt:=top 40
abbrev iV:Stmt:=inClass (top 42) 0
abbrev dG:Stmt:=inClass (top 43) 0
abbrev qv:Stmt:=top 45
abbrev jK:Stmt:=top 49
abbrev oq:Stmt:=top 50
abbrev ou:Stmt:=top 51
abbrev iW:Stmt:=inClass (top 57) 0
abbrev nL:Stmt:=inClass (top 57) 1
abbrev om:Stmt:=inClass (top 57) 2
abbrev iy:Stmt:=inClass (top 57) 6
abbrev jg:Stmt:=inClass (top 72) 0
abbrev pF:Stmt:=top 73
abbrev rz:Stmt:=top 74
abbrev jS:Stmt:=top 75
abbrev pZ:Stmt:=top 76
abbrev qZ:Stmt:=top 77
abbrev pB:Stmt:=top 78
abbrev pV:Stmt:=top 79
abbrev qx:Stmt:=top 80
abbrev qg:Stmt:=top 81
abbrev nI:Stmt:=top 83
abbrev rY:Stmt:=top 84
abbrev pQ:Stmt:=top 85
abbrev pO:Stmt:=top 89
abbrev kQ:Stmt:=top 90
abbrev pT:Stmt:=top 91
abbrev mD:Stmt:=top 92
abbrev oz:Stmt:=top 93
abbrev gR:Stmt:=inClass (top 96) 0
abbrev iU:Stmt:=inClass (top 100) 0
abbrev qU:Stmt:=top 103
abbrev j3:Stmt:=top 104
abbrev iS:Stmt:=inClass (top 115) 0
abbrev jM:Stmt:=inClass (top 115) 1
abbrev kN:Stmt:=inClass (top 115) 2
abbrev mE:Stmt:=inClass (top 115) 3
abbrev kM:Stmt:=inClass (top 115) 6
abbrev kK:Stmt:=inClass (top 115) 8
abbrev iz:Stmt:=inClass (top 115) 16
abbrev iw:Stmt:=inClass (top 115) 18
abbrev mL:Stmt:=inClass (top 115) 20
abbrev qO:Stmt:=top 116
abbrev ug:Stmt:=top 118
abbrev tY:Stmt:=top 120
abbrev rK:Stmt:=top 121
abbrev pN:Stmt:=top 127
abbrev rE:Stmt:=top 134
abbrev jy:Stmt:=inClass (top 136) 0
abbrev pI:Stmt:=inClass (top 136) 1
abbrev nU:Stmt:=top 138
abbrev nK:Stmt:=top 139
abbrev mY:Stmt:=top 140
abbrev j0:Stmt:=top 141
abbrev jQ:Stmt:=top 142
abbrev nM:Stmt:=top 143
abbrev nQ:Stmt:=top 144
abbrev nE:Stmt:=top 145
abbrev nW:Stmt:=top 146
abbrev lZ:Stmt:=top 147
abbrev lT:Stmt:=top 148
abbrev jX:Stmt:=top 149
abbrev kg:Stmt:=top 150
def uy:aE ["self","wide"] ["self","wide"] (ay jB):=v7
def eT:aE ["self","changes","place","block","table"] ["self","changes"] (ay kR):=v7
def zb:aE ["self","day"] ["self","day"] (ay mT):=v7
def jE:aE ["self","one","other","places","day"] ["self","one","other"] (ay jW):=v7
def rG:aE ["self","place","block"] ["self","place","block"] (ay iu):=v7
def wu:aE ["self","day"] ["self","day"] (ay jR):=v7
def B3:aE ["wide"] ["wide"] (ay qa):=v7
def Gr:aE ["number"] ["number"] (ay uO):=v7
def fN:aE ["start","day","rows","numbers","place","block","check","number"] ["start","day","rows"] (ay pM):=v7
def kY:aE ["self","start","day","rows","check","fitting"] ["self","start","day","rows","check"] (ay iV):=v7
def tD:aE ["self","day","rows","check"] ["self","day","rows","check"] (ay dG):=v7
def Bp:aE ["days","day"] ["days","day"] (ay qv):=v7
def uB:aE ["word"] ["word"] (ay jK):=v7
def AV:aE ["word"] ["word"] (ay oq):=v7
def rZ:aE ["word","parts"] ["word"] (ay ou):=v7
def sY:aE ["self"] ["self"] (ay iW):=v7
def qW:aE ["self","piece","number"] ["self","piece"] (ay nL):=v7
def Bh:aE ["self","number","piece"] ["self","number","piece"] (ay om):=v7
def rJ:aE ["self"] ["self"] (ay iy):=v7
def ur:aE ["self","sizes","weights","rates"] ["self","sizes","weights","rates"] (ay jg):=v7
def BL:aE ["many"] ["many"] (ay pF):=v7
def lB:aE ["task","choices","day","bases","words"] ["task","choices"] (ay rz):=v7
def gJ:aE ["choices","bases","day","word"] ["choices"] (ay jS):=v7
def BR:aE ["choices"] ["choices"] (ay pZ):=v7
def Ef:aE ["task","choices"] ["task","choices"] (ay qZ):=v7
def gE:aE ["task","choices","rows","ways","day","base","size"] ["task","choices"] (ay pB):=v7
def BW:aE ["task","size"] ["task","size"] (ay pV):=v7
def tV:aE ["task","day","size","way","held"] ["task","day","size","way"] (ay qx):=v7
def iG:aE ["task","choices","bound","day","size"] ["task","choices"] (ay qg):=v7
def cX:aE ["task","best","least_cost","leaves","waiting","choices","bound"] ["task"] (ay nI):=v7
def vH:aE ["days","begin","weights","rates","day"] ["days","begin","weights","rates"] (ay rY):=v7
def BI:aE ["days","begin","day"] ["days","begin","day"] (ay pQ):=v7
def nN:aE ["row","words","told"] ["row"] (ay pO):=v7
def oM:aE ["word","rest","numbers"] ["word","rest"] (ay kQ):=v7
def B4:aE ["word","fits"] ["word","fits"] (ay pT):=v7
def zo:aE ["many","form"] ["many","form"] (ay mD):=v7
def As:aE ["word","numbers"] ["word","numbers"] (ay oz):=v7
def qG:aE ["self","many"] ["self","many"] (ay gR):=v7
def tw:aE ["self","rules"] ["self","rules"] (ay iU):=v7
def Dy:aE ["text"] ["text"] (ay qU):=v7
def jm:aE ["part","words","numbers"] ["part"] (ay j3):=v7
def sW:aE ["self","wide","rule","seek","each"] ["self","wide","rule","seek","each"] (ay iS):=v7
def vp:aE ["self","changes"] ["self","changes"] (ay jM):=v7
def xJ:aE ["self"] ["self"] (ay kN):=v7
def kL:aE ["self","word","piece","number"] ["self","word"] (ay mE):=v7
def ir:aE ["self","shelf","many","mark","next_ones","deed"] ["self","shelf","many"] (ay kM):=v7
def xN:aE ["self"] ["self"] (ay kK):=v7
def qV:aE ["self","shelf"] ["self","shelf"] (ay iz):=v7
def su:aE ["self","word"] ["self","word"] (ay iw):=v7
def zh:aE ["self","deed"] ["self","deed"] (ay mL):=v7
def Ed:aE ["shelf","deed"] ["shelf","deed"] (ay qO):=v7
def Fl:aE ["things"] ["things"] (ay ug):=v7
def Fg:aE ["store","changes"] ["store","changes"] (ay tY):=v7
def DR:aE ["store","words"] ["store","words"] (ay rK):=v7
def BS:aE ["store","numbers"] ["store","numbers"] (ay pN):=v7
def pX:aE ["store","numbers","task","told"] ["store","numbers"] (ay rE):=v7
def um:aE ["self","wide","seek","each","rules"] ["self","wide","seek","each","rules"] (ay jy):=v7
def tK:aE ["self","row","told"] ["self","row"] (ay pI):=v7
def A9:aE ["_law_script","_law_k"] ["_law_script","_law_k"] (ay nU):=v7
def rN:aE ["_law_cell_here","_law_k","_law_number"] ["_law_cell_here","_law_k"] (ay nK):=v7
def zl:aE ["_law_cell_here","_law_k"] ["_law_cell_here","_law_k"] (ay mY):=v7
def wB:aE ["_law_cell_here","_law_wide"] ["_law_cell_here","_law_wide"] (ay j0):=v7
def jf:aE ["_law_choices","_law_weights_here","_law_some"] ["_law_choices","_law_weights_here"] (ay jQ):=v7
def gV:aE ["_law_changes_here","_law_wide","_law_base_here","_law_day","_law_places","_law_row","_law_place","_law_block_here"] ["_law_changes_here","_law_wide","_law_base_here","_law_day"] (ay nM):=v7
def jA:aE ["_law_choices","_law_head","_law_base_here","_law_day"] ["_law_choices","_law_head"] (ay nQ):=v7
def bY:aE ["_law_changes_here","_law_wide","_law_begin","_law_choices","_law_weights_here","_law_rates_here","_law_total","_law_ways","_law_day","_law_way","_law_base_here","_law_size_here"] ["_law_changes_here","_law_wide","_law_begin","_law_choices","_law_weights_here","_law_rates_here"] (ay nE):=v7
def gU:aE ["_law_told","_law_weights_here","_law_words","_law_figures","_law_sign","_law_day"] ["_law_told","_law_weights_here"] (ay nW):=v7
def iH:aE ["_law_choices","_law_others","_law_order","_law_ours","_law_theirs"] ["_law_choices","_law_others"] (ay lZ):=v7
def iI:aE ["_law_cell_here","_law_rates_here","_law_k","_law_number"] ["_law_cell_here"] (ay lT):=v7
def gM:aE ["_law_cell_here","_law_many","_law_weights_here","_law_k","_law_number"] ["_law_cell_here","_law_many"] (ay jX):=v7
def cG:aE ["_law_script","_law_first","_law_wide","_law_count","_law_changes_here","_law_desk","_law_row","_law_marks","_law_many","_law_begin","_law_rates_here","_law_weights_here","_law_numbers","_law_asked","_law_told","_law_plan","_law_cost_here","_law_others","_law_day","_law_some"] ["_law_script"] (ay kg):=v7
def aU{k:Z5}{x:V}{σ:St}(σ':St){H:Hp}{N:St->Hp->Z3}(h:N σ' H)(e:σ.set k (some x)=σ':=by rfl):nk k x σ H N:=by subst e;exact h
def bR{b R:TS}{D:Ends}{σ:St}{H:Hp}(a:St->Hp->Z3)(h:∀N:St->Hp->Z3,(∀σ' H',a σ' H'->N σ' H')->b {D with nx:=N} σ H)(c:∀σ' H',a σ' H'->R D σ' H'):nV b R D σ H:=h (R D) c
def kO{c:TT}{t u:TS}{D:Ends}{σ:St}{H:Hp}(b:Bool)(P:Hp->Z3)(a:∀Q:Bool->Hp->Z3,(∀H',P H'->Q b H')->c σ H Q)(f:b=Z1->∀H',P H'->t D σ H')(e:b=Z2->∀H',P H'->u D σ H'):vc c t u D σ H:=a _ λH' p=>by
 cases b with
 |true=>exact fQ<|f J H' p
 |false=>exact gb<|e J H' p
def yd:∀{fk:fy (Key×V)},nX fk->∃ns:fy Z4,fk.map (·.1)=ns.map Sum.inl
 |[],_=>{[],J}
 |kv::r,h=>by
  let⟨n,hn⟩:=h kv o8;let⟨ns,e⟩:=yd (fk:=r) λx a=>h x (by simp[a])
  exact{n::ns,by rw[ajl,ajl,e,hn]}
def Ik{x y w k:Z4}(h0:0≤k)(h1:k<3):∃z,atI [V.int x,V.int y,V.int w] k=some (V.int z)/\(z=x∨z=y∨z=w):=by
 let:k=0∨k=1∨k=2:=by omega
 rcases this with rfl|rfl|rfl
 .exact{x,J,.inl J}
 .exact{y,J,.inr<|.inl J}
 .exact{w,J,.inr<|.inr J}
inductive lX(C:jl)(vs:fy V)(H:Hp)(Q:VK)(E:XK):Z3
 |m (p d:jl) (fl:Z4) (C4:fy (Key×V))(_:vs=[.ref p])(_:iT C H p d fl C4)(_:Q (.int fl) H)
def GG{c:TT}{t u:TS}{D:Ends}{σ:St}{H:Hp}(a:∀Q:Bool->Hp->Z3,Q Z1 H->Q Z2 H->c σ H Q)(e:t D σ H)(b:u D σ H):vc c t u D σ H:=a _ (fQ e)<|gb b
inductive xR(C:jl)(vs:fy V)(H:Hp)(Q:VK)(E:XK):Z3
 |m (p dx:jl) (wd:Z4)(_:vs=[.ref p,.int wd])(_:H p=some (.ins C dx []))(_:(1≤wd/\wd≤40)->∀(ta sa tz se:jl)(H':Hp),bJ C H' p ta sa [tz] [se] wd.toNat [List.replicate wd.toNat 0] [[]]->(∀ b∈[ta,sa,tz,se],H b=Z0)->aW [p] H H'->Q .non H')(_:¬(1≤wd/\wd≤40)->False)
inductive yj(vs:fy V)(H:Hp)(Q:VK)(E:XK):Z3
 |m (wd:Z4)(_:vs=[.int wd])(_:(1≤wd/\wd≤40)->Q .non H)(_:¬(1≤wd/\wd≤40)->False)
inductive yc(C:jl)(vs:fy V)(H:Hp)(Q:VK)(E:XK):Z3
 |m (p ta sa:jl) (TL SL:fy jl) (wd:Z5) (C2 C3:fy (fy Z4)) (c:Z4×Z4)(_:vs=[.ref p,.int c.1,.int c.2])(_:bJ C H p ta sa TL SL wd C2 C3)(_:gh wd c=Z0->Q .non H)(_:∀x,gh wd c=some (Z1,x)->False)(_:∀x,gh wd c=some (Z2,x)->False)
inductive ya(C:jl)(vs:fy V)(H:Hp)(Q:VK)(E:XK):Z3
 |m (p ta sa:jl) (TL SL:fy jl) (wd:Z5) (C2 C3:fy (fy Z4)) (d:Z4)(_:vs=[.ref p,.int d])(_:bJ C H p ta sa TL SL wd C2 C3)(_:(0≤d/\d<C2.length)->Q .non H)(_:¬(0≤d/\d<C2.length)->False)
inductive uI(C:jl)(vs:fy V)(H:Hp)(Q:VK)(E:XK):Z3
 |m (p ta sa:jl) (TL SL:fy jl) (wd:Z5) (C2 C3:fy (fy Z4)) (d:Z4)(_:vs=[.ref p,.int d])(_:bJ C H p ta sa TL SL wd C2 C3)(_:(0≤d/\d<C2.length)->∀t tab,C2[d.toNat]?=some tab->H t=Z0->Q (.ref t) (Z9 H t (.lst (tab.map Z8))))(_:¬(0≤d/\d<C2.length)->False)
inductive sj(C:jl)(vs:fy V)(H:Hp)(Q:VK)(E:XK):Z3
 |m (p ta sa a:jl) (TL SL:fy jl) (wd:Z5) (C2 C3:fy (fy Z4)) (L:fy V) (chs:fy (Z4×Z4))(_:vs=[.ref p,.ref a])(_:bJ C H p ta sa TL SL wd C2 C3)(_:H a=some (.lst L))(_:fZ H L chs)(_:chs.length≤300)(_:C2.length≤500)(_:a∉foot p ta sa TL SL)(_:dD wd chs=Z0->∀(m d:jl)(H':Hp)(tab:fy Z4),C2[C2.length-1]?=some tab->bJ C H' p ta sa (TL++[m]) (SL++[d]) wd (C2++[nextT tab chs]) (C3++[chs.map Prod.fst])->H m=Z0->H d=Z0->aW (foot p ta sa TL SL) H H'->Q (.int (C2.length:Z4)) H')(_:∀x,dD wd chs=some (Z1,x)->False)(_:∀x,dD wd chs=some (Z2,x)->False)
def iF(C3:fy (fy Z4))(lo hi:Z4)(k:Z4):Z3:=∃(d:Z5)(xs:fy Z4),lo <↥d/\↥d≤hi/\C3[d]?=some xs/\k∈xs
structure mP(wd:Z5)(C3:fy (fy Z4)):Z3 where
 most:wd≤40
 day:∀ xs∈C3,xs.length≤300/\∀ x∈xs,0≤x/\x <(wd:Z4)
inductive pR(C:jl)(vs:fy V)(H:Hp)(Q:VK)(E:XK):Z3
 |m (p ta sa:jl) (TL SL:fy jl) (wd:Z5) (C2 C3:fy (fy Z4)) (one other:Z4)(_:vs=[.ref p,.int one,.int other])(_:bJ C H p ta sa TL SL wd C2 C3)(_:mP wd C3)(_:C2.length≤500)(_:(0≤one/\one<C2.length)->(0≤other/\other<C2.length)->∀(r:jl)(ns:fy Z4)H',H' r=some (.lst (ns.map Z8))->H r=Z0->ns.Pairwise (· < ·)->(∀k,k∈ns↔iF C3 (min one other) (max one other) k)->aj H H'->Q (.ref r) H')(_:∀d,(¬(0≤one/\one<C2.length)/\d=one)∨((0≤one/\one<C2.length)/\¬(0≤other/\other<C2.length)/\d=other)->False)
def kH:∀(m:Z5)(l:fy Z4),l.Nodup->(∀ x∈l,0≤x/\x <↥m)->l.length≤m
 |0,l,_,h=>by
  cases l with
  |nil=>exact aiK _
  |cons x r=>have:=h x o8;omega
 |m+1,l,hn,h=>by
  let c:=kH m (l.erase ↥m) (hn.erase _) λx a=>by
   let h1:=h x<|List.mem_of_mem_erase a;let h2:x≠↥m:=λz=>by rw[z] at a;exact(List.Nodup.not_mem_erase hn) a
   omega
  by_cases b:↥m∈l
  .grind
  .grind
def ae6{wd:Z5}(h:wd≤40){ns:fy Z4}(a:∀ x∈ns,0≤x/\x <↥wd):(dd ns).length≤63:=by
 let:=kH wd (dd ns) (nR _ _) λx h=>a x<|F1.mp h
 omega
def QC{n:Z5}(h:n≤200000):n≤Z7:=ai8 h o7
def Fe{α:Type}{xs:fy α}{v:α}(h:xs[xs.length-1]?=some v):atI xs (-1)=some v:=by let a:=(aiH.mp h).1;unfold atI ixN;rwa[aiL o6,aiN o6,show((-1:Z4) +↥xs.length).toNat=xs.length-1 by omega]
def nG(wd:Z5)(a:fy (Z4×Z4)):Z3:=a.length≤4/\∀ x∈a,0≤x.1/\x.1 <↥wd/\0≤x.2/\x.2<2 ^ 64
def IC{wd:Z5}{a:fy (Z4×Z4)}(h:nG wd a):dD wd a=Z0:=by grind [nG,dD,gh]
def IP(ts:fy (fy Z4)):fy Z4:=(ts[ts.length-1]?).getD []
def cQ(a:fy (fy (Z4×Z4))):fy (fy Z4):=[]::a.map (List.map Prod.fst)
def FI(a:fy (fy (Z4×Z4)))(c:fy (Z4×Z4)):cQ (a++[c])=cQ a++[c.map Prod.fst]:=by unfold cQ;simp
def last_of{ts:fy (fy Z4)}{t:fy Z4}(h:ts[ts.length-1]?=some t):IP ts=t:=by unfold IP;rw[h];rfl
def TabOk(wd:Z5)(t:fy Z4):Z3:=t.length=wd/\∀ v∈t,0≤v
def Dt{wd:Z5}:∀{a:fy (Z4×Z4)}{t:fy Z4},TabOk wd t->(∀ c∈a,0≤c.2)->TabOk wd (nextT t a)
 |[],t,h,_=>h
 |c::r,t,h,hc=>by
  show TabOk wd (nextT (t.set c.1.toNat c.2) r);refine Dt {by rw[List.length_set];exact h.1,λv b=>?_} λx e=>hc x (by simp[e])
  rcases List.mem_or_eq_of_mem_set b with z|z
  .exact h.2 v z
  .grind
def QW{wd:Z5}{a:fy (fy (Z4×Z4))}(i:wd≤40)(h:∀ f∈a,nG wd f):mP wd (cQ a):=⟨i,λxs b=>by
 unfold cQ at b;rcases aiV.mp b with rfl|b
 .grind
 .let⟨f,e,rfl⟩:=ajd.mp b;refine{by rw[aiE];let:=(h f e).1;omega,λx b=>?_};let⟨c,g,rfl⟩:=ajd.mp b;let:=(h f e).2 c g;omega⟩
def jx(a:fy Z4):fy (Z5×Z5):=a.zipIdx.map λq=>(q.2,q.1.toNat)
def qM(a:fy Z4):(jx a).length=a.length:=by unfold jx;simp
def Iq{a:fy Z4}{i:Z5}{v:Z4}(h:a[i]?=some v):(jx a)[i]?=some (i,v.toNat):=by grind [jx]
def enum_rows{H0 H:Hp}{a:fy Z4}{ts:fy jl}(h:EnL H0 H (a.map Z8) ts)(g:ts.length =(a.map Z8).length)(h0:∀ v∈a,0≤v):dN H (ts.map V.ref) (jx a):=
 ⟨by rw[aiE,g,aiE,qM],λi v e=>by rw[aiR] at e;let⟨t,j,rfl⟩:=ai9.mp e;let⟨_,x,b,f⟩:=h i t j;rw[aiR] at b;let⟨z,c,rfl⟩:=ai9.mp b;let:=h0 z<|aiQ c;exists t,1,Iq c;rw[f];show some (HO.tup [V.int ↥i,V.int z])=some (HO.tup [V.int ↥i,V.int ↥z.toNat]);rw[Int.toNat_of_nonneg this]⟩
def G2{wd:Z5}{ns:fy Z4}(h:ns.Pairwise (· < ·))(b:∀ x∈ns,0≤x/\x <↥wd):ns.length≤wd:=kH wd ns (h.imp λa=>by omega) b
def CY{wd:Z5}{C3:fy (fy Z4)}(h:mP wd C3){lo hi k:Z4}(a:iF C3 lo hi k):0≤k/\k <↥wd:=by let⟨d,xs,_,_,e,b⟩:=a;exact(h.day xs<|aiQ e).2 k b
def okD(n:Z5)(d:Z4):Z3:=0≤d/\d <↥n
structure uP(C:jl)(H:Hp)(p:jl)(wd:Z5)(C2 C3:fy (fy Z4)):Z3 where
 D:∃ta sa TL SL,bJ C H p ta sa TL SL wd C2 C3
 S:mP wd C3
 T:∀ t∈C2,TabOk wd t
 n:C2.length≤500
def uP.keep{C:jl}{H H':Hp}{p:jl}{wd:Z5}{C2 C3:fy (fy Z4)}(h:uP C H p wd C2 C3)(s:aj H H'):uP C H' p wd C2 C3:=let ⟨ta,sa,TL,SL,D⟩:=h.D;{{ta,sa,TL,SL,D.same s},h.S,h.T,h.n}
inductive qw(C CW CG:jl)(vs:fy V)(H:Hp)(Q:VK)(E:XK):Z3
 |m (p:jl) (wd:Z5) (C2 C3:fy (fy Z4)) (day:Z4)(_:vs=[.ref p,.int day])(_:uP C H p wd C2 C3)(_:okD C2.length day->∀(q:jl)(tab:fy Z4)H',C2[day.toNat]?=some tab->PAt CW CG H' q Z1 0 day.toNat (jx tab) (EE Z1 0 day.toNat (jx tab):Z5)->aj H H'->Q (.ref q) H')(_:¬okD C2.length day->False)
def QJ(C4:fy (Key×V))(k:Key)(v:V):(putK C4 k v).length=if (bD C4 k).isSome=Z1 then C4.length else C4.length+1:=by
 unfold putK;rw[gP];split
 .simp
 .simp
inductive xQ(vs:fy V)(H:Hp)(Q:VK)(E:XK):Z3
 |m (n:Z4)(_:vs=[.int n])(_:1≤n)(_:n≤7)(_:Q .non H)
inductive uW(K:Frag)(vs:fy V)(H:Hp)(Q:VK)(E:XK):Z3
 |m (tu:Bool) (c:jl) (ws:fy Z6)(_:vs=[.ref c])(_:SqB K tu H c (ws.map V.str))(_:ws.length≤7)(_:∀(d:jl)(C4:fy (Key×V))H',H' d=some (.dK C4)->H d=Z0->cy C4 ws->aj H H'->Q (.ref d) H')
inductive pH(K:Frag)(C:jl)(vs:fy V)(H:Hp)(Q:VK)(E:XK):Z3
 |m (p c:jl) (tu:Bool) (C1:fy (fy Z4)) (C0 C7:fy Z4) (ws:fy Z6)(_:vs=[.ref p,.ref c])(_:fX C H p C1 C0 C7)(_:SqB K tu H c (ws.map V.str))(_:ws.length≤C0.length)(_:C1.length=C0.length)(_:C0.length≤7)(_:∀(l:jl)H',H' l=some (.lst ((bP C0 ws).map V.str))->H l=Z0->aj H H'->Q (.ref l) H')
structure Fit(C1:fy (fy Z4))(C0:fy Z4)(r0 r1 r2 r3:Z4):Z3 where
 n7:C1.length≤7
 nw:C0.length=C1.length
 row:∀(i:Z5)xs,C1[i]?=some xs->xs.length=i+1
 b1:∀ xs∈C1,∀ x∈xs,0≤x/\x≤1000000000000
 b2:∀ x∈C0,0≤x/\x≤1000000000000
 b3:∀ x∈[r0,r1,r2,r3],0≤x/\x≤1000000000000
def Fit.sz{C1:fy (fy Z4)}{C0:fy Z4}{r0 r1 r2 r3:Z4}(F:Fit C1 C0 r0 r1 r2 r3)(ws:fy Z6){d:Z5}(c:d<C1.length):∃row,C1[d]?=some row/\row[(bA ws d+1).toNat]?=some (szD C1 ws d)/\0≤szD C1 ws d/\szD C1 ws d≤1000000000000:=by
 let e:C1[d]?=some C1[d]:=aiG c;let g:=F.row d _ e;let b1:=lW ws d;let b2:=zZ ws d;let a:(bA ws d+1).toNat<C1[d].length:=by omega
 let f:C1[d][(bA ws d+1).toNat]?=some C1[d][(bA ws d+1).toNat]:=aiG a;let b:szD C1 ws d=C1[d][(bA ws d+1).toNat]:=by unfold szD;rw[ai0,ai0,e,akA,f,akA]
 exists C1[d],e,(by rw[f,b]);rw[b];exact F.b1 _ (ajF c) _<|ajF a
inductive xh(C:jl)(vs:fy V)(H:Hp)(Q:VK)(E:XK):Z3
 |m (p:jl) (C1:fy (fy Z4)) (C0:fy Z4) (r0 r1 r2 r3 size:Z4)(_:vs=[.ref p,.int size])(_:fX C H p C1 C0 [r0,r1,r2,r3])(_:Fit C1 C0 r0 r1 r2 r3)(_:Q (.int (r2+r3*size)) H)
inductive xw(C:jl)(vs:fy V)(H:Hp)(Q:VK)(E:XK):Z3
 |m (p:jl) (C1:fy (fy Z4)) (C0:fy Z4) (r0 r1 r2 r3 size way:Z4) (d:Z5)(_:vs=[.ref p,.int (d:Z4),.int size,.int way])(_:fX C H p C1 C0 [r0,r1,r2,r3])(_:Fit C1 C0 r0 r1 r2 r3)(_:d<C1.length)(_:0≤size)(_:size≤1000000000000)(_:Q (.int ((r0+r1*((C1.length:Z4) -(d:Z4)))*size+C0.getD d 0*way)) H)
inductive Ag(K:Frag)(vs:fy V)(H:Hp)(Q:VK)(E:XK):Z3
 |m (tu:Bool) (c:jl) (ws:fy Z6)(_:vs=[.ref c])(_:SqB K tu H c (ws.map V.str))(_:VW ws)(_:ws.length≤7)(_:∀(l:jl)H',H' l=some (.lst (pW ws))->H l=Z0->aj H H'->Q (.ref l) H')
structure i6(H:Hp)(L:fy V)(c:Z5->Z4):Z3 where
 get:∀(i:Z5)v,L[i]?=some v->∃t x y,v=V.ref t/\H t=some (.tup [x,y,.int (c i)])
def i6.mono{H H':Hp}{L:fy V}{c:Z5->Z4}(R:i6 H L c)(h:∀t xs,H t=some (.tup xs)->H' t=some (.tup xs)):i6 H' L c:=
 ⟨λi v e=>let ⟨t,x,y,a,b⟩:=R.get i v e;{t,x,y,a,h _ _ b}⟩
def i6.snoc{H:Hp}{L:fy V}{c:Z5->Z4}(R:i6 H L c){t:jl}{x y:V}(h:H t=some (.tup [x,y,.int (c L.length)])):i6 H (L++[.ref t]) c:=
 ⟨λi v e=>by
  by_cases hi:i<L.length
  .rw[aiM hi] at e;exact R.get i v e
  .rw[aiP o6] at e;let a:i-L.length=0:=by let:=(aiH.mp e).1;simp at this;omega
   rw[a] at e;let e:V.ref t=v:=⇑e
   let:i=L.length:=by omega
   subst this;exact⟨t,x,y,e.symm,h⟩⟩
inductive uK(K:Frag)(C:jl)(vs:fy V)(H:Hp)(Q:VK)(E:XK):Z3
 |m (p c:jl) (tu:Bool) (C1:fy (fy Z4)) (C0:fy Z4) (r0 r1 r2 r3:Z4) (ws:fy Z6)(_:vs=[.ref p,.ref c])(_:fX C H p C1 C0 [r0,r1,r2,r3])(_:Fit C1 C0 r0 r1 r2 r3)(_:SqB K tu H c (ws.map V.str))(_:VW ws)(_:ws.length≤C1.length)(_:∀(l:jl)(L:fy V)H',H' l=some (.lst L)->L.length=ws.length->i6 H' L (bB C1 C0 r0 r1 r2 r3 ws)->aj H H'->Q (.ref l) H')
inductive ve(K:Frag)(C:jl)(vs:fy V)(H:Hp)(Q:VK)(E:XK):Z3
 |m (p c:jl) (tu:Bool) (C1:fy (fy Z4)) (C0:fy Z4) (r0 r1 r2 r3:Z4) (ws:fy Z6)(_:vs=[.ref p,.ref c])(_:fX C H p C1 C0 [r0,r1,r2,r3])(_:Fit C1 C0 r0 r1 r2 r3)(_:SqB K tu H c (ws.map V.str))(_:VW ws)(_:ws.length≤C1.length)(_:∀H',aj H H'->Q (.int (sumTo (bB C1 C0 r0 r1 r2 r3 ws) ws.length)) H')
def Fit.FJ{C1:fy (fy Z4)}{C0:fy Z4}{r0 r1 r2 r3:Z4}(F:Fit C1 C0 r0 r1 r2 r3){d:Z5}(b:d<C1.length):∃row,C1[d]?=some row/\row≠[]/\C1.getD d []=row/\row.length≤7/\0≤fW row/\fW row≤1000000000000:=by
 let e:C1[d]?=some C1[d]:=aiG b;let c:=F.row d _ e;let a:C1[d]≠[]:=λz=>by rw[z] at c;simp at c
 let f:=F.n7;exists C1[d],e,a,by rw[ai0,e];rfl,o6;exact F.b1 _ (ajF b) _ (lI a).1
def Fit.sz0{C1:fy (fy Z4)}{C0:fy Z4}{r0 r1 r2 r3:Z4}(F:Fit C1 C0 r0 r1 r2 r3)(ws:fy Z6)(d:Z5):0≤szD C1 ws d:=by
 by_cases a:d<C1.length
 .let⟨_,_,_,h,_⟩:=F.sz ws a;exact h
 .unfold szD;rw[show C1.getD d []=[] by rw[ai0,ajv o6];rfl];simp
def Fit.Hv{C1:fy (fy Z4)}{C0:fy Z4}{r0 r1 r2 r3:Z4}(F:Fit C1 C0 r0 r1 r2 r3)(ws:fy Z6)(i:Z4):0≤gk C1 r2 r3 ws i:=by
 let b2:=F.b3 r2 o8;let b3:=F.b3 r3 o8;unfold gk wyI;split
 .exact ajL _
 .refine wJ (λd=>?_) _ _;let:=ajI b3.1<|F.sz0 ws d;unfold xD;omega
def Fit.wt0{C1:fy (fy Z4)}{C0:fy Z4}{r0 r1 r2 r3:Z4}(F:Fit C1 C0 r0 r1 r2 r3)(d:Z5):0≤C0.getD d 0:=by
 rw[ai0];cases e:C0[d]? with
 |none=>exact ajL _
 |some w=>exact(F.b2 w<|aiQ e).1
def Fit.NY{C1:fy (fy Z4)}{C0:fy Z4}{r0 r1 r2 r3:Z4}(F:Fit C1 C0 r0 r1 r2 r3)(ws:fy Z6){d:Z5}(a:d<C1.length):0≤bB C1 C0 r0 r1 r2 r3 ws d:=by
 let b0:=F.b3 r0 o8;let b1:=F.b3 r1 o8;unfold bB;split
 .exact ajL _
 .let h1:=ajI b1.1 (show↥0≤↥C1.length -↥d by omega);let h2:=ajI (show 0≤r0+r1*(↥C1.length -↥d) by omega)<|F.sz0 ws d;let h3:=ajI (F.wt0 d) (show 0≤cI C1 r2 r3 ws d by rw[←nv];exact F.Hv ws d);omega
def Fit.low{C1:fy (fy Z4)}{C0:fy Z4}{r0 r1 r2 r3:Z4}(F:Fit C1 C0 r0 r1 r2 r3){ws:fy Z6}(hn:VN C0 ws){d:Z5}(f:d<C1.length)(l:d<ws.length):ud C1 C0 r0 r1 r2 r3 d≤bB C1 C0 r0 r1 r2 r3 ws d:=by
 unfold ud;split
 .rename_i g;let b0:=F.b3 r0 o8;let b1:=F.b3 r1 o8;let b3:=F.b3 r3 o8;let e:ws[d]?≠some wN:=λz=>by let:=hn d z;omega
  unfold bB;rw[aiL e];let⟨row,a,b,i,h⟩:=F.sz ws f;let c:fW (C1.getD d [])≤szD C1 ws d:=by rw[ai0,a];exact(lI<|ans<|aiQ b).2 _ (aiQ b)
  let j:=ajI b1.1 (show↥0≤↥C1.length -↥d by omega);let h1:=akJ c (show 0≤r0+r1*(↥C1.length -↥d) by omega);let h2:=akJ c b3.1;let h3:r2+r3*fW (C1.getD d [])≤cI C1 r2 r3 ws d:=by rw[xE];let:=F.Hv ws<|bA ws d;omega
  let h4:=akJ h3<|F.wt0 d;omega
 .exact F.NY ws f
def Fit.mono{C1:fy (fy Z4)}{C0:fy Z4}{r0 r1 r2 r3:Z4}(F:Fit C1 C0 r0 r1 r2 r3){ws:fy Z6}(hn:VN C0 ws)(k:Z5):sumTo (bdD C1 C0 r0 r1 r2 r3 (ws.take k)) C1.length≤sumTo (bdD C1 C0 r0 r1 r2 r3 ws) C1.length:=by
 refine vB λd a=>?_
 unfold bdD;by_cases h1:d <(ws.take k).length
 .let h2:d<k/\d<ws.length:=by rw[aiU] at h1;omega
  rw[aiN h1,aiN h2.2,Em h2.1];exact ajL _
 .rw[aiL h1];by_cases h2:d<ws.length
  .rw[aiN h2];exact F.low hn a h2
  .rw[aiL h2];exact ajL _
def Cj{C1:fy (fy Z4)}{C0:fy Z4}{r0 r1 r2 r3:Z4}{ws:fy Z6}(h:ws.length=C1.length):sumTo (bdD C1 C0 r0 r1 r2 r3 ws) C1.length=sumTo (bB C1 C0 r0 r1 r2 r3 ws) ws.length:=by rw[h];exact nC λd a=>aiN o6
def FQ{C1:fy (fy Z4)}{C0:fy Z4}{r0 r1 r2 r3:Z4}(F:Fit C1 C0 r0 r1 r2 r3){ws:fy Z6}:0≤sumTo (bdD C1 C0 r0 r1 r2 r3 ws) C1.length:=by
 refine qR λd a=>?_
 unfold bdD;split
 .exact F.NY ws a
 .unfold ud;split
  .let⟨row,_,_,e,_,b,_⟩:=F.FJ a;rw[e];let b0:=F.b3 r0 o8;let b1:=F.b3 r1 o8;let b2:=F.b3 r2 o8;let b3:=F.b3 r3 o8;let c:=ajI b1.1 (show↥0≤↥C1.length -↥d by omega);let h1:=ajI (show 0≤r0+r1*(↥C1.length -↥d) by omega) b;let h2:=ajI b3.1 b;let h3:=ajI (F.wt0 d) (show 0≤r2+r3*fW row by omega);omega
  .exact ajL _
inductive ux(K:Frag)(C:jl)(vs:fy V)(H:Hp)(Q:VK)(E:XK):Z3
 |m (p c:jl) (tu:Bool) (C1:fy (fy Z4)) (C0:fy Z4) (r0 r1 r2 r3:Z4) (ws:fy Z6)(_:vs=[.ref p,.ref c])(_:fX C H p C1 C0 [r0,r1,r2,r3])(_:Fit C1 C0 r0 r1 r2 r3)(_:SqB K tu H c (ws.map V.str))(_:VW ws)(_:ws.length≤C1.length)(_:∀H',aj H H'->Q (.int (sumTo (bdD C1 C0 r0 r1 r2 r3 ws) C1.length)) H')
abbrev bdF(C1:fy (fy Z4))(C0:fy Z4)(r0 r1 r2 r3:Z4)(ws:fy Z6):Z4:=sumTo (bdD C1 C0 r0 r1 r2 r3 ws) C1.length
abbrev tZ(C1:fy (fy Z4))(C0:fy Z4)(r0 r1 r2 r3:Z4):=visit (bP C0)<|bdF C1 C0 r0 r1 r2 r3
inductive uv(C:jl)(vs:fy V)(H:Hp)(Q:VK)(E:XK):Z3
 |m (p:jl) (C1:fy (fy Z4)) (C0:fy Z4) (r0 r1 r2 r3:Z4)(_:vs=[.ref p])(_:fX C H p C1 C0 [r0,r1,r2,r3])(_:Fit C1 C0 r0 r1 r2 r3)(_:∀(t bt ll:jl)(LL:fy jl)(lv:fy Lf)(x:Lf)H',H' t=some (.tup [.ref bt,.int x.2,.ref ll])->H' bt=some (.tup (x.1.map V.str))->H' ll=some (.lst (LL.map V.ref))->H ll=Z0->iQ H' LL lv->tZ C1 C0 r0 r1 r2 r3 (C1.length+1) [] Z0 =(lv,some x)->lv.length≤390625->aj H H'->Q (.ref t) H')
def zT:∀{C4:fy (Key×V)}{k:Key}{v:V},bD C4 k=some v->(k,v)∈C4
 |[],k,v,h=>by rw[G1] at h;cases h
 |kv::r,k,v,h=>by
  by_cases e:kv.1=k
  .rw[dW e] at h;cases h;subst e;simp
  .rw[dX e] at h;exact ai3 _<|zT h
def cz.has{C4:fy (Key×V)}{S:Z4->Z3}(h:cz C4 S)(i:Z4):(∃v,((Sum.inl i:Key),v)∈C4)↔S i:=by
 rw[←h.val i];constructor
 .rintro⟨v,a⟩;rw[CQ h.nd a];rfl
 .intro hs;let⟨v,a⟩:=akz.mp hs;exact{v,zT a}
def cz.ns{C4:fy (Key×V)}{S:Z4->Z3}(h:cz C4 S):∃ns:fy Z4,C4.map (·.1)=ns.map Sum.inl/\ns.Nodup/\∀i,i∈ns↔S i:=by
 let⟨ns,e⟩:=yd h.uF;let hn:=h.nd;rw[e] at hn;refine{ns,e,(alp.mp hn).imp λa b=>a<|congrArg Sum.inl b,λi=>?_};rw[←cz.has h i];constructor
 .intro hi;let:(Sum.inl i:Key)∈C4.map (·.1):=by grind
  let⟨⟨k,v⟩,f,c⟩:=ajd.mp this;let c:k=Sum.inl i:=c;subst c;exact⟨v,f⟩
 .rintro⟨v,l⟩;let:(Sum.inl i:Key)∈ns.map Sum.inl:=by grind
  let⟨j,g,c⟩:=ajd.mp this;rwa[←alv c]
def cz.iff{C4:fy (Key×V)}{S T:Z4->Z3}(h:cz C4 S)(e:∀i,S i↔T i):cz C4 T:={h.nd,h.uF,λi=>(h.val i).trans<|e i}
def Qs{C4:fy (Key×V)}{S:Z4->Z3}{wd:Z5}(h:cz C4 S)(b:∀i,S i->0≤i/\i <↥wd):C4.length≤wd:=by
 let⟨ns,e,hn,a⟩:=cz.ns h;let:=kH wd ns hn λx c=>b x<|(a x).mp c
 let:=congrArg List.length e;simp at this;omega
def ID{C3:fy (fy Z4)}{b i:Z5}{xs:fy Z4}(h:C3[b+1+i]?=some xs)(k:Z4):iF C3 ↥b ((b +(i+1):Z5):Z4) k↔iF C3 ↥b ((b+i:Z5):Z4) k∨k∈xs:=by
 constructor
 .rintro⟨d,ys,h1,h2,h3,h4⟩;by_cases e:d=b+1+i
  .subst e;rw[h] at h3;cases h3;exact .inr h4
  .exact .inl ⟨d,ys,h1,o6,h3,h4⟩
 .rintro(⟨d,ys,h1,h2,h3,h4⟩|h4)
  .exact⟨d,ys,h1,o6,h3,h4⟩
  .exact{b+1+i,xs,o6,o6,h,h4}
def WrN(C3:fy (fy Z4))(lo hi:Z4)(n:Z5):Z3:=∃ns:fy Z4,ns.Pairwise (· < ·)/\(∀k,k∈ns↔iF C3 lo hi k)/\ns.length=n
def WrN.one{C3:fy (fy Z4)}{lo hi:Z4}{n m:Z5}(h:WrN C3 lo hi n)(h':WrN C3 lo hi m):n=m:=by
 let⟨a,e,f,c⟩:=h;let⟨b,b1,b2,b3⟩:=h';let:a=b:=Bk e b1 λk=>by rw[f,b2]
 rw[←c,←b3,this]
def Ff{l:fy Z4}(h:l.Nodup):∃e:fy Z4,e.Perm l/\e.Pairwise (· < ·):=by exists l.mergeSort λa b=>decide (a≤b),ang _ _;let hs:=List.pairwise_mergeSort (le:=λa b:Int=>decide (a≤b)) (λa b c h1 h2=>by simp at *;omega) (λa b=>by simp;omega) l;let hn:(l.mergeSort (λa b=>decide (a≤b))).Nodup:=(ang _ _).nodup_iff.mpr h;exact(hs.and hn).imp λ⟨a,b⟩=>by simp at a;omega
def cz.wr{C4:fy (Key×V)}{C3:fy (fy Z4)}{lo hi:Z4}(h:cz C4 (λk=>iF C3 lo hi k)):WrN C3 lo hi C4.length:=by let⟨ns,h1,h2,h3⟩:=cz.ns h;let⟨a,b,c⟩:=Ff h2;let:=congrArg List.length h1;rw[aiE,aiE] at this;exact{a,c,λk=>by rw[b.mem_iff,h3 k],by rw[b.length_eq];omega}
def NZ(wd:Z5)(C3:fy (fy Z4))(C6:Z4)(d:Z5)(row:fy Z4):Z3:=row.length=d+1/\row[0]?=some ↥wd/\∀b:Z5,b<d->∃n:Z5,row[b+1]?=some ↥n/\WrN C3 (C6+b) (C6+d) n
def i8(wd:Z5)(C3:fy (fy Z4))(C6:Z4)(C1:fy (fy Z4)):Z3:=∀(d:Z5)row,C1[d]?=some row->NZ wd C3 C6 d row
def aao(wd:Z5)(C3:fy (fy Z4))(C6 b:Z4)(d n:Z5):Z3:=(b = -1->n=wd)/\(b≠-1->WrN C3 (C6+b) (C6+d) n)
def OP{wd:Z5}{C3:fy (fy Z4)}{C6:Z4}{C1:fy (fy Z4)}(h:i8 wd C3 C6 C1){ws:fy Z6}{d n:Z5}(b:d<C1.length)(hs:aao wd C3 C6 (bA ws d) d n):szD C1 ws d =↥n:=by
 let e:C1[d]?=some C1[d]:=aiG b;let⟨h1,h2,h3⟩:=h d _ e;unfold szD;rw[ai0,ai0,e,akA];rcases iA ws d with a|⟨i,a,hi,_⟩
 .rw[a,show((-1:Z4)+1).toNat=0 from J,h2,hs.1 a];rfl
 .let⟨m,f,c⟩:=h3 i hi;let:=hs.2 o6;rw[a] at this;rw[a,show(↥i+1).toNat=i+1 by omega,f,WrN.one this c];rfl
def II{α:Type}{l:fy α}{x y:α}{i:Z5}(e:(l++[x])[i]?=some y):(i<l.length/\l[i]?=some y)∨(i=l.length/\y=x):=by grind
inductive qj(CD:jl)(vs:fy V)(H:Hp)(Q:VK)(E:XK):Z3
 |m (q:jl) (wd:Z5) (C2 C3:fy (fy Z4)) (C6:Z4) (d:Z5)(_:vs=[.ref q,.int C6,.int (d:Z4)])(_:uP CD H q wd C2 C3)(_:d≤20)(_:0≤C6)(_:C6+d<C2.length)(_:∀(l:jl)(row:fy Z4)H',H' l=some (.lst (row.map Z8))->H l=Z0->NZ wd C3 C6 d row->aj H H'->Q (.ref l) H')
def rkW(w:Z6):Z4:=if w=wN then 0 else if w=wW then 1 else if w=wS then 2 else 3
def vm{α S L:Type}{g:α->S->fy L×S}{I:S->Z3}:∀{as:fy α}{s:S},(∀ a∈as,∀s,I s->I (g a s).2)->I s->I (vL g as s).2
 |[],_,_,hs=>hs
 |a::as,s,h,hs=>vm (as:=as) (λb c=>h b<|ai3 _ c)<|h a ajM s hs
def AJ{a b:fy Z4}(h:Le a b):∀p:fy Z4,Le (p++a) (p++b)
 |[]=>h
 |x::p=>by show HT.lexLt (x ::(p++b)) (x ::(p++a))=Z2;rw[HT.gr,aiN rfl];exact AJ h p
def Xl{x y:Z4}(h:x<y)(a b:fy Z4):Le (x::a) (y::b):=by show HT.lexLt (y::b) (x::a)=Z2;rw[HT.gr,aiL o6];exact ai1 o6
section
variable{nx:fy Z6->fy Z6}{bd:fy Z6->Z4}
def yO:∀(f:Z5)(p:fy Z6)(b:nt Lf),(visit nx bd f p b).2=b∨∃r c,(visit nx bd f p b).2=some (p++r,c)
 |0,p,b=>.inl J
 |f+1,p,b=>by
  unfold visit;split
  .exact .inl J
  .split
   .exact .inr {[],_,by rw[akq]}
   .refine vm (I:=λs:nt Lf=>s=b∨∃r c,s=some (p++r,c)) (λa _ s hs=>?_) (.inl J);rcases yO f (p++[a]) s with e|⟨r,c,e⟩
    .rw[e];exact hs
    .exact .inr {a::r,c,by rw[e,akL];rfl}
def yN{ws:fy Z6}(n:∀k w,ws[k]?=some w->w∈nx (ws.take k))(l:nx ws=[])(H:∀k,bd (ws.take k)≤bd ws)(hs:∀p,(nx p).Pairwise λa b=>rkW a<rkW b):∀(f k:Z5)(b:nt Lf),k≤ws.length->ws.length<f+k->∃x,(visit nx bd f (ws.take k) b).2=some x/\x.2≤bd ws/\(x.2=bd ws->b=some x∨Le (x.1.map rkW) (ws.map rkW))
 |0,k,b,h1,h2=>by omega
 |f+1,k,b,h1,h2=>by
  unfold visit;split
  .rename_i L;cases b with
   |none=>cases L
   |some y=>exact{y,J,amr (ajm L)<|H k,λ_=>.inl J}
  .split
   .rename_i he;let C:k=ws.length:=by
     rcases ams k ws.length with z|z
     .let:=n k _<|aiG z;rw[he] at this;cases this
     .omega
    let tl:ws.take k=ws:=ajA o6;rw[tl];exact{1,ajL _,λ_=>.inr<|Le.refl _}
   .rename_i v;by_cases C:k<ws.length
    .let e:ws[k]?=some ws[k]:=aiG C;let⟨i,h,A⟩:=List.append_of_mem<|n k _ e;let tk:ws.take k++[ws[k]]=ws.take (k+1):=by rw[aiZ,e];rfl
     let q:ws=ws.take k++ws[k]::ws.drop (k+1):=by rw[←akx C,alD]
     let m:=hs<|ws.take k;rw[A] at m ⊢;let t:=(List.pairwise_append.mp m).2.2;let h0:∀s,s =(vL (λw=>visit nx bd f (ws.take k++[w])) i b).2->s=b∨∃ w∈i,∃r c,s=some (ws.take k++w::r,c):=λs es=>by
      rw[es];refine vm (I:=λs:nt Lf=>s=b∨∃ w∈i,∃r c,s=some (ws.take k++w::r,c)) (λa Y s hs=>?_)<|.inl J;rcases yO (nx:=nx) (bd:=bd) f (ws.take k++[a]) s with e|⟨r,c,e⟩
      .rw[e];exact hs
      .exact .inr {a,Y,r,c,by rw[e,akL];rfl}
     rw[qI];generalize hb1:(vL (λw=>visit nx bd f (ws.take k++[w])) i b).2=b1;let u:=h0 b1 hb1.symm;let⟨x,hx,F,B⟩:=yN n l H hs f (k+1) b1 o6 o6;let U:=fK.list (g:=λw=>visit nx bd f<|ws.take k++[w]) (λw s=>qm f _ s) h<|some x;let hv:(vL (λw=>visit nx bd f (ws.take k++[w])) (ws[k]::h) b1).2 =(vL (λw=>visit nx bd f (ws.take k++[w])) h (some x)).2:=by show(vL _ h (visit nx bd f (ws.take k++[ws[k]]) b1).2).2=_;rw[tk,hx]
     show ∃y,(vL (λw=>visit nx bd f<|ws.take k++[w]) (ws[k]::h) b1).2=some y/\_;rw[hv];let fin:x.2=bd ws->b=some x∨Le (x.1.map rkW) (ws.map rkW):=λex=>by
      rcases B ex with z|z
      .rcases u with o|⟨w,hw,r,c,o⟩
       .exact .inl (by rwa[←o])
       .rw[z] at o;cases o;refine .inr ?_;let O:=congrArg (List.map rkW) q;rw[aja,ajl] at O;rw[O,aja,ajl];exact AJ (Xl (t w hw _ ajM) _ _) _
      .exact .inr z
     rcases U.pos with z|⟨y,j,z,_,_,S⟩
     .exact⟨x,z,F,fin⟩
     .let:=S x rfl;exact{y,z,o6,λe=>by omega}
    .let tl:ws.take k=ws:=ajA o6;exact absurd (by rwa[tl]) v
end
def vM{nx:fy Z6->fy Z6}{bd:fy Z6->Z4}{G:Lf->Z3}{W:fy Z6->Z3}(e:∀ws w,W ws->w∈nx ws->W (ws++[w]))(c:∀ws,W ws->nx ws=[]->G (ws,bd ws)):∀(f:Z5)(ws:fy Z6)(b:nt Lf),W ws->(∀y,b=some y->G y)->∀y,(visit nx bd f ws b).2=some y->G y
 |0,ws,b,_,h=>h
 |f+1,ws,b,hw,h=>by
  unfold visit;split
  .exact h
  .split
   .rename_i hn;intro y g;let:(ws,bd ws)=y:=aiY g;rw[←this];exact c ws hw hn
   .exact vm (I:=λb:nt Lf=>∀y,b=some y->G y) (λw a s hs=>vM e c f (ws++[w]) s (e ws w hw a) hs) h
def Wd4(w:Z6):Z3:=w=wN∨w=wW∨w=wS∨w=wL
def gG(C0:fy Z4)(ws:fy Z6):Z3:=∀k w,ws[k]?=some w->w∈bP C0 (ws.take k)
def gG.snoc{C0:fy Z4}{ws:fy Z6}{w:Z6}(h:gG C0 ws)(a:w∈bP C0 ws):gG C0 (ws++[w]):=λk x e=>by
 rcases al9 k ws.length with c|c|c
 .rw[aiM c] at e;rw[ajX o6];exact h k x e
 .subst c;rw[aiP<|aiK _] at e;simp at e;subst e;rwa[ajX<|aiK _,ai7]
 .rw[ajv (by simp;omega)] at e;cases e
def gG.ok{C0:fy Z4}{ws:fy Z6}(h:gG C0 ws):∀k,VW (ws.take k)/\VN C0 (ws.take k)
 |0=>⟨VW.nil,VN.nil⟩
 |k+1=>by
  let⟨h1,h2⟩:=h.ok k;cases e:ws[k]? with
  |none=>have c:=amg.mp e;rw[ajA o6] at h1 h2 ⊢;exact⟨h1,h2⟩
  |some w=>let⟨f,b,a⟩:=jD<|h k w e;rw[aiZ,e];exact{h1.snoc a,h2.snoc b a}
def gG.vw{C0:fy Z4}{ws:fy Z6}(h:gG C0 ws):VW ws:=by let:=(h.ok ws.length).1;rwa[ai7] at this
def gG.vn{C0:fy Z4}{ws:fy Z6}(h:gG C0 ws):VN C0 ws:=by let:=(h.ok ws.length).2;rwa[ai7] at this
def QG{a:Z4}{ws:fy Z6}{w:Z6}(h:w∈cF a ws):Wd4 w:=by unfold cF at h;unfold Wd4;grind
def gG.wd{C0:fy Z4}{ws:fy Z6}(h:gG C0 ws):∀ w∈ws,Wd4 w:=λw a=>by let⟨k,b,rfl⟩:=akC a;let⟨c,_,e⟩:=jD<|h k _<|aiG b;exact QG e
def Ca:rkW wN=0/\rkW wW=1/\rkW wS=2/\rkW wL=3:=by decide +kernel
def GK(C0:fy Z4)(p:fy Z6):(bP C0 p).Pairwise λa b=>rkW a<rkW b:=by
 let⟨a,b,c,d⟩:=Ca;unfold bP;split
 .exact .nil
 .unfold cF;split <;> split <;> split <;> simp[a,b,c,d]
def abD{wd:Z5}{C3 C1:fy (fy Z4)}{b:Z4}{C0:fy Z4}{r0 r1 r2 r3:Z4}(h:mP wd C3)(hn:C1.length=C0.length)(q:C0.length≤7)(g:i8 wd C3 b C1)(f:∀ x∈r0::r1::r2::r3::C0,0≤x/\x≤1000000000000):Fit C1 C0 r0 r1 r2 r3:=by
 let s:=h.most;refine{o6,hn.symm,λi xs e=>(g i xs e).1,λxs a x c=>?_,λx a=>f x (by simp[a]),λx a=>f x (by simp only[List.mem_cons] at a ⊢;grind)};let⟨d,m,rfl⟩:=akC a;let⟨h1,h2,h3⟩:=g d _<|aiG m;let⟨j,l,rfl⟩:=akC c;cases j with
 |zero=>rw[aiG l] at h2;let:=aiY h2;rw[this];omega
 |succ j=>
  let⟨n,e,ns,p,o,r⟩:=h3 j o6;rw[aiG l] at e;let:=aiY e;let:=G2 p λx a=>CY h<|(o x).mp a
  omega
section
variable{C1:fy (fy Z4)}{C0:fy Z4}{r0 r1 r2 r3:Z4}
def Fit.sz1(F:Fit C1 C0 r0 r1 r2 r3)(ws:fy Z6)(d:Z5):szD C1 ws d≤1000000000000:=by
 by_cases a:d<C1.length
 .let⟨_,_,_,_,h⟩:=F.sz ws a;exact h
 .unfold szD;rw[show C1.getD d []=[] by rw[ai0,ajv o6];rfl];simp
def vZ{a b A B:Z4}(h0:0≤a)(h1:a≤A)(h2:0≤b)(h3:b≤B):a*b≤A*B:=Int.mul_le_mul h1 h3 h2 o6
def wG{f b:Z5->Z4}{L:Z4}(c:∀d,f d≤L)(a:0≤L):∀k d:Z5,wyF f b k d≤↥k*L
 |0,d=>by simp[wyF]
 |k+1,d=>by
  let h:=c d;let g:=wG (b:=b) c a k (b d).toNat;let z:0≤↥k*L:=ajI o6 a;let e:((k+1:Z5):Z4)*L =↥k*L+L:=by rw[akH,amK];simp
  show f d +(if b d<0 then 0 else wyF f b k (b d).toNat)≤_;rw[e];split <;> omega
def qc{c:Z5->Z4}{B:Z4}:∀{k:Z5},(∀d,d<k->c d≤B)->sumTo c k≤↥k*B
 |0,_=>by show↥0≤_;simp
 |k+1,h=>by
  let:=qc (k:=k) λd a=>h d o6
  let h2:=h k o6;let e:((k+1:Z5):Z4)*B =↥k*B+B:=by rw[akH,amK];simp
  show sumTo c k+c k≤_;omega
def Fit.adB(F:Fit C1 C0 r0 r1 r2 r3)(ws:fy Z6){d:Z5}(n:d<C1.length):bB C1 C0 r0 r1 r2 r3 ws d≤10 ^ 50:=by
 let u:=F.b3 r0 o8;let i:=F.b3 r1 o8;let t:=F.b3 r2 o8;let j:=F.b3 r3 o8;let q:=F.n7;let l:=F.sz0 ws;let s1:=F.sz1 ws;let m:=F.wt0 d;let p:C0.getD d 0≤1000000000000:=(F.b2 _ (by rw[ai0,aiG (by rwa[F.nw])];exact ajF _)).2;let c:∀e,xD C1 r2 r3 ws e≤10 ^ 25:=λe=>by let:=vZ j.1 j.2 (l e)<|s1 e;show r2+r3*szD C1 ws e≤_;omega
 let g:cI C1 r2 r3 ws d≤10 ^ 26:=by let h:=wG (f:=xD C1 r2 r3 ws) (b:=bA ws) c o7 (d+1) d;let h2:((d+1:Z5):Z4)*10 ^ 25≤10*10 ^ 25:=alN o6 o7;show wyF _ _ _ _≤_;exact amr h<|amr h2 o7
 let a:0≤cI C1 r2 r3 ws d:=by rw[←nv];exact F.Hv ws _
 unfold bB;split
 .decide
 .let s:=vZ i.1 i.2 (show 0≤↥C1.length -↥d by omega) (show↥C1.length -↥d≤10 by omega);let o:0≤r1*(↥C1.length -↥d):=ajI i.1 o6;let p2:=vZ (show 0≤r0+r1*(↥C1.length -↥d) by omega) (show r0+r1*(↥C1.length -↥d)≤10 ^ 14 by omega) (l d)<|s1 d;let r:=vZ m p a g;omega
def Fit.aii(F:Fit C1 C0 r0 r1 r2 r3)(ws:fy Z6):sumTo (bB C1 C0 r0 r1 r2 r3 ws) C1.length<10 ^ 60:=by
 let h:=qc (c:=bB C1 C0 r0 r1 r2 r3 ws) (B:=10 ^ 50) (k:=C1.length) λd a=>F.adB ws a
 let b:=F.n7;let h2:((C1.length:Z5):Z4)*10 ^ 50≤10*10 ^ 50:=alN o6 o7;exact Int.lt_of_le_of_lt (amr h h2) o7
structure aeC(C1:fy (fy Z4))(C0:fy Z4)(r0 r1 r2 r3:Z4)(x:Lf):Z3 where
 nx:gG C0 x.1
 len:x.1.length=C0.length
 val:x.2=sumTo (bB C1 C0 r0 r1 r2 r3 x.1) x.1.length
 n0:0≤x.2
 n60:x.2<10 ^ 60
 opt:∀ws,gG C0 ws->ws.length=C0.length->x.2≤sumTo (bB C1 C0 r0 r1 r2 r3 ws) ws.length/\(x.2=sumTo (bB C1 C0 r0 r1 r2 r3 ws) ws.length->Le (x.1.map rkW) (ws.map rkW))
def Dc(F:Fit C1 C0 r0 r1 r2 r3){l:fy Lf}{x:Lf}(m:tZ C1 C0 r0 r1 r2 r3 (C1.length+1) [] Z0 =(l,some x)):aeC C1 C0 r0 r1 r2 r3 x:=by
 let j:=F.nw;let c:(tZ C1 C0 r0 r1 r2 r3 (C1.length+1) [] Z0).2=some x:=by rw[m]
 let⟨h1,h2,h3⟩:=vM (nx:=bP C0) (bd:=bdF C1 C0 r0 r1 r2 r3) (G:=λy:Lf=>gG C0 y.1/\y.1.length=C0.length/\y.2=bdF C1 C0 r0 r1 r2 r3 y.1) (W:=λws=>gG C0 ws/\ws.length≤C0.length)
  (λws w h b=>by let⟨o,e,_⟩:=jD b;let:=(aiH.mp e).1;exact{h.1.snoc b,by simp;omega})
  (λws h hn=>{h.1,Nat.le_antisymm h.2<|(pL C0 ws).mp hn,J}) _ _ _ {λk w e=>(by simp at e),o8} (λy e=>by cases e) x c
 let a:x.2=sumTo (bB C1 C0 r0 r1 r2 r3 x.1) x.1.length:=by rw[h3];exact Cj o6
 refine{h1,h2,a,by rw[h3];exact FQ F,by rw[a,show x.1.length=C1.length by omega];exact F.aii _,λws b n=>?_};let⟨y,e,f,g⟩:=yN (nx:=bP C0) (bd:=bdF C1 C0 r0 r1 r2 r3) (ws:=ws) b ((pL C0 ws).mpr o6) (λk=>F.mono b.vn k) (GK C0) (C1.length+1) 0 Z0 o6 o6;rw[List.take_zero] at e;let:y=x:=aiY<|e.symm.trans c;subst this;let i:bdF C1 C0 r0 r1 r2 r3 ws=sumTo (bB C1 C0 r0 r1 r2 r3 ws) ws.length:=Cj o6;rw[i] at f g;exact{f,λz=>(g z).resolve_left λw=>by cases w}
end
def gw(ns:fy Z4)(k:Z4):Z4:=if k <↥ns.length then ns.getD k.toNat 0 else 37*k+11
def fC(c k:Z4):Z4:=(c+7919*k)*48271 % 2147483647*((c+7919*k)*48271 % 2147483647) % 2147483629
def Dp(c k:Z4):0≤fC c k/\fC c k<2147483629:=by unfold fC;exact{aj3 _ o5,ajO _ o5}
def fH(c k:Z4):Z4:=if (c+k) % 4=0 then(c / 4+k) % 3 else if (c+k) % 4=1 then 18446744073709551616-1 -(c / 4+k) % 3 else if (c+k) % 4=2 then c % 18446744073709551616 else
 (fC c k*8589934592+fC c (k+50)) % 18446744073709551616
def HB(c k:Z4):0≤fH c k/\fH c k<2 ^ 64:=by
 unfold fH;split
 .omega
 .split
  .omega
  .split
   .omega
   .exact{aj3 _ o5,ajO _ o5}
inductive xo(K:Frag)(vs:fy V)(H:Hp)(Q:VK)(E:XK):Z3
 |m (a:jl) (ns:fy Z4) (k:Z5)(_:vs=[.ref a,.int (k:Z4)])(_:X0 K H a (ns.map Z8))(_:Q (.int (gw ns k)) H)
inductive xH(vs:fy V)(H:Hp)(Q:VK)(E:XK):Z3
 |m (c k:Z4)(_:vs=[.int c,.int k])(_:Q (.int (fC c k)) H)
inductive uc(vs:fy V)(H:Hp)(Q:VK)(E:XK):Z3
 |m (c k:Z4)(_:vs=[.int c,.int k])(_:Q (.int (fH c k)) H)
def stF(q a c dl g:jl)(f e b:V):fy (Z6×V):=[("days",.ref q),("rule",f),("seek",e),("each",b),("shelves",.ref a),("noted",.ref c),("done",.ref dl),("seals",.ref g)]
structure StA(CS:jl)(H:Hp)(p q sl nl dl se:jl)(rl sk ea:V):Z3 where
 ex:∃dx,H p=some (.ins CS dx (stF q sl nl dl se rl sk ea))
def sR{q a c dl g:jl}{f e b:V}:(stF q a c dl g f e b).lookup (Str.ofString "days")=some (V.ref q):=rfl
def qi{q a c dl g:jl}{f e b:V}:(stF q a c dl g f e b).lookup (Str.ofString "shelves")=some (V.ref a):=rfl
def AK{q b a dl g:jl}{f e c:V}:(stF q b a dl g f e c).lookup (Str.ofString "noted")=some (V.ref a):=rfl
def yf{q a c dl g:jl}{f e b:V}:(stF q a c dl g f e b).lookup (Str.ofString "done")=some (V.ref dl):=rfl
def i7{q a c dl g:jl}{f e b:V}{m:Z6}(h:((["days","rule","seek","each","shelves","noted","done","seals"]:fy Z6).all (λk=>!(m==k)))=Z1):List.lookup m (stF q a c dl g f e b)=Z0:=by simp only[List.all_cons,List.all_nil,Bool.and_true,Bool.and_eq_true,Bool.not_eq_true'] at h;let⟨h1,h2,h3,h4,h5,h6,h7,h8⟩:=h;unfold stF;simp only[List.lookup,h1,h2,h3,h4,h5,h6,h7,h8]
def EJ{xs:fy V}{i:Z5}{v:V}(h:xs[i]?=some v):atI xs ↥i=some v:=bx h
inductive uf(CS:jl)(vs:fy V)(H:Hp)(Q:VK)(E:XK):Z3
 |m (p q sl nl dl se:jl) (rl sk ea:V) (DL:fy V)(_:vs=[.ref p])(_:StA CS H p q sl nl dl se rl sk ea)(_:H dl=some (.lst DL))(_:DL.length≤1000)(_:∀t,H t=Z0->Q (.ref t) (Z9 H t (.tup DL)))
def fset{α:Type}(f:Z5->α)(i:Z5)(x:α):Z5->α:=λj=>if j=i then x else f j
def eU{α:Type}{f:Z5->α}{i:Z5}{x:α}:fset f i x i=x:=aiN J
def di{α:Type}{f:Z5->α}{i j:Z5}{x:α}(h:j≠i):fset f i x j=f j:=aiL h
def xm{α:Type}{f:Z5->α}{i:Z5}:fset f i (f i)=f:=funext λj=>by unfold fset;split <;> simp_all
def l3{α:Type}(f:Z5->α):fy α:=[f 0,f 1,f 2]
def MQ{α:Type}{f:Z5->α}{i:Z5}(h:i<3):(l3 f)[i]?=some (f i):=by
 match i,h with
 |0,_=>rfl
 |1,_=>rfl
 |2,_=>rfl
def abP{α:Type}{f:Z5->α}{i:Z5}{x:α}(h:i<3):(l3 f).set i x=l3 (fset f i x):=by
 match i,h with
 |0,_=>rfl
 |1,_=>rfl
 |2,_=>rfl
def Uw{α a:Type}{f:Z5->α}{g:α->a}{i:Z5}{x:α}:l3 (fset (λj=>g (f j)) i (g x))=l3 (λj=>g (fset f i x j)):=by unfold l3 fset;simp only[apply_ite g]
def agS{α:Type}{f:Z5->α}{i:Z5}(h:i<3):ixN (l3 f).length ↥i=some i:=by
 match i,h with
 |0,_=>rfl
 |1,_=>rfl
 |2,_=>rfl
def Bm{P:Z5->Z3}(h0:P 0)(h1:P 1)(h2:P 2){i:Z5}(h:i<3):P i:=by
 match i,h with
 |0,_=>exact h0
 |1,_=>exact h1
 |2,_=>exact h2
inductive uh(CS CD:jl)(vs:fy V)(H:Hp)(Q:VK)(E:XK):Z3
 |m (p q sl nl dl se ta sa:jl) (TL SL:fy jl) (wd:Z5) (C2 C3:fy (fy Z4)) (rl sk ea:V)(_:vs=[.ref p])(_:StA CS H p q sl nl dl se rl sk ea)(_:bJ CD H q ta sa TL SL wd C2 C3)(_:Q (.int ((C2.length:Z4)-1)) H)
inductive sd(C:jl)(vs:fy V)(H:Hp)(Q:VK)(E:XK):Z3
 |m (x d t a:jl) (fl:Z4) (C4:fy (Key×V))(_:vs=[.ref x,.ref t])(_:H t=some (.tup [.str "put",.ref a]))(_:iT C H x d fl C4)(_:C4.length<1000)(_:∀H',iT C H' x d (fl+1) (putK C4 (.inl fl) (.ref a))->aW [x,d] H H'->Q .non H')
def cN(H:Hp)(F:fy jl):Z3:=∀ x∈F,(∃a,H x=some (.dK a))∨(∃xs,H x=some (.lst xs))∨∃C dx fs,H x=some (.ins C dx fs)/\List.lookup ("day":Str) fs=Z0
section
variable{H H':Hp}{F G:fy jl}{CW CG:jl}
def cN.tup(h:cN H F){t:jl}{xs:fy V}(e:H t=some (.tup xs)):t∉F:=λa=>by rcases h t a with⟨_,z⟩|⟨_,z⟩|⟨_,_,_,z,_⟩ <;>(rw[e] at z;cases z)
def PAt.dU{a:jl}{f:Bool}{b d:Z5}{rows:fy (Z5×Z5)}{c:Z4}(h:PAt CW CG H a f b d rows c)(k:aW F H H')(g:cN H F):PAt CW CG H' a f b d rows c:=by
 let⟨dx,r,R,h1,h2,h3⟩:=h;refine{dx,r,R,k _ _ h1 λi=>?_,k _ _ h2<|g.tup h2,h3.mono λt xs e=>k _ _ e<|g.tup e};rcases g _ i with⟨_,z⟩|⟨_,z⟩|⟨_,_,_,z,hn⟩
 .rw[h1] at z;cases z
 .rw[h1] at z;cases z
 .rw[h1] at z;rw[←(HO.ins.inj<|aiY z).2.2,show List.lookup ("day":Str) (pfs f b d r c _)=some (V.int ↥d) by cases f <;> exact Ym] at hn;cases hn
def cM.dU{v:V}{u:PcU}(h:cM CW CG H v u)(k:aW F H H')(b:cN H F):cM CW CG H' v u:=let ⟨a,h1,h2,h3⟩:=h;{a,h1,PAt.dU h2 k b,h3}
def cN.ls{a:jl}{xs:fy V}(h:H a=some (.lst xs))(r:cN H F):cN H (a::F):=λx b=>(aiV.mp b).elim (λz=>by rw[z];exact .inr<|.inl {_,h})<|r x
def cN.nil:cN H []:=λ_ h=>by cases h
def cN.sh{C p d:jl}{fl:Z4}{C4:fy (Key×V)}(h:iT C H p d fl C4):cN H [p,d]:=λx a=>by
 let⟨dx,h1,h2⟩:=h;simp only[List.mem_cons,List.not_mem_nil,or_false] at a;rcases a with rfl|rfl
 .exact .inr (.inr {_,_,_,h1,vJ o4 o4})
 .exact .inl {_,h2}
def cN.days{C p ta sa:jl}{TL SL:fy jl}{wd:Z5}{C2 C3:fy (fy Z4)}(D:bJ C H p ta sa TL SL wd C2 C3):cN H (foot p ta sa TL SL):=λx b=>by
 rcases D.lists b with⟨dx,fs,e⟩|⟨xs,e⟩
 .let⟨g,f⟩:=D.ob;by_cases c:x=p
  .subst c;exact .inr<|.inr {_,_,_,f,lG o4 o4 o4 o4}
  .simp only[foot,List.mem_cons,List.mem_append] at b;rcases b with z|z|z|z|z
   .exact absurd z c
   .rw[z,D.tl] at e;cases e
   .rw[z,D.sl] at e;cases e
   .let⟨i,hi⟩:=ajs.mp z;let a:=(aiH.mp hi).1;rw[D.tls.len] at a;rw[D.tls.get i x _ hi<|aiG a] at e;cases e
   .let⟨i,hi⟩:=ajs.mp z;let a:=(aiH.mp hi).1;rw[D.sls.len] at a;rw[D.sls.get i x _ hi<|aiG a] at e;cases e
 .exact .inr (.inl ⟨xs,e⟩)
end
abbrev cY:=Z4->nt PcU
structure ShC(C CW CG:jl)(H:Hp)(p d:jl)(fl:Z4)(M:cY)(n:Z5):Z3 where
 ex:∃C4,iT C H p d fl C4/\jN (cM CW CG H) C4 M/\C4.length≤n
 fol:∀j u,M j=some u->j<fl
def ShC.dU{C CW CG:jl}{H H':Hp}{F:fy jl}{p d:jl}{fl:Z4}{M:cY}{n:Z5}(h:ShC C CW CG H p d fl M n)(k:aW F H H')(b:cN H F)(a:p∉F)(c:d∉F):ShC C CW CG H' p d fl M n:=by let⟨C4,h1,h2,h3⟩:=h.ex;exact{{C4,h1.agH k a c,h2.mono λv u z=>cM.dU z k b,h3},h.fol}
def ShC.at_{C CW CG:jl}{H:Hp}{p d:jl}{fl:Z4}{M:cY}{n:Z5}(h:ShC C CW CG H p d fl M n):∃dx C4,H p=some (.ins C dx (sfs d fl))/\H d=some (.dK C4):=by let⟨C4,⟨dx,h1,h2⟩,_⟩:=h.ex;exact⟨dx,C4,h1,h2⟩
structure SAd where
 p:jl
 q:jl
 sl:jl
 nl:jl
 dl:jl
 se:jl
 x:Z5->jl
 d:Z5->jl
 ta:jl
 sa:jl
 TL:fy jl
 SL:fy jl
 rl:V
 sk:V
 ea:V
 NL:fy V
 n:Z5->Z5
def SAd.ft(A:SAd):fy jl:=foot A.q A.ta A.sa A.TL A.SL
def SAd.sm(A:SAd):fy jl:=[A.p,A.sl,A.nl,A.dl,A.x 0,A.x 1,A.x 2,A.d 0,A.d 1,A.d 2]
def SAd.mx(A:SAd){i:Z5}(h:i<3):A.x i∈A.sm:=Bm (P:=λi=>A.x i∈A.sm) (by simp[SAd.sm]) (by simp[SAd.sm]) (by simp[SAd.sm]) h
def SAd.md(A:SAd){i:Z5}(h:i<3):A.d i∈A.sm:=Bm (P:=λi=>A.d i∈A.sm) (by simp[SAd.sm]) (by simp[SAd.sm]) (by simp[SAd.sm]) h
def SAd.Pn{A:SAd}{b:jl}(h:b∈A.sm):b∈[A.p,A.sl,A.nl,A.dl]∨∃i,i<3/\(b=A.x i∨b=A.d i):=by
 simp only[SAd.sm,List.mem_cons,List.not_mem_nil,or_false] at h ⊢;rcases h with h|h|h|h|h|h|h|h|h|h
 .exact .inl (.inl h)
 .exact .inl (.inr<|.inl h)
 .exact .inl (.inr<|.inr<|.inl h)
 .exact .inl (.inr<|.inr<|.inr h)
 .exact .inr {(0),o7,.inl h}
 .exact .inr {(1),o7,.inl h}
 .exact .inr {(2),o7,.inl h}
 .exact .inr {(0),o7,.inr h}
 .exact .inr {(1),o7,.inr h}
 .exact .inr {(2),o7,.inr h}
structure StC(CS CD C CW CG:jl)(H:Hp)(A:SAd)(wd:Z5)(C2 C3:fy (fy Z4))(us:fy PcU)(M:Z5->cY):Z3 where
 st:StA CS H A.p A.q A.sl A.nl A.dl A.se A.rl A.sk A.ea
 sl:H A.sl=some (.lst (l3 λi=>.ref (A.x i)))
 D:bJ CD H A.q A.ta A.sa A.TL A.SL wd C2 C3
 nl:H A.nl=some (.lst A.NL)
 nn:A.NL.length=us.length
 no:∀(k:Z5)u,us[k]?=some u->∃t a,A.NL[k]?=some (.ref t)/\H t=some (.tup [.str "put",.ref a])/\cM CW CG H (.ref a) u
 dl:H A.dl=some (.lst (l3 λi=>.int (A.n i:Z4)))
 sh:∀i,i<3->ShC C CW CG H (A.x i) (A.d i) (A.n i:Z4) (M i) 61
 dom:∀i,i<3->∀m,(M i m).isSome=Z1↔0≤m/\m <(A.n i:Z4)
 nle:∀i,i<3->A.n i≤us.length
 n61:us.length≤61
 tn:C2.length≤100
 S:mP wd C3
 T:∀ t∈C2,TabOk wd t
 nd:A.sl≠A.nl/\A.sl≠A.dl/\A.nl≠A.dl
 nx:∀i j,i<3->j<3->i≠j->A.x i≠A.x j/\A.d i≠A.d j
 ap:∀ b∈A.sm,b∉A.ft
section
variable{CS CD C CW CG:jl}{H H':Hp}{A:SAd}{wd:Z5}{C2 C3:fy (fy Z4)}{us:fy PcU}{M:Z5->cY}{F:fy jl}
def StC.here(h:StC CS CD C CW CG H A wd C2 C3 us M):∀ b∈A.sm++A.ft,∃o,H b=some o:=λb a=>by
 rcases aiX.mp a with a|a
 .rcases SAd.Pn a with a|⟨i,hi,a⟩
  .let⟨_,h1⟩:=h.st;let h8:=h.sl;let h9:=h.nl;let h10:=h.dl;simp only[List.mem_cons,List.not_mem_nil,or_false] at a;rcases a with rfl|rfl|rfl|rfl <;> exact{_,by assumption}
  .let⟨dx,C4,h1,h2⟩:=(h.sh i hi).at_;rcases a with rfl|rfl
   .exact{_,h1}
   .exact{_,h2}
 .exact h.D.here b a
def StC.dU(h:StC CS CD C CW CG H A wd C2 C3 us M)(k:aW F H H')(g:cN H F)(l:∀ b∈A.sm++A.ft,b∉F):StC CS CD C CW CG H' A wd C2 C3 us M:=by
 let c:∀ b∈A.sm,b∉F:=λb f=>l b<|ajZ _ f
 let⟨dx,h1⟩:=h.st;refine{{dx,k _ _ h1<|c _ (by simp[SAd.sm])},k _ _ h.sl<|c _ (by simp[SAd.sm]),h.D.apart k λb f=>l b<|ajh _ f,k _ _ h.nl<|c _ (by simp[SAd.sm]),h.nn,λn u e=>?_,k _ _ h.dl<|c _ (by simp[SAd.sm]),λi hi=>(h.sh i hi).dU k g (c _<|A.mx hi)<|c _<|A.md hi,h.dom,h.nle,h.n61,h.tn,h.S,h.T,h.nd,h.nx,h.ap};let⟨t,a,o,j,m⟩:=h.no n u e;exact{t,a,o,k _ _ j<|g.tup j,cM.dU m k g}
def StC.same(h:StC CS CD C CW CG H A wd C2 C3 us M)(s:aj H H'):StC CS CD C CW CG H' A wd C2 C3 us M:=h.dU (F:=[]) (aW.of_same s) cN.nil λ_ _ h=>by cases h
def StC.Vb(h:StC CS CD C CW CG H A wd C2 C3 us M):uP CD H A.q wd C2 C3:={{_,_,_,_,h.D},h.S,h.T,by let:=h.tn;omega}
def StC.qf(h:StC CS CD C CW CG H A wd C2 C3 us M){a:jl}{xs:fy V}(b:H a=some (.lst xs)){i:Z5}(hi:i<3):a≠A.x i/\a≠A.d i/\a≠A.p:=by let⟨dx,C4,h1,h2⟩:=(h.sh i hi).at_;let⟨_,h3⟩:=h.st;exact{bU b h1 nofun,bU b h2 nofun,bU b h3 nofun}
def StC.aaU(h:StC CS CD C CW CG H A wd C2 C3 us M){i:Z5}(hi:i<3):A.p≠A.x i/\A.p≠A.d i:=by let⟨dx,C4,h1,h2⟩:=(h.sh i hi).at_;let⟨_,h3⟩:=h.st;exact{bU h3 h1 (by intro z;injection z with _ _ z3;cases z3),bU h3 h2 nofun}
def StC.Ky(h:StC CS CD C CW CG H A wd C2 C3 us M){i j:Z5}(hi:i<3)(f:j<3):A.x i≠A.d j:=by let⟨dx,C4,h1,h2⟩:=(h.sh i hi).at_;let⟨e,b,c,a⟩:=(h.sh j f).at_;exact bU h1 a nofun
def StC.app(h:StC CS CD C CW CG H A wd C2 C3 us M)(y:us.length≤60){t a:jl}{u:PcU}(q:cM CW CG H (.ref a) u)(m:H t=some (.tup [.str "put",.ref a]))(hn:H' A.nl=some (.lst (A.NL++[.ref t])))(k:aW [A.nl] H H'):StC CS CD C CW CG H' {A with NL:=A.NL++[.ref t]} wd C2 C3 (us++[u]) M:=by
 let c:cN H [A.nl]:=cN.ls h.nl cN.nil;let⟨dx,h1⟩:=h.st;let l:∀i,i<3->A.x i∉[A.nl]/\A.d i∉[A.nl]:=λi hi=>by let:=h.qf h.nl hi;simp only[List.mem_singleton];exact⟨this.1.symm,this.2.1.symm⟩
 let f:=h.nd;refine{{dx,k _ _ h1<|⇑((h.qf h.nl (i:=0) o7).2.2.symm)},k _ _ h.sl (⇑f.1),h.D.apart k λb p s=>h.ap b (by rw[ai6.mp s];simp[SAd.sm]) p,hn,by simp[h.nn],λn v e=>?_,k _ _ h.dl (⇑f.2.2.symm),λi hi=>(h.sh i hi).dU k c (l i hi).1 (l i hi).2,h.dom,λi hi=>by let:=h.nle i hi;simp;omega,by simp;omega,h.tn,h.S,h.T,h.nd,h.nx,h.ap};by_cases j:n<us.length
 .rw[aiM j] at e;let⟨t',r,B,o,z⟩:=h.no n v e;exact{t',r,by show(A.NL++[V.ref t])[n]? = _;rw[aiM (by rwa[h.nn])];exact B,k _ _ o<|c.tup o,cM.dU z k c}
 .let g:n=us.length:=by let:=(aiH.mp e).1;simp at this;omega
  subst g;rw[aiP<|aiK _,anw] at e;cases e;exact{t,a,by show(A.NL++[V.ref t])[us.length]? = _;rw[←h.nn,aiP<|aiK _,anw];rfl,k _ _ m<|c.tup m,cM.dU q k c}
def SAd.re(A:SAd)(i:Z5)(b d':jl)(a:Z5):SAd:={A with x:=fset A.x i b,d:=fset A.d i d',n:=fset A.n i a}
def StC.re(h:StC CS CD C CW CG H A wd C2 C3 us M){i:Z5}(hi:i<3){g d':jl}{r:Z5}{U:cY}(k:aW F H H')(hF:cN H F)(O:∀ b∈F,b=A.sl∨b=A.dl∨b=A.x i∨b=A.d i)(a3:H' A.sl=some (.lst (l3 λj=>.ref (fset A.x i g j))))(a2:H' A.dl=some (.lst (l3 λj=>.int ((fset A.n i r j:Z5):Z4))))(hs:ShC C CW CG H' g d' ↥r U 61)(L:∀m,(U m).isSome=Z1↔0≤m/\m <↥r)(hn:r≤us.length)(hx:(g=A.x i/\d'=A.d i)∨(H g=Z0/\H d'=Z0)):StC CS CD C CW CG H' (A.re i g d' r) wd C2 C3 us (fset M i U):=by
 let nF:∀b,b≠A.sl->b≠A.dl->b≠A.x i->b≠A.d i->b∉F:=λb h1 h2 h3 h4 c=>by rcases O b c with z|z|z|z <;> contradiction
 let⟨dx,h1⟩:=h.st;let a0:=h.nd;let a6:=h.qf h.sl hi;let a5:=h.qf h.dl hi;let Y:=h.qf h.nl hi;let a1:∀ b∈F,b∈A.sm:=λb c=>by
  rcases O b c with z|z|z|z <;> rw[z]
  .simp[SAd.sm]
  .simp[SAd.sm]
  .exact A.mx hi
  .exact A.md hi
 let hp:=h.aaU hi;let fr:∀j,j<3->∀b o,H b=some o->b≠g∨g=A.x i:=λj f b o e=>by
  rcases hx with⟨z,_⟩|⟨z,_⟩
  .exact .inr z
  .exact .inl (ao e z)
 refine{{dx,k _ _ h1<|nF _ a6.2.2.symm a5.2.2.symm hp.1 hp.2},a3,h.D.apart k λb c B=>h.ap b (a1 b B) c,k _ _ h.nl<|nF _ a0.1.symm a0.2.2 Y.1 Y.2.1,h.nn,λn u e=>?_,a2,λj f=>?_,λj f m=>?_,λj f=>?_,h.n61,h.tn,h.S,h.T,h.nd,λj l f hl p=>?_,λb c=>?_}
 .let⟨t,a,e1,q,e3⟩:=h.no n u e;exact{t,a,e1,k _ _ q<|hF.tup q,cM.dU e3 k hF}
 .show ShC C CW CG H' (fset A.x i g j) (fset A.d i d' j) ((fset A.n i r j:Z5):Z4) (fset M i U j) 61;by_cases e:j=i
  .subst e;rwa[eU,eU,eU,eU]
  .rw[di e,di e,di e,di e];let l1:=h.qf h.sl f;let l2:=h.qf h.dl f;let l3:=h.nx j i f hi e;exact(h.sh j f).dU k hF (nF _ l1.1.symm l2.1.symm l3.1<|h.Ky f hi) (nF _ l1.2.1.symm l2.2.1.symm (h.Ky hi f).symm l3.2)
 .show(fset M i U j m).isSome=Z1↔0≤m/\m <((fset A.n i r j:Z5):Z4);by_cases e:j=i
  .subst e;rw[eU,eU];exact L m
  .rw[di e,di e];exact h.dom j f m
 .show fset A.n i r j≤_;by_cases e:j=i
  .subst e;rwa[eU]
  .rw[di e];exact h.nle j f
 .show fset A.x i g j≠fset A.x i g l/\fset A.d i d' j≠fset A.d i d' l;let y:∀j,j<3->j≠i->A.x j≠g/\A.d j≠d':=λj f e=>by
   rcases hx with⟨v,s⟩|⟨v,s⟩
   .rw[v,s];exact h.nx j i f hi e
   .let⟨dx,C4,g1,g2⟩:=(h.sh j f).at_;exact{ao g1 v,ao g2 s}
  by_cases e:j=i
  .subst e;rw[eU,eU,di p.symm,di p.symm];exact{(y l hl p.symm).1.symm,(y l hl p.symm).2.symm}
  .rw[di e,di e];by_cases q:l=i
   .subst q;rw[eU,eU];exact y j f e
   .rw[di q,di q];exact h.nx j l f hl p
 .let a4:∀b,b=g∨b=d'->b∉A.ft:=λb c B=>by
   rcases hx with⟨v,s⟩|⟨v,s⟩
   .rcases c with e|e
    .rw[e,v] at B;exact h.ap _ (A.mx hi) B
    .rw[e,s] at B;exact h.ap _ (A.md hi) B
   .let⟨o,q⟩:=h.D.here b B;rcases c with e|e
    .rw[e,v] at q;cases q
    .rw[e,s] at q;cases q
  rcases SAd.Pn c with c|⟨j,f,c⟩
  .exact h.ap b (by simp only[SAd.sm,SAd.re,List.mem_cons,List.not_mem_nil,or_false] at c ⊢;rcases c with z|z|z|z <;> simp[z])
  .let c:b=fset A.x i g j∨b=fset A.d i d' j:=c;by_cases e:j=i
   .subst e;rw[eU,eU] at c;exact a4 b c
   .rw[di e,di e] at c;rcases c with z|z <;> rw[z]
    .exact h.ap _ (A.mx f)
    .exact h.ap _ (A.md f)
end
def aaZ{l:fy jl}(h:l.Nodup)(k:Z5){b:jl}(a:b∈l.take k):b∉l.drop k:=λc=>by rw[←alD k l,amb] at h;exact h.2.2 b a b c J
def Alv(L:fy jl)(H:Hp):Z3:=∀ a∈L,H a≠Z0
def Alv.new{L:fy jl}{H:Hp}(h:Alv L H){b:jl}(e:H b=Z0):b∉L:=λz=>h b z e
def Alv.cons{L:fy jl}{H:Hp}(h:Alv L H){b:jl}{o:HO}(e:H b=some o):Alv (b::L) H:=λa c=>(aiV.mp c).elim (λz=>by rw[z,e];simp)<|h a
def Alv.mv{L:fy jl}{H H':Hp}(h:Alv L H)(k:∀b,H b≠Z0->H' b≠Z0):Alv L H':=λa c=>k a<|h a c
def mC{H H':Hp}(s:aj H H')(b:jl)(h:H b≠Z0):H' b≠Z0:=by
 cases e:H b with
 |none=>exact absurd e h
 |some o=>rw[s b o e];simp
def xT{H:Hp}{p:jl}{o:HO}(b:jl)(h:H b≠Z0):Z9 H p o b≠Z0:=by
 by_cases e:b=p
 .subst e;rw[af];simp
 .rw[ak e];exact h
def jt(us:fy PcU)(n k:Z5)(M:cY):cY:=λm=>if ↥n≤m/\m <(n+k:Z5) then us[m.toNat]? else M m
def SAd.add(A:SAd)(t:jl):SAd:={A.re 0 (A.x 0) (A.d 0) (A.n 0+1) with NL:=A.NL++[.ref t]}
inductive x8(CS CD C CW CG:jl)(vs:fy V)(H:Hp)(Q:VK)(E:XK):Z3
 |m (A:SAd) (wd:Z5) (C2 C3:fy (fy Z4)) (us:fy PcU) (M:Z5->cY) (t a:jl) (u:PcU)(_:vs=[.ref A.p,.ref t])(_:StC CS CD C CW CG H A wd C2 C3 us M)(_:A.n 0=us.length)(_:us.length≤60)(_:H t=some (.tup [.str "put",.ref a]))(_:cM CW CG H (.ref a) u)(_:∀H',StC CS CD C CW CG H' (A.add t) wd C2 C3 (us++[u]) (fset M 0 (uX (M 0) (us.length:Z4) (some u)))->aW [A.nl,A.dl,A.x 0,A.d 0] H H'->Q .non H')
inductive uD(C:jl)(vs:fy V)(H:Hp)(Q:VK)(E:XK):Z3
 |m (p dx l:jl) (xs:fy V)(_:vs=[.ref p,.ref l])(_:H p=some (.ins C dx []))(_:H l=some (.lst xs))(_:xs.length≤100)(_:∀t H',H' p=some (.ins C dx [("rules",.ref t)])->aW [p] H H'->Q .non H')
def rng(n:Z5):fy Z4:=(List.range n).map λk:Nat=>↥k
section
variable{us:fy PcU}{n k:Z5}{M:cY}{m:Z4}{u:PcU}
def Fp:jt us n 0 M=M:=funext λm=>aiL o6
def FW(h:us[n+k]?=some u):jt us n (k+1) M=uX (jt us n k M) ((n+k:Z5):Z4) (some u):=funext λm=>by
 by_cases e:m =((n+k:Z5):Z4)
 .subst e;rw[Cy];unfold jt;rw[aiN o6,show(((n+k:Z5)):Z4).toNat=n+k by omega,h]
 .rw[ye e];unfold jt;by_cases c:↥n≤m/\m <(n+k:Z5)
  .rw[aiN c,aiN o6]
  .rw[aiL c,aiL o6]
variable{f:Z5}
def CB(a:∀m,(M m).isSome=Z1↔0≤m/\m <↥f)(b:f=n)(e:jt us n k M m=some u):0≤m/\m <((n+k:Z5):Z4):=by
 unfold jt at e;split at e
 .omega
 .let:=(a m).mp (by rw[e];rfl);omega
def HZ(a:∀m,(M m).isSome=Z1↔0≤m/\m <↥f)(b:f=n)(e:n+k≤us.length)(m:Z4):(jt us n k M m).isSome=Z1↔0≤m/\m <((n+k:Z5):Z4):=by
 unfold jt;split
 .rename_i c;rw[aiG o6];simp;omega
 .rw[a m];omega
end
def F2(C4:fy (Key×V))(k:Key)(v:V):(putK C4 k v).length≤C4.length+1:=by rw[QJ];split <;> omega
def Qg{α:Type}{Pr:V->α->Z3}{C4:fy (Key×V)}{M:Z4->nt α}(h:jN Pr C4 M){N:Z5}(g:∀m u,M m=some u->0≤m/\m <↥N):C4.length≤N:=by
 let⟨ns,c⟩:=yd h.uF;let f:C4.length=ns.length:=by let:=congrArg List.length c;simpa using this
 let hn:ns.Nodup:=by let:=h.nd;rw[c] at this;exact(alp.mp this).imp λa b=>a<|congrArg Sum.inl b
 rw[f];refine kH N ns hn λx i=>?_
 let⟨u,e⟩:=akz.mp<|(h.keys c x).mp i;exact g x u e
section
variable{CS CD C CW CG:jl}{H H':Hp}{A:SAd}{wd:Z5}{C2 C3:fy (fy Z4)}{us:fy PcU}{M:Z5->cY}{m d:jl}{tb xs:fy Z4}
def StC.day(h:StC CS CD C CW CG H A wd C2 C3 us M)(v:bJ CD H' A.q A.ta A.sa (A.TL++[m]) (A.SL++[d]) wd (C2++[tb]) (C3++[xs]))(k:aW A.ft H H')(y:H m=Z0)(s:H d=Z0)(l:C2.length≤99)(F:mP wd (C3++[xs]))(j:∀ t∈C2++[tb],TabOk wd t):StC CS CD C CW CG H' {A with TL:=A.TL++[m],SL:=A.SL++[d]} wd (C2++[tb]) (C3++[xs]) us M:=by
 let c:cN H A.ft:=cN.days h.D;let⟨dx,h1⟩:=h.st;refine{{dx,k _ _ h1<|h.ap A.p (by simp[SAd.sm])},k _ _ h.sl<|h.ap A.sl (by simp[SAd.sm]),v,k _ _ h.nl<|h.ap A.nl (by simp[SAd.sm]),h.nn,λn u e=>?_,k _ _ h.dl<|h.ap A.dl (by simp[SAd.sm]),λi hi=>(h.sh i hi).dU k c (h.ap _<|A.mx hi)<|h.ap _<|A.md hi,h.dom,h.nle,h.n61,by simp;omega,F,j,h.nd,h.nx,λb f r=>?_}
 .let⟨t,a,B,g,x⟩:=h.no n u e;exact{t,a,B,k _ _ g<|c.tup g,cM.dU x k c}
 let⟨o,e⟩:=h.here b<|ajZ _ f;let z:b∈A.ft∨b=m∨b=d:=by simp only[SAd.ft,foot,List.mem_append,List.mem_singleton,List.mem_cons] at r ⊢;grind
 rcases z with z|z|z
 .exact h.ap b f z
 .rw[z,y] at e;cases e
 .rw[z,s] at e;cases e
end
inductive r8(vs:fy V)(H:Hp)(Q:VK)(E:XK):Z3
 |m (z:Z6)(_:vs=[.str z])(_:z.length≤4900)(_:∀H',aj H H'->Q (.bl (okW z)) H')
inductive rj(vs:fy V)(H:Hp)(Q:VK)(E:XK):Z3
 |m (z:Z6)(_:vs=[.str z])(_:okW z=Z1)(_:∀H',aj H H'->Q (.int (intOf z)) H')
inductive rA(vs:fy V)(H:Hp)(Q:VK)(E:XK):Z3
 |m (z:Z6) (c:Z4×Z4)(_:vs=[.str z])(_:z.length≤4900)(_:chg z=some c)(_:∀t H',H' t=some (.tup [.int c.1,.int c.2])->aj H H'->Q (.ref t) H')
inductive qe(vs:fy V)(H:Hp)(Q:VK)(E:XK):Z3
 |m (z:Z6)(_:vs=[.str z,.bl Z1])(_:Q .non H)
def hiV:nt Z5->V
 |none=>.non
 |some m=>.int ↥m
inductive yl(K:Frag)(vs:fy V)(H:Hp)(Q:VK)(E:XK):Z3
 |m (n lo:Z5) (hi:nt Z5) (a:jl)(_:vs=[.int (n:Z4),.ref a])(_:X3 K H a [.int (lo:Z4),hiV hi])(_:Q (.bl (gT n (lo,hi))) H)
inductive qH(vs:fy V)(H:Hp)(Q:VK)(E:XK):Z3
 |m (z:Z6) (a:jl) (ns:fy Z4)(_:vs=[.str z,.ref a])(_:H a=some (.lst (ns.map Z8)))(_:within z ns)(_:z = "harm"->4≤ns.length)(_:z = "plan"->2≤ns.length)(_:ns.length≤500)(_:∀H',aj H H'->Q (.bl Z1) H')
def ja(H:Hp)(l:jl):Told->Z3
 |.chs a=>∃L,H l=some (.lst L)/\fZ H L a
 |.wrd w=>H l=some (.lst [.str w])
 |.nums ns=>H l=some (.lst<|ns.map Z8)
def ja.same{H H':Hp}{l:jl}{td:Told}(h:ja H l td)(s:aj H H'):ja H' l td:=by
 cases td with
 |chs a=>let⟨L,h1,h2⟩:=h;exact{L,s _ _ h1,h2.mono λb xs e=>s _ _ e}
 |wrd w=>exact s _ _ h
 |nums ns=>exact s _ _ h
inductive uS(vs:fy V)(H:Hp)(Q:VK)(E:XK):Z3
 |m (hd:Z6) (r:jl) (ws:fy Z6) (td:Told)(_:vs=[.str hd,.ref r])(_:H r=some (.lst (ws.map V.str)))(_:∀ w∈ws,w.length≤4900)(_:ws.length≤500)(_:RowW hd ws td)(_:∀l H',ja H' l td->(l=r∨H l=Z0)->aj H H'->Q (.ref l) H')
inductive xC(vs:fy V)(H:Hp)(Q:VK)(E:XK):Z3
 |m (z hd:Z6) (td:Told)(_:vs=[.str z])(_:z.length≤400)(_:vU z hd td)(_:∀t l H',H' t=some (.tup [.str hd,.ref l])->ja H' l td->H l=Z0->aj H H'->Q (.ref t) H')
inductive uA(C:jl)(vs:fy V)(H:Hp)(Q:VK)(E:XK):Z3
 |m (p dx:jl) (s:Z4)(_:vs=[.ref p,.int s])(_:H p=some (.ins C dx []))(_:0≤s)(_:∀H',aW [p] H H'->(∃fs,H' p=some (.ins C dx fs))->Q .non H')
def gq:fy (Z6×Z6):=[("day","on_day"),("keep","on_keep"),("seal","on_seal"),("tidy","on_tidy"),("carry","on_carry"),("harm","on_harm"),("heal","on_heal"),("marks","on_marks"),("lies","on_lies"),("line","on_line"),("reach","on_reach"),("fetch","on_fetch"),("price","on_price"),("way","on_way"),("plan","on_plan")]
def vF:fy (Z6×fy V):=[("seal",[.int 1,.int 1]),("tidy",[.int 0,.int 0]),("carry",[.int 2,.int 2]),("harm",[.int 4,.int 4]),("heal",[.int 2,.int 2]),("marks",[.int 0,.int 0]),("lies",[.int 1,.int 1]),("line",[.int 2,.int 2]),("reach",[.int 1,.int 1]),("fetch",[.int 1,.non]),("price",[.int 1,.non]),("way",[.int 1,.non]),("plan",[.int 6,.non])]
def Gu{a:Z6}{f:Z5×nt Z5}(h:(a,f)∈iD):(a,[V.int ↥f.1,hiV f.2])∈vF:=by
 let e:vF=iD.map λp=>(p.1,[V.int ↥p.2.1,hiV p.2.2]):=rfl
 rw[e];exact akd (f:=λp:Z6×Z5×nt Nat=>(p.1,[V.int ↥p.2.1,hiV p.2.2])) h
def Ei{a:Z6}{f g:Z5×nt Z5}(h:(a,f)∈iD)(e:iD.lookup a=some g):f=g:=by
 let hn:iD.all (λp=>decide (iD.lookup p.1=some p.2))=Z1:=by decide +kernel
 let:=ajm<|akg.mp hn _ h;rw[e] at this;exact(aiY this).symm
inductive mS(CS:jl)(vs:fy V)(H:Hp)(Q:VK)(E:XK):Z3
 |m (p q sl nl dl se:jl) (rl sk ea:V) (SL:fy V) (i:Z4)(_:vs=[.ref p,.int i])(_:StA CS H p q sl nl dl se rl sk ea)(_:H sl=some (.lst SL))(_:SL.length=3)(_:0≤i/\i<3)(_:Q .non H)
inductive nZ(CS CD:jl)(vs:fy V)(H:Hp)(Q:VK)(E:XK):Z3
 |m (p q sl nl dl se ta sa a:jl) (TL SL:fy jl) (wd:Z5) (C2 C3:fy (fy Z4)) (rl sk ea:V) (L:fy V) (chs:fy (Z4×Z4))(_:vs=[.ref p,.ref a])(_:StA CS H p q sl nl dl se rl sk ea)(_:bJ CD H q ta sa TL SL wd C2 C3)(_:H a=some (.lst L))(_:fZ H L chs)(_:chs.length≤300)(_:C2.length≤500)(_:a∉foot q ta sa TL SL)(_:dD wd chs=Z0)(_:∀(m d:jl)(H':Hp)(tab:fy Z4),C2[C2.length-1]?=some tab->bJ CD H' q ta sa (TL++[m]) (SL++[d]) wd (C2++[nextT tab chs]) (C3++[chs.map Prod.fst])->H m=Z0->H d=Z0->aW (foot q ta sa TL SL) H H'->Q (.int (C2.length:Z4)) H')
inductive mK(CS CD C CW:jl)(vs:fy V)(H:Hp)(Q:VK)(E:XK):Z3
 |m (A:SAd) (wd:Z5) (C2 C3:fy (fy Z4)) (us:fy PcU) (M:Z5->cY)(_:vs=[.ref A.p,.str "whole"])(_:StC CS CD C CW CW H A wd C2 C3 us M)(_:∀a u H',cM CW CW H' (.ref a) u->aj H H'->Q (.ref a) H')
inductive qN(CS CD C CW:jl)(vs:fy V)(H:Hp)(Q:VK)(E:XK):Z3
 |m (A:SAd) (wd:Z5) (C2 C3:fy (fy Z4)) (us:fy PcU) (M:Z5->cY) (i many:Z5)(_:vs=[.ref A.p,.int (i:Z4),.int (many:Z4)])(_:i<3)(_:StC CS CD C CW CW H A wd C2 C3 us M)(_:∀(k:Z5)H',k=min many (us.length-A.n i)->StC CS CD C CW CW H' (A.re i (A.x i) (A.d i) (A.n i+k)) wd C2 C3 us (fset M i (jt us (A.n i) k (M i)))->aW [A.dl,A.x i,A.d i] H H'->Q (.int (k:Z4)) H')
inductive vf(CS CD C CW:jl)(vs:fy V)(H:Hp)(Q:VK)(E:XK):Z3
 |m (A:SAd) (wd:Z5) (C2 C3:fy (fy Z4)) (us:fy PcU) (M:Z5->cY)(_:vs=[.ref A.p,.str "whole"])(_:StC CS CD C CW CW H A wd C2 C3 us M)(_:A.n 0=us.length)(_:us.length≤60)(_:∀t u M' H',StC CS CD C CW CW H' (A.add t) wd C2 C3 (us++[u]) M'->aW [A.nl,A.dl,A.x 0,A.d 0] H H'->Q (.int (us.length:Z4)) H')
inductive qo(CS CD C:jl)(vs:fy V)(H:Hp)(Q:VK)(E:XK):Z3
 |m (p dx:jl) (wd:Z4) (rl sk ea:V)(_:vs=[.ref p,.int wd,rl,sk,ea])(_:H p=some (.ins CS dx []))(_:1≤wd/\wd≤40)(_:∀(A:SAd)(H':Hp),A.p=p->(∀i,A.n i=0)->(∀CW CG,StC CS CD C CW CG H' A wd.toNat [List.replicate wd.toNat 0] [[]] [] (λ_ _=>Z0))->H' A.se=some (.dK [])->A.se∉A.sm++A.ft->(∀ b∈A.se ::(A.sm++A.ft),b=p∨H b=Z0)->aW [p] H H'->Q .non H')
inductive mz(vs:fy V)(H:Hp)(Q:VK)(E:XK):Z3
 |m (z:Z6)(_:vs=[.str z])(_:z = "last 1")(_:∀a H',aj H H'->Q (.ref a) H')
def shT:V->Z6
 |.str z=>z
 |.int n=>bH n
 |_=>""
def A1(x:V):Z3:=(∃z,x=.str z/\z.length≤60)∨∃n:Z4,x=.int n/\0≤n/\n<10 ^ 60
def LA{n:Z4}(h0:0≤n)(h:n<10 ^ 60):n.natAbs.log2<1920:=by
 by_cases a:n.natAbs=0
 .rw[a];decide
 .exact(Nat.log2_lt a).mpr (aji (show n.natAbs<10 ^ 60 by omega) o4)
def QE{x:V}(h:A1 x):(shT x).length≤60:=by
 rcases h with⟨z,rfl,h⟩|⟨n,rfl,h0,h1⟩
 .exact h
 .exact aj6 h0 o7 h1
inductive pC(vs:fy V)(H:Hp)(Q:VK)(E:XK):Z3
 |m (t:jl) (xs:fy V)(_:vs=[.ref t])(_:H t=some (.tup xs))(_:xs≠[])(_:xs.length≤10)(_:∀ x∈xs,A1 x)(_:∀H',aj H H'->Q (.str (Str.join (Str.ofString " ") (xs.map shT))) H')
inductive sr (C:jl) (vs:fy V) (H:Hp) (Q:VK) (E:XK):Z3
 |mk (p dx sa wa ra:jl) (SL:fy jl) (C1:fy (fy Z4)) (C0 C7:fy Z4):vs=[.ref p,.ref sa,.ref wa,.ref ra]->H p=some (.ins C dx [])->1≤C1.length->C1.length≤7->C0.length≤7->C7.length≤7->H sa=some (.lst (SL.map V.ref))->Rows H SL C1->H wa=some (.lst (C0.map Z8))->H ra=some (.lst (C7.map Z8))->(∀H',fX C H' p C1 C0 C7->aW [p] H H'->Q .non H')->sr C vs H Q E
inductive p8(CD CT:jl)(vs:fy V)(H:Hp)(Q:VK)(E:XK):Z3
 |m (q wa ra:jl) (wd:Z5) (C2 C3:fy (fy Z4)) (C6:Z4) (C0 C7:fy Z4)(_:vs=[.ref q,.int C6,.ref wa,.ref ra])(_:uP CD H q wd C2 C3)(_:H wa=some (.lst (C0.map Z8)))(_:H ra=some (.lst (C7.map Z8)))(_:1≤C0.length)(_:C0.length≤7)(_:C7.length≤7)(_:0≤C6)(_:C6+C0.length≤C2.length)(_:∀(p:jl)(C1:fy (fy Z4))H',fX CT H' p C1 C0 C7->C1.length=C0.length->i8 wd C3 C6 C1->aj H H'->Q (.ref p) H')
def dH(x:Lf):Z6:=Str.join (Str.ofString " ")<|x.1++[bH x.2]
def vP(wd:Z5)(C3:fy (fy Z4))(b:Z4)(C0:fy Z4)(r0 r1 r2 r3:Z4)(x:Lf):Z3:=∃(C1:fy (fy Z4))(a:fy Lf),Fit C1 C0 r0 r1 r2 r3/\C1.length=C0.length/\i8 wd C3 b C1/\tZ C1 C0 r0 r1 r2 r3 (C1.length+1) [] Z0 =(a,some x)
inductive kE(CS CD C CW:jl)(vs:fy V)(H:Hp)(Q:VK)(E:XK):Z3
 |m (A:SAd) (wd:Z5) (C2 C3:fy (fy Z4)) (us:fy PcU) (M:Z5->cY) (l:jl) (chs:fy (Z4×Z4))(_:vs=[.ref A.p,.ref l])(_:StC CS CD C CW CW H A wd C2 C3 us M)(_:ja H l (.chs chs))(_:chs.length≤100)(_:C2.length≤90)(_:l∉A.ft)(_:dD wd chs=Z0)(_:∀(m d:jl)(H':Hp)(tab:fy Z4),StC CS CD C CW CW H' {A with TL:=A.TL++[m],SL:=A.SL++[d]} wd (C2++[nextT tab chs]) (C3++[chs.map Prod.fst]) us M->H m=Z0->H d=Z0->aW A.ft H H'->Q (.str (bH (C2.length:Z4))) H')
inductive jL(CS CD C CW:jl)(vs:fy V)(H:Hp)(Q:VK)(E:XK):Z3
 |m (A:SAd) (wd:Z5) (C2 C3:fy (fy Z4)) (us:fy PcU) (M:Z5->cY) (l:jl)(_:vs=[.ref A.p,.ref l])(_:ja H l (.wrd "whole"))(_:StC CS CD C CW CW H A wd C2 C3 us M)(_:A.n 0=us.length)(_:us.length≤60)(_:∀t u M' H',StC CS CD C CW CW H' (A.add t) wd C2 C3 (us++[u]) M'->aW [A.nl,A.dl,A.x 0,A.d 0] H H'->Q (.str (bH (us.length:Z4))) H')
inductive iC(CS CD C CW:jl)(vs:fy V)(H:Hp)(Q:VK)(E:XK):Z3
 |m (A:SAd) (wd:Z5) (C2 C3:fy (fy Z4)) (us:fy PcU) (M:Z5->cY) (l:jl)(_:vs=[.ref A.p,.ref l])(_:StC CS CD C CW CW H A wd C2 C3 us M)(_:∀H',aj H H'->Q (.str (Str.join (Str.ofString " ") (((l3 λi=>(A.n i:Z4)).map Z8).map shT))) H')
inductive jo(CS CD C CW CT:jl)(vs:fy V)(H:Hp)(Q:VK)(E:XK):Z3
 |m (A:SAd) (wd:Z5) (C2 C3:fy (fy Z4)) (us:fy PcU) (M:Z5->cY) (l:jl) (b r0 r1 r2 r3:Z4) (C0:fy Z4)(_:vs=[.ref A.p,.ref l])(_:ja H l (.nums (b::r0::r1::r2::r3::C0)))(_:StC CS CD C CW CW H A wd C2 C3 us M)(_:1≤C0.length)(_:C0.length≤7)(_:0≤b)(_:b+C0.length≤C2.length)(_:∀ x∈r0::r1::r2::r3::C0,0≤x/\x≤1000000000000)(_:∀x H',vP wd C3 b C0 r0 r1 r2 r3 x->aj H H'->Q (.str (dH x)) H')
def KnR(z:Z6):Z3:=z = "day"∨z = "keep"∨z = "marks"∨z = "plan"
def kW(CS CD C CW CT:jl)(z:Z6):Sp:=if z = "day" then kE CS CD C CW else if z = "keep" then jL CS CD C CW else if z = "marks" then iC CS CD C CW else jo CS CD C CW CT
def aaY(CK:jl)(H:Hp)(k p:jl):Z3:=∃dx,H k=some (.ins CK dx [("store",.ref p)])
inductive jV(CK CS CD C CW CT:jl)(vs:fy V)(H:Hp)(Q:VK)(E:XK):Z3
 |m (k p:jl) (z hd:Z6) (td:Told)(_:vs=[.ref k,.str z])(_:aaY CK H k p)(_:z.length≤400)(_:vU z hd td)(_:KnR hd)(_:∀l H',ja H' l td->H l=Z0->aj H H'->∀E',kW CS CD C CW CT hd [.ref p,.ref l] H' Q E')
inductive sC(CK CS CD C:jl)(vs:fy V)(H:Hp)(Q:VK)(E:XK):Z3
 |m (k dx:jl) (wd:Z4) (sk ea:V)(_:vs=[.ref k,.int wd,sk,ea,.str "last 1"])(_:H k=some (.ins CK dx []))(_:1≤wd/\wd≤40)(_:∀(A:SAd)(H':Hp),H' k=some (.ins CK dx [("store",.ref A.p)])->(∀i,A.n i=0)->(∀CW,StC CS CD C CW CW H' A wd.toNat [List.replicate wd.toNat 0] [[]] [] (λ_ _=>Z0))->(∀ b∈A.sm++A.ft,H b=Z0)->aW [k] H H'->Q .non H')
def yq{CS CD C CW CT:jl}:kW CS CD C CW CT "day" = kE CS CD C CW:=by unfold kW;rw[aiN rfl]
def vh{CS CD C CW CT:jl}:kW CS CD C CW CT "keep" = jL CS CD C CW:=by unfold kW;repeat (first|rw[aiN rfl]|rw[aiL o4])
def tM{CS CD C CW CT:jl}:kW CS CD C CW CT "marks" = iC CS CD C CW:=by unfold kW;repeat (first|rw[aiN rfl]|rw[aiL o4])
def vC{CS CD C CW CT:jl}:kW CS CD C CW CT "plan" = jo CS CD C CW CT:=by unfold kW;repeat (first|rw[aiN rfl]|rw[aiL o4])
def FP{as:fy At}(h:gm as):(dn as).length≤(as.map fun|.c s=>s.length|.n _=>20).sum:=by
 rw[←xV,wj];unfold flA
 induction as with
 |nil=>simp
 |cons a as b=>
  let:=b λk e=>h k<|ai3 _ e
  rw[List.flatMap_cons,ajj,ajl,List.sum_cons];refine Nat.add_le_add ?_ this;cases a with
  |c s=>exact ak2<|xV s
  |n k=>have:=h k o8;rw[xV];exact gp this.1 this.2
def NV{as:fy At}(h:gm as)(e:Nat.ble ((as.map fun|.c s=>s.length|.n _=>20).sum) 400=Z1):(dn as).length≤400:=ai8 (FP h)<|amU e
inductive mh(vs:fy V)(H:Hp)(Q:VK)(E:XK):Z3
 |m (c:Z4) (wd:Z5)(_:vs=[.int c,.int (wd:Z4)])(_:1≤wd)(_:wd≤40)(_:∀l L chs H',H' l=some (.lst L)->H l=Z0->fZ H' L chs->nG wd chs->chs.length≤3->aj H H'->Q (.ref l) H')
inductive mV(K:Frag)(vs:fy V)(H:Hp)(Q:VK)(E:XK):Z3
 |m (c wa:jl) (ws:fy Z6) (C0:fy Z4) (wt:Z4)(_:vs=[.ref c,.ref wa])(_:X0 K H c (ws.map V.str))(_:ws.length≤10)(_:∀ w∈ws,Wd4 w)(_:H wa=some (.lst (C0.map Z8)))(_:C0[ws.length]?=some wt)(_:∀l H',H' l=some (.lst ((cF wt ws).map V.str))->H l=Z0->aj H H'->Q (.ref l) H')
structure xB(H:Hp)(cl:jl)(chss:fy (fy (Z4×Z4))):Z3 where
 ex:∃PL:fy jl,H cl=some (.lst (PL.map V.ref))/\PL.length=chss.length/\∀(i:Z5)b cs,PL[i]?=some b->chss[i]?=some cs->∃L,H b=some (.lst L)/\fZ H L cs
def xB.same{H H':Hp}{cl:jl}{chss:fy (fy (Z4×Z4))}(h:xB H cl chss)(s:aj H H'):xB H' cl chss:=by let⟨l,h1,h2,h3⟩:=h.ex;exact{l,s _ _ h1,h2,λi b f g j=>let ⟨L,a,c⟩:=h3 i b f g j;{L,s _ _ a,c.mono λb xs e=>s _ _ e}}
inductive rD(vs:fy V)(H:Hp)(Q:VK)(E:XK):Z3
 |m (cl:jl) (wd:Z5) (bv:V) (d:Z4) (chss:fy (fy (Z4×Z4)))(_:vs=[.ref cl,.int (wd:Z4),bv,.int d])(_:xB H cl chss)(_:∀ cs∈chss,nG wd cs)(_:chss.length≤20)(_:wd≤40)(_:(bv=.non/\Q (.int (wd:Z4)) H)∨∃b e:Z5,bv=.int (b:Z4)/\d =(e:Z4)/\b≤e/\e≤chss.length/\∀(n:Z5)H',WrN (cQ chss) (b:Z4) (e:Z4) n->aj H H'->Q (.int (n:Z4)) H')
def gI(ws:fy Z6)(w:Z6):V:=if w=wS then((br isW ws).map λi:Nat=>V.int ↥i).getD .non else if w=wL then((br isK ws).map λi:Nat=>V.int ↥i).getD .non else .non
inductive rT(K:Frag)(vs:fy V)(H:Hp)(Q:VK)(E:XK):Z3
 |m (c:jl) (ws:fy Z6) (w:Z6)(_:vs=[.ref c,.str w])(_:X0 K H c (ws.map V.str))(_:ws.length≤10)(_:Q (gI ws w) H)
inductive sF (K:Frag) (vs:fy V) (H:Hp) (Q:VK) (E:XK):Z3
 |mk (cl c wa ra:jl) (wd C6:Z5) (chss:fy (fy (Z4×Z4))) (ws:fy Z6) (C1:fy (fy Z4)) (C0:fy Z4) (r0 r1 r2 r3:Z4):vs=[.ref cl,.int (wd:Z4),.int (C6:Z4),.ref c,.ref wa,.ref ra]->xB H cl chss->(∀ cs∈chss,nG wd cs)->chss.length≤20->wd≤40->X0 K H c (ws.map V.str)->VW ws->ws.length=C1.length->C6+ws.length≤chss.length+1->H wa=some (.lst (C0.map Z8))->H ra=some (.lst [.int r0,.int r1,.int r2,.int r3])->Fit C1 C0 r0 r1 r2 r3->i8 wd (cQ chss) (C6:Z4) C1->(∀H',aj H H'->Q (.int (sumTo (bB C1 C0 r0 r1 r2 r3 ws) ws.length)) H')->sF K vs H Q E
inductive sE(vs:fy V)(H:Hp)(Q:VK)(E:XK):Z3
 |m (wa:jl) (C0:fy Z4) (x:Lf)(_:vs=[.str (dH x),.ref wa])(_:H wa=some (.lst (C0.map Z8)))(_:x.1.length=C0.length)(_:1≤C0.length)(_:C0.length≤7)(_:gG C0 x.1)(_:0≤x.2)(_:x.2<10 ^ 60)(_:∀t l H',H' t=some (.tup [.ref l,.int x.2])->H' l=some (.lst (x.1.map V.str))->aj H H'->Q (.ref t) H')
inductive pA(K:Frag)(vs:fy V)(H:Hp)(Q:VK)(E:XK):Z3
 |m (a c:jl) (ws us:fy Z6)(_:vs=[.ref a,.ref c])(_:X0 K H a (ws.map V.str))(_:X0 K H c (us.map V.str))(_:ws.length=us.length)(_:ws.length≤10)(_:∀ w∈ws,Wd4 w)(_:∀ w∈us,Wd4 w)(_:∀H',aj H H'->Q (.bl (!HT.lexLt (us.map rkW) (ws.map rkW))) H')
inductive pJ(vs:fy V)(H:Hp)(Q:VK)(E:XK):Z3
 |m (c:Z4)(_:vs=[.int c])(_:∀l(r0 r1 r2 r3:Z4)H',H' l=some (.lst [.int r0,.int r1,.int r2,.int r3])->H l=Z0->(∀ x∈[r0,r1,r2,r3],0≤x/\x≤1000000000000)->aj H H'->Q (.ref l) H')
inductive mW(vs:fy V)(H:Hp)(Q:VK)(E:XK):Z3
 |m (c:Z4) (m:Z5)(_:vs=[.int c,.int (m:Z4)])(_:m≤7)(_:∀l(ns:fy Z4)H',H' l=some (.lst (ns.map Z8))->H l=Z0->ns.length=m->(∀ x∈ns,(0:Z4)≤x/\x≤1000000000000)->aj H H'->Q (.ref l) H')
inductive oE(K:Frag)(vs:fy V)(H:Hp)(Q:VK)(E:XK):Z3
 |m (a:jl) (ns:fy Z4)(_:vs=[.ref a])(_:X0 K H a (ns.map Z8))(_:ns.length≤63)(_:∀H',Q (.bl Z1) H')
instance:Inhabited World:=⟨{λ_ _=>0,{strHash:=λ_=>0,shareClass:=λ_=>0,mergeTok:=λ_=>0,idOf:=λ_=>0,idOfShared:=λ_ _=>0,followText:=λ_=>Z1,idOfImm:=λ_=>0}}⟩
structure Gc where (P:t6) (w:t7) (K:Frag) (mg:Z6->nt mu) (base:Heap) (t_W cD bZ ck cV eK bT:Tok) (aA cP aG aD aI bO cE av bG cB c9 fF:jl) deriving Inhabited
inductive Hy(w:t7)(K:Frag)(mg:Z6->nt mu)(t_W cD bZ ck cV eK bT:Tok)(aA cP aG aD aI bO cE av bG cB c9 fF:jl):Z3
 |m {h:Heap} (_:K.In h) (_:h.Ns mainGlobals mg) (_:nsIn K mainGlobals "W" = some (some (.int 18446744073709551615 t_W))) (_:nsIn K mainGlobals "MOST_BLOCKS" = some (some (.int 40 cD))) (_:nsIn K mainGlobals "MOST_FIGURES" = some (some (.int 20 bZ))) (_:nsIn K mainGlobals "MOST_PLANNED" = some (some (.int 7 ck))) (_:nsIn K mainGlobals "MOST_RATE" = some (some (.int 1000000000000 cV))) (_:nsIn K mainGlobals "FIGURES" = some (some (.str (PySem.Str.ofString "0123456789") eK))) (_:nsIn K mainGlobals "CHECK_FIGURES" = some (some (.int 20 bT))) (_:GA K "Days" aA) (_:GA K "Piece" cP) (_:GA K "Whole" aG) (_:GA K "Shelf" aD) (_:GA K "Task" aI) (_:GA K "LastFew" bO) (_:GA K "AnyOf" cE) (_:GA K "Store" av) (_:GA K "Desk" bG) (_:GA K "ANSWERS" cB) (_:GA K "FORMS" c9) (_:GA K "KEPT" fF) (_:PX K aA) (_:aO K aA "wide") (_:aO K aA "last") (_:aO K aA "tables") (_:aO K aA "set_places") (_:PX K aG) (_:aO K aG "day") (_:aO K aG "rows") (_:aO K aG "check") (_:aO K aG "fits") (_:PX K aD) (_:aO K aD "pieces") (_:aO K aD "follows") (_:PX K aI) (_:aO K aI "sizes") (_:aO K aI "weights") (_:aO K aI "rates") (_:PX K bO) (_:aO K bO "many") (_:PX K cE) (_:aO K cE "rules") (_:PX K av) (_:aO K av "days") (_:aO K av "rule") (_:aO K av "seek") (_:aO K av "each") (_:aO K av "shelves") (_:aO K av "noted") (_:aO K av "done") (_:aO K av "seals") (_:PX K bG) (_:aO K bG "store") (_:MF K aA "__init__" "Days.__init__" jB) (_:MF K aA "passes" "Days.passes" kR) (_:MF K aA "table" "Days.table" mT) (_:MF K aA "written" "Days.written" jW) (_:MF K aA "ask_change" "Days.ask_change" iu) (_:MF K aA "ask_day" "Days.ask_day" jR) (_:GF K "ask_wide" qa) (_:GF K "turned" uO) (_:GF K "check_of" pM) {f9:jl} (_:FA K cP "__init__" f9) (_:MV K "__init__" "Piece.__init__" iV f9) {f10:jl} {od10 an10:nt jl} {sl10:sA (nt mu)} {oc10 kV10 dc10 pm10 cd10 ct10:mu} (_:FA K aG "__init__" f10) (_:isFn K (.ref f10)=Z1) {td10:jl} {yc10:mu} {yd10:nt jl} {yn10:Z5} {yl10:sA (nt mu)} (_:K.lookup f10=some {oc10,od10,.func (fnOf "__init__" "Whole.__init__" (fu dG) (dB dG) (ay dG) (.ref td10) kV10 dc10 pm10 an10 cd10 ct10),sl10}) (_:codeIn K cd10 "Whole.__init__" = Z1) (_:keepIn K (.ref f10)=Z1) (_:K.lookup td10=some {yc10,yd10,.seq #[.none] yn10,yl10}) (_:GF K "whole_of" qv) (_:GF K "writes_number" jK) (_:GF K "number_of" oq) (_:GF K "change_of" ou) (_:MF K aD "__init__" "Shelf.__init__" iW) (_:MF K aD "put" "Shelf.put" nL) (_:MF K aD "lay" "Shelf.lay" om) (_:MF K aD "following" "Shelf.following" iy) (_:MF K aI "__init__" "Task.__init__" jg) (_:GF K "ask_many" pF) (_:GF K "allowed" rz) (_:GF K "bases_behind" jS) (_:GF K "bases_of" pZ) (_:GF K "cost_of" qZ) (_:GF K "costs_of" pB) (_:GF K "leg_cost" pV) (_:GF K "day_cost" qx) (_:GF K "bound_of" qg) (_:GF K "best_plan" nI) (_:GF K "task_of" rY) (_:GF K "sizes_of" pQ) (_:GF K "read_row" pO) (_:GF K "told_behind" kQ) (_:GF K "ask_form" pT) (_:GF K "is_as_many" mD) (_:GF K "is_within" oz) (_:MF K bO "__init__" "LastFew.__init__" gR) (_:MF K cE "__init__" "AnyOf.__init__" iU) (_:GF K "rule_of" qU) (_:GF K "rule_of_part" j3) (_:MF K av "__init__" "Store.__init__" iS) (_:MF K av "passes" "Store.passes" jM) (_:MF K av "today" "Store.today" kN) (_:MF K av "keep" "Store.keep" mE) (_:MF K av "carry" "Store.carry" kM) (_:MF K av "marks" "Store.marks" kK) (_:MF K av "ask_shelf" "Store.ask_shelf" iz) (_:MF K av "new_piece" "Store.new_piece" iw) (_:MF K av "note" "Store.note" mL) (_:GF K "do_deed" qO) (_:GF K "listed" ug) (_:GF K "on_day" tY) (_:GF K "on_keep" rK) (_:GF K "on_marks" pN) (_:GF K "on_plan" rE) (_:MF K bG "__init__" "Desk.__init__" jy) (_:MF K bG "say" "Desk.say" pI) (_:GF K "_law_cell" nU) (_:GF K "_law_stir" nK) (_:GF K "_law_block" mY) (_:GF K "_law_changes" j0) (_:GF K "_law_allowed" jQ) (_:GF K "_law_size" nM) (_:GF K "_law_base" nQ) (_:GF K "_law_cost" nE) (_:GF K "_law_read" nW) (_:GF K "_law_ahead" lZ) (_:GF K "_law_rates" lT) (_:GF K "_law_weights" jX) (_:specialIn K (.ref cP) "__getattribute__" = some (some (.builtin "type.__getattribute__"))) (_:readsIn K cP (.type "type")=Z1) (_:findCls K (.ref cP) (.type "type") "__init__" = some (.val (.ref f9))) (_:GN K "dict") (_:GN K "len") (_:GN K "isinstance") (_:GN K "list") (_:GN K "tuple") (_:GN K "range") (_:GN K "max") (_:GN K "min") (_:GN K "sorted") (_:GN K "set") (_:GN K "enumerate") (_:GN K "str") (_:GN K "int") (_:GN K "all") (_:GN K "sum") (_:GN K "reversed") (_:fj K fF [V.str "whole",V.str "since",V.str "last"]=Z1) {tk_ANSWERS0 tk_ANSWERS1 tk_ANSWERS2 tk_ANSWERS3 tk_ANSWERS4 tk_ANSWERS5 tk_ANSWERS6 tk_ANSWERS7 tk_ANSWERS8 tk_ANSWERS9 tk_ANSWERS10 tk_ANSWERS11 tk_ANSWERS12 tk_ANSWERS13 tk_ANSWERS14:Tok} {fk_ANSWERS0 fk_ANSWERS1 fk_ANSWERS2 fk_ANSWERS3 fk_ANSWERS4 fk_ANSWERS5 fk_ANSWERS6 fk_ANSWERS7 fk_ANSWERS8 fk_ANSWERS9 fk_ANSWERS10 fk_ANSWERS11 fk_ANSWERS12 fk_ANSWERS13 fk_ANSWERS14:jl} {ep_ANSWERS:Z5} (_:(cB==sysModules)=Z2) (_:K.lookup cB=some {.type "dict",Z0,.dict #[{hashStr w (PySem.Str.ofString "day"),.str (PySem.Str.ofString "day") tk_ANSWERS0,.ref fk_ANSWERS0},{hashStr w (PySem.Str.ofString "keep"),.str (PySem.Str.ofString "keep") tk_ANSWERS1,.ref fk_ANSWERS1},{hashStr w (PySem.Str.ofString "seal"),.str (PySem.Str.ofString "seal") tk_ANSWERS2,.ref fk_ANSWERS2},{hashStr w (PySem.Str.ofString "tidy"),.str (PySem.Str.ofString "tidy") tk_ANSWERS3,.ref fk_ANSWERS3},{hashStr w (PySem.Str.ofString "carry"),.str (PySem.Str.ofString "carry") tk_ANSWERS4,.ref fk_ANSWERS4},{hashStr w (PySem.Str.ofString "harm"),.str (PySem.Str.ofString "harm") tk_ANSWERS5,.ref fk_ANSWERS5},{hashStr w (PySem.Str.ofString "heal"),.str (PySem.Str.ofString "heal") tk_ANSWERS6,.ref fk_ANSWERS6},{hashStr w (PySem.Str.ofString "marks"),.str (PySem.Str.ofString "marks") tk_ANSWERS7,.ref fk_ANSWERS7},{hashStr w (PySem.Str.ofString "lies"),.str (PySem.Str.ofString "lies") tk_ANSWERS8,.ref fk_ANSWERS8},{hashStr w (PySem.Str.ofString "line"),.str (PySem.Str.ofString "line") tk_ANSWERS9,.ref fk_ANSWERS9},{hashStr w (PySem.Str.ofString "reach"),.str (PySem.Str.ofString "reach") tk_ANSWERS10,.ref fk_ANSWERS10},{hashStr w (PySem.Str.ofString "fetch"),.str (PySem.Str.ofString "fetch") tk_ANSWERS11,.ref fk_ANSWERS11},{hashStr w (PySem.Str.ofString "price"),.str (PySem.Str.ofString "price") tk_ANSWERS12,.ref fk_ANSWERS12},{hashStr w (PySem.Str.ofString "way"),.str (PySem.Str.ofString "way") tk_ANSWERS13,.ref fk_ANSWERS13},{hashStr w (PySem.Str.ofString "plan"),.str (PySem.Str.ofString "plan") tk_ANSWERS14,.ref fk_ANSWERS14}] ep_ANSWERS,#[]}) (_:GA K "on_day" fk_ANSWERS0) (_:GA K "on_keep" fk_ANSWERS1) (_:GA K "on_seal" fk_ANSWERS2) (_:GA K "on_tidy" fk_ANSWERS3) (_:GA K "on_carry" fk_ANSWERS4) (_:GA K "on_harm" fk_ANSWERS5) (_:GA K "on_heal" fk_ANSWERS6) (_:GA K "on_marks" fk_ANSWERS7) (_:GA K "on_lies" fk_ANSWERS8) (_:GA K "on_line" fk_ANSWERS9) (_:GA K "on_reach" fk_ANSWERS10) (_:GA K "on_fetch" fk_ANSWERS11) (_:GA K "on_price" fk_ANSWERS12) (_:GA K "on_way" fk_ANSWERS13) (_:GA K "on_plan" fk_ANSWERS14) {tk_FORMS0 tk_FORMS1 tk_FORMS2 tk_FORMS3 tk_FORMS4 tk_FORMS5 tk_FORMS6 tk_FORMS7 tk_FORMS8 tk_FORMS9 tk_FORMS10 tk_FORMS11 tk_FORMS12:Tok} {fk_FORMS0 fk_FORMS1 fk_FORMS2 fk_FORMS3 fk_FORMS4 fk_FORMS5 fk_FORMS6 fk_FORMS7 fk_FORMS8 fk_FORMS9 fk_FORMS10 fk_FORMS11 fk_FORMS12:jl} {ep_FORMS:Z5} (_:(c9==sysModules)=Z2) (_:K.lookup c9=some {.type "dict",Z0,.dict #[{hashStr w (PySem.Str.ofString "seal"),.str (PySem.Str.ofString "seal") tk_FORMS0,.ref fk_FORMS0},{hashStr w (PySem.Str.ofString "tidy"),.str (PySem.Str.ofString "tidy") tk_FORMS1,.ref fk_FORMS1},{hashStr w (PySem.Str.ofString "carry"),.str (PySem.Str.ofString "carry") tk_FORMS2,.ref fk_FORMS2},{hashStr w (PySem.Str.ofString "harm"),.str (PySem.Str.ofString "harm") tk_FORMS3,.ref fk_FORMS3},{hashStr w (PySem.Str.ofString "heal"),.str (PySem.Str.ofString "heal") tk_FORMS4,.ref fk_FORMS4},{hashStr w (PySem.Str.ofString "marks"),.str (PySem.Str.ofString "marks") tk_FORMS5,.ref fk_FORMS5},{hashStr w (PySem.Str.ofString "lies"),.str (PySem.Str.ofString "lies") tk_FORMS6,.ref fk_FORMS6},{hashStr w (PySem.Str.ofString "line"),.str (PySem.Str.ofString "line") tk_FORMS7,.ref fk_FORMS7},{hashStr w (PySem.Str.ofString "reach"),.str (PySem.Str.ofString "reach") tk_FORMS8,.ref fk_FORMS8},{hashStr w (PySem.Str.ofString "fetch"),.str (PySem.Str.ofString "fetch") tk_FORMS9,.ref fk_FORMS9},{hashStr w (PySem.Str.ofString "price"),.str (PySem.Str.ofString "price") tk_FORMS10,.ref fk_FORMS10},{hashStr w (PySem.Str.ofString "way"),.str (PySem.Str.ofString "way") tk_FORMS11,.ref fk_FORMS11},{hashStr w (PySem.Str.ofString "plan"),.str (PySem.Str.ofString "plan") tk_FORMS12,.ref fk_FORMS12}] ep_FORMS,#[]}) (_:fj K fk_FORMS0 [V.int 1,V.int 1]=Z1) (_:fj K fk_FORMS1 [V.int 0,V.int 0]=Z1) (_:fj K fk_FORMS2 [V.int 2,V.int 2]=Z1) (_:fj K fk_FORMS3 [V.int 4,V.int 4]=Z1) (_:fj K fk_FORMS4 [V.int 2,V.int 2]=Z1) (_:fj K fk_FORMS5 [V.int 0,V.int 0]=Z1) (_:fj K fk_FORMS6 [V.int 1,V.int 1]=Z1) (_:fj K fk_FORMS7 [V.int 2,V.int 2]=Z1) (_:fj K fk_FORMS8 [V.int 1,V.int 1]=Z1) (_:fj K fk_FORMS9 [V.int 1,V.non]=Z1) (_:fj K fk_FORMS10 [V.int 1,V.non]=Z1) (_:fj K fk_FORMS11 [V.int 1,V.non]=Z1) (_:fj K fk_FORMS12 [V.int 6,V.non]=Z1)
def Go(c:Gc):Z3:=Hy c.w c.K c.mg c.t_W c.cD c.bZ c.ck c.cV c.eK c.bT c.aA c.cP c.aG c.aD c.aI c.bO c.cE c.av c.bG c.cB c.c9 c.fF->∀{f fd},Fun c.K "law" "law" kg f fd->aM c.P c.w c.K c.mg c.base (CXx c.P c.w) 13 f fd ["_law_script"] (oE c.K)
noncomputable def g0:Gc:=Classical.epsilon λc=>¬Go c
noncomputable def P:t6:=g0.P
noncomputable def w:t7:=g0.w
noncomputable def K:Frag:=g0.K
noncomputable def mg:Z6->nt mu:=g0.mg
noncomputable def base:Heap:=g0.base
noncomputable def t_W:Tok:=g0.t_W
noncomputable def cD:Tok:=g0.cD
noncomputable def bZ:Tok:=g0.bZ
noncomputable def ck:Tok:=g0.ck
noncomputable def cV:Tok:=g0.cV
noncomputable def eK:Tok:=g0.eK
noncomputable def bT:Tok:=g0.bT
noncomputable def aA:jl:=g0.aA
noncomputable def cP:jl:=g0.cP
noncomputable def aG:jl:=g0.aG
noncomputable def aD:jl:=g0.aD
noncomputable def aI:jl:=g0.aI
noncomputable def bO:jl:=g0.bO
noncomputable def cE:jl:=g0.cE
noncomputable def av:jl:=g0.av
noncomputable def bG:jl:=g0.bG
noncomputable def cB:jl:=g0.cB
noncomputable def c9:jl:=g0.c9
noncomputable def fF:jl:=g0.fF
abbrev bh:=@DefX P w K mg base
abbrev dM:=@vS P w K mg base
abbrev kG:=@zv P w K mg base
abbrev Dg:=@EX P w K mg base
abbrev LX:=@Xu P w K mg base
structure Txt:Z3 where
 m_W:mg "W" = some (.int 18446744073709551615 t_W)
 zf:mg "MOST_BLOCKS" = some (.int 40 cD)
 yb:mg "MOST_FIGURES" = some (.int 20 bZ)
 ym:mg "MOST_PLANNED" = some (.int 7 ck)
 Bv:mg "MOST_RATE" = some (.int 1000000000000 cV)
 Fj:mg "FIGURES" = some (.str (PySem.Str.ofString "0123456789") eK)
 JQ:mg "CHECK_FIGURES" = some (.int 20 bT)
 aiz:mg "Days" = some (.ref aA)
 bN:Cls K aA
 iE:aO K aA "wide"
 dI:aO K aA "last"
 fB:aO K aA "tables"
 ef:aO K aA "set_places"
 G8:mg "Piece" = some (.ref cP)
 ahp:mg "Whole" = some (.ref aG)
 HS:Cls K aG
 oj:aO K aG "day"
 mR:aO K aG "rows"
 kJ:aO K aG "check"
 mZ:aO K aG "fits"
 ahQ:mg "Shelf" = some (.ref aD)
 fP:Cls K aD
 gX:aO K aD "pieces"
 c8:aO K aD "follows"
 aiy:mg "Task" = some (.ref aI)
 dc:Cls K aI
 c5:aO K aI "sizes"
 eO:aO K aI "weights"
 eY:aO K aI "rates"
 agL:mg "LastFew" = some (.ref bO)
 Ey:Cls K bO
 jY:aO K bO "many"
 ah5:mg "AnyOf" = some (.ref cE)
 G7:Cls K cE
 kX:aO K cE "rules"
 ahU:mg "Store" = some (.ref av)
 bu:Cls K av
 eV:aO K av "days"
 mw:aO K av "rule"
 mH:aO K av "seek"
 m6:aO K av "each"
 dS:aO K av "shelves"
 gz:aO K av "noted"
 gc:aO K av "done"
 kP:aO K av "seals"
 aix:mg "Desk" = some (.ref bG)
 iZ:Cls K bG
 jh:aO K bG "store"
 DU:mg "ANSWERS" = some (.ref cB)
 zV:mg "FORMS" = some (.ref c9)
 QA:mg "KEPT" = some (.ref fF)
 aiB:mg "dict" = Z0
 bE:mg "len" = Z0
 AB:mg "isinstance" = Z0
 zP:mg "list" = Z0
 jO:mg "tuple" = Z0
 eN:mg "range" = Z0
 wD:mg "max" = Z0
 zA:mg "min" = Z0
 Hi:mg "sorted" = Z0
 agC:mg "set" = Z0
 gC:mg "enumerate" = Z0
 ny:mg "str" = Z0
 wI:mg "int" = Z0
 aeM:mg "all" = Z0
 agK:mg "sum" = Z0
 Ew:mg "reversed" = Z0
 DS:fj K fF [V.str "whole",V.str "since",V.str "last"]=Z1
section
variable(T:Txt)
include T in
theorem Fx{f:jl}{fd:q9}(F:Fun K "turned" "turned" uO f fd):⋯ 1 f fd ["number"] (qY):=by refine F.okY Gr ?_;rintro vs H Q E ⟨n,rfl,q⟩;refine{J,λa A outer s b=>{_,(aq<|aJ<|aB bf (aB bW (aB fh (pv 0) au)<|aB bf (eL (v:=.int 18446744073709551615) J T.m_W {1}) au)<|aB gu (pv 0)<|iY (n:=144115188075855872)),?_}};exists 1,3,.inr ⟨o5,o5⟩,3,3,o5,1,3,⟨o5,o5⟩,3;exact q
variable(qt:bh "turned" 1 ["number"] qY)
include T qt in
theorem Bx{f:jl}{fd:q9}(F:Fun K "check_of" "check_of" pM f fd):⋯ 2 f fd ["start","day","rows"] (uZ):=by
 refine F.okY fN ?_;rintro vs H Q E ⟨s1,d,a,L,rows,rfl,p,R,a1,q⟩;refine⟨J,λa2 A outer s hr=>⟨_,(ai (psS 3 fN.nd<|bI<|aa (aB bf (pv 0) au)<|aa (pv 1) ah)
   (ai (cO ajc J (zy (cg<|pv 2)<|wg<|pv 2) (mj J<|bS (pgN 4 fN.nd)<|bS (pgN 5 fN.nd) gD)
   (aq<|aY<|cK ai4 alb alc rm (pv 3)<|aa (bI<|aa (pv 4)<|aa (pv 5) ah) ah))
   (ai (psS 6 fN.nd au)
   (ai (cO ajc J (cg<|pv 3) (pgN 7 fN.nd)
   (aq<|psS 6 fN.nd<|aB UW (pcS qt az hr<|aa (pv 6) ah)<|pv 7))
   (aq<|aJ<|pv 6))))),?_⟩⟩
 dsimp only[aX];refine{1,3,1,v9,λm O=>?_};let U:a≠m:=p.elim (λh=>ao h O) λh=>ao h O;rcases p with p|p
 .refine .inl ⟨_,J,a,J,{_,X0.of (by rwa[ak U])},gv (K:=K) (a:=a) (xs:=L) (λi σ H2=>∃j n:nt V,σ=[t9<|↥s1-1,t9 ↥d,t8 a,t8 m,j,n,Z0,Z0]/\aj H H2∧
   H2 m=some (.lst ((s1::d::flat (rows.take i)).map λz:Nat=>V.int ↥z)))
  {Z0,Z0,J,aj.new O,by rw[af];show some (HO.lst [V.int<|↥s1-1+1,V.int ↥d])=_;rw[anz];rfl} (λi σ H2 _ y=>by let⟨_,_,_,s2,_⟩:=y;exact X0.of<|s2 a _ p) ?_ ?_⟩
  .rintro i v σ H2 hi ⟨j,n,rfl,s2,h2⟩;let⟨t,r,rfl,g,ht⟩:=R.get i v hi;let a0:i<rows.length:=(aiH.mp g).1;exists t,1,X3.of<|s2 t _ ht,J,_,1,3;refine{1,.inl {J,_,X0.of h2},2,v9,λl S=>?_};let x:m≠l:=ao h2 S;let u:H l=Z0:=s2.free S;exists m,l,3,(by rwa[ak x]),af,?_
   .let Y:(flat<|rows.take i).length=2*i:=by rw[Av,aiU];omega
    show _≤Z7;simp only[List.length_map,List.length_cons,Y,List.length_nil];exact ajr<|aF o6
   .exists _,1,λb o e=>?_
    .rw[ak<|ao e O,ak<|ao e u];exact s2 b o e
    .rw[af];let e:rows.take (i+1)=rows.take i++[r]:=by rw[aiZ,g];rfl
     rw[e,yK];simp
  .rintro σ H2 ⟨j,n,rfl,s2,h2⟩;let h2:H2 m=some (.lst ((s1::d::flat rows).map λz:Nat=>V.int ↥z)):=by rw[h2,R.len,ai7]
   refine⟨_,J,m,J,{_,X0.of h2},gv (K:=K) (a:=m) (xs:=(s1::d::flat rows).map λz:Nat=>V.int ↥z) (λi σ c=>∃C:nt V,σ=[t9<|↥s1-1,t9 ↥d,t8 a,t8 m,j,n,some<|.int ((((s1::d::flat rows).take i).foldl Chk.stp 0:Z5):Z4),C]/\c=H2)
    ⟨Z0,J,J⟩ (λi σ c _ y=>by let⟨_,_,e⟩:=y;exact by rw[e];exact X0.of h2) ?_ ?_⟩
   .rintro i v σ c hi ⟨C,rfl,rfl⟩;rw[aiR] at hi;cases B:(s1::d::flat rows)[i]? with
    |none=>rw[B] at hi;cases hi
    |some z=>
     rw[B] at hi;let hi:V.int ↥z=v:=aiY hi;subst hi;exists 2,1,3;let e:Builtin.bitXor (tI ((((s1::d::flat rows).take i).foldl Chk.stp 0:Z5):Z4)) ↥z =((((s1::d::flat rows).take (i+1)).foldl Chk.stp 0:Z5):Z4):=by rw[FD,Dr,aiZ,B];simp only[Option.toList,List.foldl_append,List.foldl_cons,List.foldl_nil];rfl
     exact{some<|V.int ↥z,by rw[←e];rfl,J}
   .rintro σ c ⟨C,rfl,rfl⟩;exists 1;rw[aiE,ai7];exact q c s2
 .refine .inr ⟨_,J,a,J,{_,X3.of (by rwa[ak U])},Qy (K:=K) (a:=a) (xs:=L) (λi σ H2=>∃j n:nt V,σ=[t9<|↥s1-1,t9 ↥d,t8 a,t8 m,j,n,Z0,Z0]/\aj H H2∧
   H2 m=some (.lst ((s1::d::flat (rows.take i)).map λz:Nat=>V.int ↥z)))
  {Z0,Z0,J,aj.new O,by rw[af];show some (HO.lst [V.int<|↥s1-1+1,V.int ↥d])=_;rw[anz];rfl} (λi σ H2 _ y=>by let⟨_,_,_,s2,_⟩:=y;exact X3.of<|s2 a _ p) ?_ ?_⟩
  .rintro i v σ H2 hi ⟨j,n,rfl,s2,h2⟩;let⟨t,r,rfl,g,ht⟩:=R.get i v hi;let a0:i<rows.length:=(aiH.mp g).1;exists t,1,X3.of<|s2 t _ ht,J,_,1,3;refine{1,.inl {J,_,X0.of h2},2,v9,λl S=>?_};let x:m≠l:=ao h2 S;let u:H l=Z0:=s2.free S;exists m,l,3,(by rwa[ak x]),af,?_
   .let Y:(flat<|rows.take i).length=2*i:=by rw[Av,aiU];omega
    show _≤Z7;simp only[List.length_map,List.length_cons,Y,List.length_nil];exact ajr<|aF o6
   .exists _,1,λb o e=>?_
    .rw[ak<|ao e O,ak<|ao e u];exact s2 b o e
    .rw[af];let e:rows.take (i+1)=rows.take i++[r]:=by rw[aiZ,g];rfl
     rw[e,yK];simp
  .rintro σ H2 ⟨j,n,rfl,s2,h2⟩;let h2:H2 m=some (.lst ((s1::d::flat rows).map λz:Nat=>V.int ↥z)):=by rw[h2,R.len,ai7]
   refine⟨_,J,m,J,{_,X0.of h2},gv (K:=K) (a:=m) (xs:=(s1::d::flat rows).map λz:Nat=>V.int ↥z) (λi σ c=>∃C:nt V,σ=[t9<|↥s1-1,t9 ↥d,t8 a,t8 m,j,n,some<|.int ((((s1::d::flat rows).take i).foldl Chk.stp 0:Z5):Z4),C]/\c=H2)
    ⟨Z0,J,J⟩ (λi σ c _ y=>by let⟨_,_,e⟩:=y;exact by rw[e];exact X0.of h2) ?_ ?_⟩
   .rintro i v σ c hi ⟨C,rfl,rfl⟩;rw[aiR] at hi;cases B:(s1::d::flat rows)[i]? with
    |none=>rw[B] at hi;cases hi
    |some z=>
     rw[B] at hi;let hi:V.int ↥z=v:=aiY hi;subst hi;exists 2,1,3;let e:Builtin.bitXor (tI ((((s1::d::flat rows).take i).foldl Chk.stp 0:Z5):Z4)) ↥z =((((s1::d::flat rows).take (i+1)).foldl Chk.stp 0:Z5):Z4):=by rw[FD,Dr,aiZ,B];simp only[Option.toList,List.foldl_append,List.foldl_cons,List.foldl_nil];rfl
     exact{some<|V.int ↥z,by rw[←e];rfl,J}
   .rintro σ c ⟨C,rfl,rfl⟩;exists 1;rw[aiE,ai7];exact q c s2
variable(lg:bh "check_of" 2 ["start","day","rows"] uZ)
include T lg in
theorem sX{f:jl}{fd:q9}(F:Fun K "__init__" "Piece.__init__" iV f fd):⋯ 3 f fd ["self","start","day","rows","check"] (pD K):=by
 refine F.okY kY ?_;rintro vs H Q E ⟨p,C,dx,a,s1,d,L,rows,cv,c,rfl,hp,cl,n1,n2,n3,n4,hA,R,a0,a5,q⟩;refine⟨J,λa6 A outer s hr=>⟨_,(ai (bV (pv 0) (pv 2) J)
   (ai (bV (pv 0) (bF d7 o9 T.jO ajQ<|aa (dg (N:=["place","block"]) (k:=2) (cap:=[]) J J (zy (cg<|pv 3)<|wg<|pv 3) (λ_ _ _ _=>(sM (K:=K) (n:=2) J J<|bS (pgN 0 (show(["place","block"]:fy Z6).Nodup from by decide +kernel)<|.inr J)<|bS (pgN 1 (show(["place","block"]:fy Z6).Nodup from by decide +kernel)<|.inr J) gD)) (λ_ _ _ _=>cj) λ_ _ _ _=>(eW<|aa (pv 0)<|aa (pv 1) ah)) ah) J)
   (ai (psS 5 kY.nd<|pcS lg az hr<|aa (pv 1)<|aa (pv 2)<|aa (aZ (pv 0) J) ah)
   (ai (bV (pv 0) (uQ (aC oZ (pv 4) dO<|aH _) (pv 5)<|pv 4) J)
   (aq<|bV (pv 0) (fz bL (aZ (pv 0) J) (pv 5)<|aH _) J))))),?_⟩⟩
 dsimp only[aX];let a4:a≠p:=by rcases hA with h|h <;> exact bU h hp nofun
 exists 2,p,C,dx,1,hp,cl,n1,(by show 0<1000;decide);let a2:Z9 H p (.ins C dx (bq "day" (V.int ↥d) [])) p=some (.ins C dx [("day",V.int ↥d)]):=af;let k1:aW [p] H (Z9 H p (.ins C dx (bq "day" (V.int ↥d) []))):=cZ aW.refl<|.inl o8;generalize Z9 H p (.ins C dx (bq "day" (V.int ↥d) []))=H1 at a2 k1;let m:H1 a=some (.lst L)∨H1 a=some (.tup L):=hA.imp (λh=>k1 a _ h (⇑a4)) λh=>k1 a _ h (⇑a4);let R1:dN H1 L rows:=R.mono λt xs e=>k1 t _ e (by let:=bU e hp nofun;simpa using this)
 rcases m with m|m
 .refine .inl {1,a,J,{_,X0.of m},λD hD=>?_};refine cR D (K:=K) (a:=a) (xs:=L) (λi σ g ys=>∃v v':nt V,σ=[v,v']/\aj H1 g/\g D=some (.lst ys)/\dN g ys (rows.take i)) {Z0,Z0,J,aj.new hD,af,{J,λi v e=>by simp at e}} (λi σ g ys _ z0=>by let⟨_,_,_,s5,_⟩:=z0;exact X0.of<|s5 a _ m) ?_ ?_
  .rintro i x σ g ys hi ⟨v,v',rfl,s5,Y,S⟩;let⟨t,r,rfl,a3,ht⟩:=R1.get i x hi;refine{t,1,X3.of<|s5 t _ ht,J,_,1,3,2,v9,λt2 l=>?_};let nD:D≠t2:=ao Y l;exists by rwa[ak nD],(by rw[S.len,aiU];exact aF o6),_,1,λb o e=>?_,af
   .rw[ak<|ao e hD];exact aj.new l b _<|s5 b _ e
   .rw[aiZ,a3];refine(S.mono λb xs e=>?_).snoc ?_
    .rw[ak<|bU e Y nofun];exact aj.new l b _ e
    .rw[ak nD.symm,af]
  .rintro σ g ys ⟨v,v',rfl,s5,Y,S⟩;rw[show rows.take L.length=rows by rw[R1.len,ai7]] at S;refine{D,1,.inl {X0.of Y,λr hr=>?_}};let u:=s5 p _ a2;let O:p≠r:=ao u hr;exists 1,p,C,dx,1,aj.new hr p _ u,cl,n2,(by show 1<1000;decide);rw[zO];let j:Z9 (Z9 g r (.tup ys)) p (.ins C dx [("day",V.int ↥d),("rows",V.ref r)]) p=some (.ins C dx [("day",V.int ↥d),("rows",V.ref r)]):=af;let y:Z9 (Z9 g r (.tup ys)) p (.ins C dx [("day",V.int ↥d),("rows",V.ref r)]) r=some (.tup ys):=by rw[ak O.symm,af]
   let k6:aW [p] g (Z9 (Z9 g r (.tup ys)) p (.ins C dx [("day",V.int ↥d),("rows",V.ref r)])):=cZ (aW.of_same<|aj.new hr)<|.inl o8;let R6:dN (Z9 (Z9 g r (.tup ys)) p (.ins C dx [("day",V.int ↥d),("rows",V.ref r)])) ys rows:=S.mono λt xs e=>k6 t _ e (by let:=bU e u nofun;simpa using this)
   generalize Z9 (Z9 g r (.tup ys)) p (.ins C dx [("day",V.int ↥d),("rows",V.ref r)])=H6 at j y k6 R6;let a1:aW [p] H H6:=λb o e B=>k6 b o (s5 b o<|k1 b o e B) B
   let U:r≠p:=O.symm;refine{2,1,p,C,dx,_,1,j,cl,n2,Cu,s1,d,r,ys,rows,J,.inr y,R6,a0,λH7 s7=>?_};let last:Q V.non (Z9 (Z9 H7 p (.ins C dx [("day",V.int ↥d),("rows",V.ref r),("check",V.int c)])) p (.ins C dx (bq "fits" (V.bl (decide (V.int c=V.int ((Chk.chk (s1::d::flat rows):Z5):Z4)))) [("day",V.int ↥d),("rows",V.ref r),("check",V.int c)]))):=by
    rw[Bf,dQ,RJ];refine q r ys _ af (by rw[ak U];exact s7 r _ y) (R6.mono λt xs e=>?_) λb o e B=>?_
    .rw[ak<|bU e j nofun];exact s7 t _ e
    .rw[ak (⇑B)];exact s7 b _<|a1 b o e B
   rcases a5 with⟨rfl,hc⟩|rfl
   .subst hc;exists 1,J,1;refine dZ J ?_;exists 2,p,C,dx,1,s7 p _ j,cl,n3,(by show 2<1000;decide);rw[nu];exists 1,p,C,dx,_,1,af,cl,n3,qy,1,J,1,p,C,dx,1,af,cl,n4,(by show 3<1000;decide);exact last
   .exists 1,J,1;refine cS (by intro h;cases h) ?_;exists 2,p,C,dx,1,s7 p _ j,cl,n3,(by show 2<1000;decide);rw[nu];exists 1,p,C,dx,_,1,af,cl,n3,qy,1,J,1,p,C,dx,1,af,cl,n4,(by show 3<1000;decide);exact last
 .refine .inr {1,a,J,{_,X3.of m},λD hD=>?_};refine pq D (K:=K) (a:=a) (xs:=L) (λi σ g ys=>∃v v':nt V,σ=[v,v']/\aj H1 g/\g D=some (.lst ys)/\dN g ys (rows.take i)) {Z0,Z0,J,aj.new hD,af,{J,λi v e=>by simp at e}} (λi σ g ys _ z0=>by let⟨_,_,_,s5,_⟩:=z0;exact X3.of<|s5 a _ m) ?_ ?_
  .rintro i x σ g ys hi ⟨v,v',rfl,s5,Y,S⟩;let⟨t,r,rfl,a3,ht⟩:=R1.get i x hi;refine{t,1,X3.of<|s5 t _ ht,J,_,1,3,2,v9,λt2 l=>?_};let nD:D≠t2:=ao Y l;exists by rwa[ak nD],(by rw[S.len,aiU];exact aF o6),_,1,λb o e=>?_,af
   .rw[ak<|ao e hD];exact aj.new l b _<|s5 b _ e
   .rw[aiZ,a3];refine(S.mono λb xs e=>?_).snoc ?_
    .rw[ak<|bU e Y nofun];exact aj.new l b _ e
    .rw[ak nD.symm,af]
  .rintro σ g ys ⟨v,v',rfl,s5,Y,S⟩;rw[show rows.take L.length=rows by rw[R1.len,ai7]] at S;refine{D,1,.inl {X0.of Y,λr hr=>?_}};let u:=s5 p _ a2;let O:p≠r:=ao u hr;exists 1,p,C,dx,1,aj.new hr p _ u,cl,n2,(by show 1<1000;decide);rw[zO];let j:Z9 (Z9 g r (.tup ys)) p (.ins C dx [("day",V.int ↥d),("rows",V.ref r)]) p=some (.ins C dx [("day",V.int ↥d),("rows",V.ref r)]):=af;let y:Z9 (Z9 g r (.tup ys)) p (.ins C dx [("day",V.int ↥d),("rows",V.ref r)]) r=some (.tup ys):=by rw[ak O.symm,af]
   let k6:aW [p] g (Z9 (Z9 g r (.tup ys)) p (.ins C dx [("day",V.int ↥d),("rows",V.ref r)])):=cZ (aW.of_same<|aj.new hr)<|.inl o8;let R6:dN (Z9 (Z9 g r (.tup ys)) p (.ins C dx [("day",V.int ↥d),("rows",V.ref r)])) ys rows:=S.mono λt xs e=>k6 t _ e (by let:=bU e u nofun;simpa using this)
   generalize Z9 (Z9 g r (.tup ys)) p (.ins C dx [("day",V.int ↥d),("rows",V.ref r)])=H6 at j y k6 R6;let a1:aW [p] H H6:=λb o e B=>k6 b o (s5 b o<|k1 b o e B) B
   let U:r≠p:=O.symm;refine{2,1,p,C,dx,_,1,j,cl,n2,Cu,s1,d,r,ys,rows,J,.inr y,R6,a0,λH7 s7=>?_};let last:Q V.non (Z9 (Z9 H7 p (.ins C dx [("day",V.int ↥d),("rows",V.ref r),("check",V.int c)])) p (.ins C dx (bq "fits" (V.bl (decide (V.int c=V.int ((Chk.chk (s1::d::flat rows):Z5):Z4)))) [("day",V.int ↥d),("rows",V.ref r),("check",V.int c)]))):=by
    rw[Bf,dQ,RJ];refine q r ys _ af (by rw[ak U];exact s7 r _ y) (R6.mono λt xs e=>?_) λb o e B=>?_
    .rw[ak<|bU e j nofun];exact s7 t _ e
    .rw[ak (⇑B)];exact s7 b _<|a1 b o e B
   rcases a5 with⟨rfl,hc⟩|rfl
   .subst hc;exists 1,J,1;refine dZ J ?_;exists 2,p,C,dx,1,s7 p _ j,cl,n3,(by show 2<1000;decide);rw[nu];exists 1,p,C,dx,_,1,af,cl,n3,qy,1,J,1,p,C,dx,1,af,cl,n4,(by show 3<1000;decide);exact last
   .exists 1,J,1;refine cS (by intro h;cases h) ?_;exists 2,p,C,dx,1,s7 p _ j,cl,n3,(by show 2<1000;decide);rw[nu];exists 1,p,C,dx,_,1,af,cl,n3,qy,1,J,1,p,C,dx,1,af,cl,n4,(by show 3<1000;decide);exact last
variable(eZ:LX "Piece" cP "__init__" 3 ["self","start","day","rows","check"] (pD K))
include T eZ in
theorem kZ{f:jl}{fd:q9}{n:mu}(F:xU K "__init__" "Whole.__init__" dG f fd n):⋯ 4 f fd ["self","day","rows","check"] (mF aG aG):=by
 refine F.okX tD (λvs H Q E h=>?_) λl A outer s H vs Q E m h=>?_
 .let⟨p,dx,a,d,L,rows,cv,c,rfl,g,i,R,b,e,q⟩:=h;rfl
 let⟨p,dx,a,d,L,rows,cv,c,rfl,g,i,R,b,e,q⟩:=h;exists _,(aq<|aY<|QB (eL (v:=.ref cP) J T.G8 J) eZ az (m.mono o7)<|aa (pv 0)<|aa (pG lP au)<|aa (pv 1)<|aa (pv 2)<|aa (pv 3) ah);refine{2,2,1,p,aG,dx,a,(0),d,L,rows,cv,c,J,g,T.HS,T.oj,T.mR,T.kJ,T.mZ,i,R,b,e,λr j H1 h1 h2 h3 k1=>?_};exact q H1 ⟨dx,r,j,h1,h2,h3⟩ k1
include T in
theorem sV{f:jl}{fd:q9}(F:Fun K "__init__" "Shelf.__init__" iW f fd):⋯ 1 f fd ["self"] (uJ aD):=by
 refine F.okY sY ?_;rintro vs H Q E ⟨p,dx,rfl,c,q⟩;refine⟨J,λe A outer s g=>⟨_,(ai (bV (pv 0) uR J)
   (aq<|bV (pv 0) au J)),?_⟩⟩
 dsimp only[aX];refine λd a=>?_
 let b:p≠d:=ao c a;exists 1,p,aD,dx,1,aj.new a p _ c,T.fP,T.gX,(by show 0<1000;decide);exists 1,p,aD,dx,1,af,T.fP,T.c8,(by show 1<1000;decide);rw[dQ,show bq "pieces" (V.ref d) [] =([("pieces",V.ref d)]:fy (Z6×V)) from J,B6];refine q d _ {dx,af,by rw[ak b.symm,af]} a ?_;exact cZ (aW.of_same<|aj.new a)<|.inl o8
include T in
theorem Aw{f:jl}{fd:q9}(F:Fun K "lay" "Shelf.lay" om f fd):⋯ 1 f fd ["self","number","piece"] (zF aD):=by
 refine F.okY Bh ?_;rintro vs H Q E ⟨p,d,fl,C4,n,a,rfl,⟨dx,h1,h2⟩,e,q⟩;refine⟨J,λg A outer s h=>⟨_,(ai (oY (ku h) (aZ (pv 0) J) (pv 1) (pv 2) J)
   (aq<|bV (pv 0) (aL (m9 J) o9 T.wD akt<|aa (aZ (pv 0) J)<|aa (aB bf (pv 1) au) ah) J)),?_⟩⟩
 dsimp only[aX];let c:p≠d:=bU h1 h2 nofun;exists 2,p,aD,dx,_,1,h1,T.fP,T.gX,GI,1,d,1,jP.k (k:=Sum.inl n) h2<|aF o6;let b:Z9 H d (.dK (putK C4 (Sum.inl n) (V.ref a))) p=some (.ins aD dx (sfs d fl)):=by rwa[ak c]
 exists 1,p,aD,dx,_,1,b,T.fP,T.c8,qh
 repeat (first|refine{1,?_}|refine{3,?_}|refine{(by first|decide|(dsimp only;decide)|(show 2≤Z7;decide)|(show 1≤Z7;decide)|(show 3≤Z7;decide)|(show 4≤Z7;decide)),?_}|refine{.inl ⟨o5,o5⟩,?_}|refine{.inr ⟨o5,o5⟩,?_}|refine{⟨o5,o5⟩,?_}|refine{3,o5,?_}|refine{3,.inl ⟨o5,o5⟩,?_}|refine{3,.inr ⟨o5,o5⟩,?_}|refine{3,⟨o5,o5⟩,?_}|refine{J,?_}|exists _,1)
 exists p,aD,dx,1,b,T.fP,T.c8,(by show 2<1000;decide);rw[AH];refine q _ {dx,af,by rw[ak c.symm,af]} ?_;exact cZ (cZ aW.refl<|.inl o8)<|.inl o8
variable(kc:dM aD "lay" 1 ["self","number","piece"] (zF aD))
include T kc in
theorem Ao{f:jl}{fd:q9}(F:Fun K "put" "Shelf.put" nL f fd):⋯ 2 f fd ["self","piece"] (Ac aD):=by
 refine F.okY qW ?_;rintro vs H Q E ⟨p,d,fl,C4,a,rfl,⟨dx,h1,h2⟩,b,q⟩;refine⟨J,λe A outer s g=>⟨_,(ai (psS 2 qW.nd<|aZ (pv 0) J)
   (ai (aY<|bM (pv 0) T.fP kc az (g.mono o7)<|aa (pv 2)<|aa (pv 1) ah)
   (aq<|aJ<|pv 2))),?_⟩⟩
 dsimp only[aX];exists 1,p,aD,dx,_,1,h1,T.fP,T.c8,qh;refine{1,p,dx,1,h1,vJ o4 o4,2,p,d,fl,C4,fl,a,J,⟨dx,h1,h2⟩,b,λH1 c k1=>?_};rw[aiN o6] at c;exact{1,q H1 c k1}
include T in
theorem qP{f:jl}{fd:q9}(F:Fun K "following" "Shelf.following" iy f fd):⋯ 1 f fd ["self"] (lX aD):=by refine F.okY rJ ?_;rintro vs H Q E ⟨p,d,fl,C4,rfl,⟨dx,h1,h2⟩,q⟩;refine{J,λa A outer s b=>{_,(aq<|aJ<|aZ (pv 0) J),?_}};dsimp only[aX];exact{1,p,aD,dx,_,1,h1,T.fP,T.c8,qh,q}
include T in
theorem uG{f:jl}{fd:q9}(F:Fun K "writes_number" "writes_number" jK f fd):⋯ 1 f fd ["word"] (r8):=by
 refine F.okY uB ?_;rintro vs H Q E ⟨z,rfl,r,q⟩;refine⟨J,λt A outer s u=>⟨_,(ai (aV (aC bL (pv 0) aN<|aH _) (aq<|aJ nh) aP)
   (ai (aV (PW.pt<|pw_or (aC kh (aL lV o9 T.bE aiT<|aa (pv 0) ah) au<|aH _)<|pw_or (aC jz (aL lV o9 T.bE aiT<|aa (pv 0) ah) (eL (v:=.int 20) J T.yb {1})<|aH _)<|pw_or1<|aC bL (aQ YF (pv 0) au λ_ _=>rfl) aN<|aH _) (aq<|aJ nh) aP)
   (aq<|aJ<|aL (BB J) o9 T.aeM PyProof.Rows.boot_all<|aa (dg (N:=["sign"]) (k:=1) (cap:=[]) J J (F0<|pv 0) (λ_ _ _ _=>(pgN 0 (show(["sign"]:fy Z6).Nodup from by decide +kernel)<|.inr J)) (λ_ _ _ _=>cj) λ_ _ _ _=>(fz Gg (pv 0) (eL (v:=.str<|PySem.Str.ofString "0123456789") J T.Fj {1}) (by with_unfolding_all rfl))) ah))),?_⟩⟩
 dsimp only[aX];let b:z.length≤Z7:=ai8 r o7;exists 1,J,1;by_cases h0:z=Str.ofString "0"
 .subst h0;refine dZ J ?_;let e:okW (Str.ofString "0")=Z1:=by decide +kernel
  rw[e] at q;exact q H<|aj.refl H
 refine cS (λh=>h0<|V.str.inj h) ?_;exists 1,z,J,b,3,1;by_cases h1:¬1≤z.length
 .refine dZ o6 ?_;refine fQ ?_;rw[Yv h1] at q;exact q H<|aj.refl H
 let h1:=amc.mp h1;refine cS o6 ?_;exists 1,z,J,b,3,1;by_cases h2:¬z.length≤20
 .refine dZ o6 ?_;refine fQ ?_;rw[XC h2] at q;exact q H<|aj.refl H
 let h2:=amc.mp h2;refine cS o6 ?_;let⟨p,a⟩:=GB h1;exists 1,z,(0),p,J,J,b,bx (j:=0) a,J,1;by_cases h3:p=48
 .subst h3;refine dZ J ?_;rw[Ih (λh=>h0<|G0 h a) a] at q;exact q H<|aj.refl H
 refine cS (λh=>h3<|RE.mp h) ?_;rw[Cd h1 h2 (.inr λh=>h3 (by rw[a] at h;exact aiY h))] at q;refine{1,z,J,λn o=>?_};refine Hq n (x:=z) (λi σ l ys=>∃v:nt V,σ=[v]/\l=Z9 H n (.lst ys)/\ys =((z.cps.toList.take i).map nY).map V.bl) ⟨Z0,J,J,J⟩ ?_ ?_
 .rintro i c σ l ys hi ⟨v,rfl,rfl,g⟩;let m:z.cps.toList[i]?=some c:=⇑hi
  exists 1,3,af,?_,1,(by rw[dQ])
  .rw[g,aiE,aiE,aiU,str_len];exact aF o6
  .rw[g,aiZ,m];simp[nY]
 .rintro σ l ys ⟨v,rfl,rfl,g⟩;exists n,(z.cps.toList.map nY),J,X0.of ?_
  .rw[af,g,ajA o8]
  .let e:(z.cps.toList.map nY).all id=isNum z:=by unfold isNum;rw[List.all_map];rfl
   rw[e];exact q _<|aj.new o
include T in
theorem BN{f:jl}{fd:q9}(F:Fun K "ask_wide" "ask_wide" qa f fd):⋯ 3 f fd ["wide"] (yj):=by
 refine F.okY B3 ?_;rintro vs H Q E ⟨wd,rfl,q1,b⟩;refine{J,λc A outer s e=>{_,(aq<|aV (PW.pt<|pw_or (aC kh (pv 0) au<|aH _)<|pw_or1<|aC jz (pv 0) (eL (v:=.int 40) J T.zf {1})<|aH _) (aq cA) aP),?_}};by_cases a:¬(1≤wd/\wd≤40)
 .exists 1,3,1;refine xj (λh=>?_) (λh=>?_)
  .refine fQ ?_;exact(b a).elim
  .exists 1,3,1;refine xj (λh'=>(b a).elim) λh'=>?_;simp at h h';omega
 let a:=amc.mp a;exists 1,3,1;refine cS o6 ?_;exists 1,3,1;refine cS o6 ?_;exact q1 a
variable(gx:bh "ask_wide" 3 ["wide"] yj)
include T gx in
theorem uo{f:jl}{fd:q9}(F:Fun K "__init__" "Days.__init__" jB f fd):⋯ 4 f fd ["self","wide"] (xR aA):=by
 refine F.okY uy ?_;rintro vs H Q E ⟨p,dx,wd,rfl,hp,q1,q2⟩;refine⟨J,λa9 A outer s hr=>⟨_,(ai (aY<|pcS gx az hr<|aa (pv 1) ah)
   (ai (bV (pv 0) (pv 1) J)
   (ai (bV (pv 0) au J)
   (ai (bV (pv 0) (bI<|aa (aB S3 (bI<|aa au ah)<|pv 1) ah) J)
   (aq<|bV (pv 0) (bI<|aa (bI ah) ah) J))))),?_⟩⟩
 dsimp only[aX];refine{1,wd,J,λhw=>?_,q2};let q:=q1 hw;exists 2,p,aA,dx,[],J,hp,T.bN,T.iE,(by show 0<1000;decide);exists 1,p,aA,dx,1,af,T.bN,T.dI,(by show 1<1000;decide);rw[dQ];refine{v8,λz hz=>?_};refine{1,z,wd,1,J,af,o6,o6,(by show 1*_≤Z7;exact ajr<|aF o6),λt S=>?_};refine{v8,λta L=>?_};let⟨a1,r⟩:=aR L;let⟨a2,a0⟩:=aR a1;let⟨Y,g⟩:=aR a2;let⟨b1,a6⟩:=aR S;let⟨b2,u⟩:=aR b1;let⟨c1,nz⟩:=aR hz;exists 1,p,aA,dx,bq "last" (.int 0)<|bq "wide" (.int wd) [],J,(by simp[Z9,g.symm,u.symm,nz.symm]),T.bN,T.fB,(by let:=fR "last" (.int 0)<|bq "wide" (.int wd) [];let:=fR "wide" (.int wd) [];simp at *;omega);refine{ajb _,λe he=>?_};refine{v8,λsa x=>?_};let⟨d1,m⟩:=aR he;let⟨d2,y⟩:=aR d1;let⟨d3,C⟩:=aR d2;let⟨d4,a7⟩:=aR d3;let⟨d5,a4⟩:=aR d4;let⟨e1,O⟩:=aR x;let⟨e2,n⟩:=aR e1;let⟨e3,v⟩:=aR e2;let⟨e4,B⟩:=aR e3;let⟨e5,a5⟩:=aR e4;let⟨U,a8⟩:=aR e5;exists 1,p,aA,dx,bq "tables" (.ref ta)<|bq "last" (.int 0)<|bq "wide" (.int wd) [],J,(by simp[Z9,n.symm,m.symm]),T.bN,T.ef,(by let:=fR "tables" (.ref ta)<|bq "last" (.int 0)<|bq "wide" (.int wd) [];let:=fR "last" (.int 0)<|bq "wide" (.int wd) [];let:=fR "wide" (.int wd) [];simp at *;omega);let ew:((wd.toNat:Z5):Z4)=wd:=by omega
 refine q ta sa t e _ {{dx,?_},?_,?_,{J,λi a xs h1 h2=>?_},{J,λi a xs h1 h2=>?_},?_,o8,J,λt S=>?_,o6,o6} (λb l=>?_) λb o l j=>?_
 .rw[af,Qf,ew];rfl
 .simp[Z9,g,v.symm,y.symm]
 .simp[Z9,n]
 .match i,h1,h2 with
  |0,h1,h2=>
   let h1:t=a:=⇑h1
   let h2:List.replicate wd.toNat 0=xs:=⇑h2
   subst h1 h2;rw[←Ib];simp[Z9,u,B.symm,C.symm,r.symm]
  |i+1,h1,_=>simp at h1
 .match i,h1,h2 with
  |0,h1,h2=>
   let h1:e=a:=⇑h1
   let h2:[]=xs:=⇑h2
   subst h1 h2;simp[Z9,O.symm,m]
  |i+1,h1,_=>simp at h1
 .simp only[List.nodup_cons,List.mem_cons,List.mem_append,List.not_mem_nil,or_false,not_or,not_false_eq_true,List.nodup_nil,and_true,List.cons_append,List.nil_append];grind
 .let:t=List.replicate wd.toNat 0:=⇑S
  rw[this,ajV]
 .simp only[List.mem_cons,List.not_mem_nil,or_false] at l;rcases l with rfl|rfl|rfl|rfl
  .exact Y
  .exact U
  .exact b2
  .exact d5
 .let j:b≠p:=⇑j
  let hn:∀{c:jl},H c=Z0->b≠c:=λh=>ao l h
  simp[Z9,j,hn U,hn d5,hn Y,hn b2,hn c1,l]
include T in
theorem rq{f:jl}{fd:q9}(F:Fun K "ask_change" "Days.ask_change" iu f fd):⋯ 3 f fd ["self","place","block"] (yc aA):=by
 refine F.okY rG ?_;rintro vs H Q E ⟨p,ta,sa,TL,SL,wd,C2,C3,c,rfl,D,e,q1,a⟩;refine⟨J,λg A outer s h=>⟨_,(ai (aV (PW.pt<|pw_or (aC kh (pv 1) au<|aH _)<|pw_or1<|aC wo (pv 1) (aZ (pv 0) J)<|aH _) (aq cA) aP)
   (aq<|aV (PW.pt<|pw_or (aC kh (pv 2) au<|aH _)<|pw_or1<|aC jz (pv 2) (eL (v:=.int 18446744073709551615) J T.m_W {1})<|aH _) (aq cA) aP)),?_⟩⟩
 dsimp only[aX];let⟨dx,b⟩:=D.ob;by_cases h1:c.1<0
 .exists 1,3,1;refine dZ h1 ?_;refine fQ ?_;exact(q1 c.1 (by unfold gh;rw[aiN<|.inl h1])).elim
 exists 1,3,1;refine cS h1 ?_;exists 2,p,aA,dx,_,1,b,T.bN,T.iE,Dq,3,1;by_cases h2:↥wd≤c.1
 .refine dZ h2 ?_;exact(q1 c.1 (by unfold gh;rw[aiN<|.inr h2])).elim
 refine cS h2 ?_;by_cases h3:c.2<0
 .exists 1,3,1;refine dZ h3 ?_;refine fQ ?_;exact(a c.2 (by unfold gh;rw[aiL o6,aiN<|.inl h3])).elim
 exists 1,3,1;refine cS h3 ?_;exists 1,3,1;by_cases h4:18446744073709551615<c.2
 .refine dZ h4 ?_;exact(a c.2 (by unfold gh;rw[aiL o6,aiN<|.inr h4])).elim
 refine cS h4 ?_;exact e (by unfold gh;rw[aiL o6,aiL o6])
include T in
theorem vG{f:jl}{fd:q9}(F:Fun K "ask_day" "Days.ask_day" jR f fd):⋯ 3 f fd ["self","day"] (ya aA):=by
 refine F.okY wu ?_;rintro vs H Q E ⟨p,ta,sa,TL,SL,wd,C2,C3,d,rfl,D,b,q1⟩;refine{J,λc A outer s e=>{_,(aq<|aV (PW.pt<|pw_or (aC kh (pv 1) au<|aH _)<|pw_or1<|aC jz (pv 1) (aZ (pv 0) J)<|aH _) (aq cA) aP),?_}};dsimp only[aX];let⟨dx,a⟩:=D.ob;by_cases h1:d<0
 .exists 1,3,1;refine dZ h1 ?_;refine fQ ?_;exact(q1 o6).elim
 exists 1,3,1;refine cS h1 ?_;exists 2,p,aA,dx,_,1,a,T.bN,T.dI,pe,3,1;by_cases h2:↥C2.length-1<d
 .refine dZ h2 ?_;exact(q1 o6).elim
 refine cS h2 ?_;exact b o6
variable(bQ:dM aA "ask_day" 3 ["self","day"] (ya aA))
include T bQ in
theorem zk{f:jl}{fd:q9}(F:Fun K "table" "Days.table" mT f fd):⋯ 4 f fd ["self","day"] (uI aA):=by
 refine F.okY zb ?_;rintro vs H Q E ⟨p,ta,sa,TL,SL,wd,C2,C3,d,rfl,D,i,q1⟩;refine⟨J,λj A outer s l=>⟨_,(ai (aY<|bM (pv 0) T.bN bQ az (l.mono o7)<|aa (pv 1) ah)
   (aq<|aJ<|bF rR o9 T.zP amN<|aa (aQ aT (aZ (pv 0) J) (pv 1) λ_ _=>rfl) ah)),?_⟩⟩
 dsimp only[aX];let⟨dx,c⟩:=D.ob;refine{1,p,dx,1,c,lG o4 o4 o4 o4,1,p,ta,sa,TL,SL,wd,C2,C3,d,J,D,λn=>?_,q1};let e:d.toNat<C2.length:=by omega
 let⟨g,b,_,a⟩:=D.tls.at_<|aiG e;refine{1,p,aA,dx,_,1,c,T.bN,T.fB,rM,1,ta,_,_,V.ref g,J,J,X0.of D.tl,?_,g,1,.inl<|X0.of a,λm h=>?_}
 .rw[show d =((d.toNat:Z5):Z4) by omega];refine bx ?_;simp[b]
 .exact i n m _ (aiG e) h
variable(fS:dM aA "ask_change" 3 ["self","place","block"] (yc aA))
include T fS in
theorem xO{f:jl}{fd:q9}(F:Fun K "passes" "Days.passes" kR f fd):⋯ 4 f fd ["self","changes"] (sj aA):=by
 refine F.okY eT ?_;rintro vs H Q E ⟨p,ta,sa,a,TL,SL,wd,C2,C3,L,chs,rfl,D,hA,R,bz,c3,ab,q0,q1,q2⟩;refine⟨J,λc0 A outer s hr=>⟨_,(ai (cO ajc J (cg<|pv 1) (mj J<|bS (pgN 2 eT.nd)<|bS (pgN 3 eT.nd) gD)
   (aq<|aY<|bM (pv 0) T.bN fS az (hr.mono o7)<|aa (pv 2)<|aa (pv 3) ah))
   (ai (psS 4 eT.nd<|bF rR o9 T.zP amN<|aa (aQ aT (aZ (pv 0) J) (aZ (pv 0) J) λ_ _=>rfl) ah)
   (ai (cO ajc J (cg<|pv 1) (mj J<|bS (pgN 2 eT.nd)<|bS (pgN 3 eT.nd) gD)
   (aq<|AI (pv 3)<|Ax (pv 4) (pv 2) set_list))
   (ai (aY<|cK ai4 aje ajf cC (aZ (pv 0) J)<|aa (pv 4) ah)
   (ai (aY<|cK ai4 aje ajf cC (aZ (pv 0) J)<|aa (dg (N:=["place","block"]) (k:=2) (cap:=[]) J J (cg<|pv 1) (λ_ _ _ _=>(sM (K:=K) (n:=2) J J<|bS (pgN 0 (show(["place","block"]:fy Z6).Nodup from by decide +kernel)<|.inr J)<|bS (pgN 1 (show(["place","block"]:fy Z6).Nodup from by decide +kernel)<|.inr J) gD)) (λ_ _ _ _=>cj) λ_ _ _ _=>(pv 0)) ah)
   (ai (bV (pv 0) (aB bf (aZ (pv 0) J) au) J)
   (aq<|aJ<|aZ (pv 0) J))))))),?_⟩⟩
 dsimp only[aX];let⟨dx,ob⟩:=D.ob;let tpos:0<C2.length:=ak6 D.ne;let bc:∀{i:Z5}{v:V},L[i]?=some v->i<chs.length:=λ{i v}h=>by rw[←R.len];exact(aiH.mp h).1
 refine⟨_,J,a,J,{_,X0.of hA},gv (K:=K) (a:=a) (xs:=L) (λi σ H2=>∃S U:nt V,σ=[t8 p,t8 a,S,U,Z0]/\H2=H/\∀j d,j<i->chs[j]?=some d->gh wd d=Z0)
  {Z0,Z0,J,J,λj d hj=>absurd hj<|akZ _} (λi σ H2 _ z0=>by let⟨_,_,_,e,_⟩:=z0;exact by rw[e];exact X0.of hA) ?_ ?_⟩
 .rintro i v σ H2 hi ⟨S,U,rfl,rfl,hp⟩;let⟨t,r,rfl,l,B⟩:=R.get i v hi;exists t,1,X3.of B,J,_,1,3;refine{1,p,dx,1,ob,lG o4 o4 o4 o4,2,p,ta,sa,TL,SL,wd,C2,C3,r,J,D,λy=>?_,λx y=>q1 x<|tL l hp y,λx y=>q2 x<|tL l hp y};refine{3,λj d hj hd=>?_};by_cases bn:j=i
  .rw[bn,l] at hd;cases hd;exact y
  .exact hp j d o6 hd
 rintro σ H2 ⟨S,U,rfl,rfl,a1⟩;let am:dD wd chs=Z0:=by unfold dD;rw[List.findSome?_eq_none_iff];intro c hc;let⟨j,hj⟩:=ajs.mp hc;exact a1 j c (by rw[R.len];exact(aiH.mp hj).1) hj
 let be:∀ c∈chs,gh wd c=Z0:=qB am;let u:C2[C2.length-1]?=some C2[C2.length-1]:=aiG o6;generalize C2[C2.length-1]=g at u;let⟨t0,bd,_,bm⟩:=D.tls.at_ u;refine{1,p,aA,dx,_,1,ob,T.bN,T.fB,rM,1,p,aA,dx,_,1,ob,T.bN,T.dI,pe,ta,_,_,V.ref t0,J,J,X0.of D.tl,?_,t0,1,.inl<|X0.of bm,λm C=>?_}
 .rw[show↥C2.length-1 =((C2.length-1:Z5):Z4) by omega];refine bx ?_;simp[bd]
 let a8:g.length=wd:=D.wds g<|aiQ u;let a0:a≠m:=ao hA C;let a5:p≠m:=ao ob C;let ac:ta≠m:=ao D.tl C;let a6:sa≠m:=ao D.sl C;refine⟨_,J,a,J,{_,X0.of (by rwa[ak a0])},gv (K:=K) (a:=a) (xs:=L) (λi σ H3=>∃S U:nt V,σ=[t8 p,t8 a,S,U,t8 m]/\H3=Z9 H2 m (.lst<|(nextT g<|chs.take i).map Z8))
  ⟨S,U,J,J⟩ (λi σ H3 _ z0=>by let⟨_,_,_,e⟩:=z0;exact by rw[e];exact X0.of (by rwa[ak a0])) ?_ ?_⟩
 .rintro i v σ H3 hi ⟨S,U,rfl,rfl⟩;let⟨t,r,rfl,l,B⟩:=R.get i v hi;let⟨r1,r2,_,_⟩:=F5<|be r<|aiQ l;exists t,1,X3.of (by rwa[ak<|ao B C]),J,_,1,3;exists 2,1,m,_,_,r.1.toNat,J,J,af,?_
  .rw[aiE,yx,a8];unfold ixN;rw[aiN o6,aiN o6]
  .exists _,1;rw[dQ];let e:chs.take (i+1)=chs.take i++[r]:=by rw[aiZ,l];rfl
   rw[e,DH,List.map_set]
 rintro σ H3 ⟨S,U,rfl,rfl⟩;rw[show chs.take L.length=chs by rw[R.len,ai7]];let nd:=D.nd;simp only[List.nodup_cons,List.mem_cons,List.mem_append,not_or] at nd;let⟨⟨an,as,bu,bv⟩,⟨ax,ba,bg⟩,⟨bi,bb⟩,_⟩:=nd;simp only[foot,List.mem_cons,List.mem_append,not_or] at ab;let⟨c2,aS,bw,c1,c5⟩:=ab;let a3:Z9 H2 m (.lst ((nextT g chs).map Z8)) p=some (.ins aA dx (fl ↥wd (↥C2.length-1) ta sa)):=by rwa[ak a5]
 let Y:Z9 H2 m (.lst ((nextT g chs).map Z8)) ta=some (.lst (TL.map V.ref)):=by rw[ak ac];exact D.tl
 let bE:=D.tls.len;let bQ:=D.sls.len;let al:=D.lens;exists 1,p,aA,dx,_,1,a3,T.bN,T.fB,rM,.inl {J,_,X0.of Y},1,ta,3,Y,(by rw[aiE];exact aF o6);let ar:Z9 (Z9 H2 m (.lst ((nextT g chs).map Z8))) ta (.lst (TL.map V.ref++[.ref m])) p=some (.ins aA dx (fl ↥wd (↥C2.length-1) ta sa)):=by rwa[ak an]
 let O:Z9 (Z9 H2 m (.lst ((nextT g chs).map Z8))) ta (.lst (TL.map V.ref++[.ref m])) sa=some (.lst (SL.map V.ref)):=by rw[ak<|ajH ax,ak a6];exact D.sl
 let a2:Z9 (Z9 H2 m (.lst ((nextT g chs).map Z8))) ta (.lst (TL.map V.ref++[.ref m])) a=some (.lst L):=by rwa[ak aS,ak a0]
 exists 1,p,aA,dx,_,1,ar,T.bN,T.ef,Gp,.inl {J,_,X0.of O};refine{1,a,J,{_,X0.of a2},λD' bo=>?_};let⟨bt,bj⟩:=aR bo;let⟨q,ag⟩:=aR bt;let a4:D'≠p:=(ao ob q).symm;let aw:D'≠sa:=(ao D.sl q).symm;let bp:a≠D':=ao hA q;refine cR D' (K:=K) (a:=a) (xs:=L) (λi σ H5 ys=>∃v v':nt V,σ=[v,v']/\H5=Z9 (Z9 (Z9 H2 m<|.lst<|(nextT g chs).map Z8) ta<|.lst<|TL.map V.ref++[.ref m]) D' (.lst ys)/\ys =((chs.take i).map Prod.fst).map Z8)
  ⟨Z0,Z0,J,J,J⟩ (λi σ H5 ys _ z0=>by let⟨_,_,_,e,_⟩:=z0;exact by rw[e];exact X0.of (by rwa[ak bp])) ?_ ?_
 .rintro i x σ H5 ys hi ⟨v,v',rfl,rfl,hy⟩;let c4:=bc hi;let⟨t,r,rfl,l,B⟩:=R.get i x hi;let bl:Z9 (Z9 (Z9 H2 m (.lst ((nextT g chs).map Z8))) ta (.lst (TL.map V.ref++[.ref m]))) D' (.lst ys) t=some (.tup [.int r.1,.int r.2]):=by rwa[ak<|ao B q,ak<|bU B D.tl nofun,ak<|ao B C]
  exists t,1,X3.of bl,J,_,1,3,1,af,(by rw[hy];exact aF (by simp;omega));exact{_,1,by rw[dQ],by rw[hy,aiZ,l];simp}
 rintro σ H5 ys ⟨v,v',rfl,rfl,hy⟩;rw[show chs.take L.length=chs by rw[R.len,ai7]] at hy;subst hy;let a9:Z9 (Z9 (Z9 H2 m (.lst ((nextT g chs).map Z8))) ta (.lst (TL.map V.ref++[.ref m]))) D' (.lst ((chs.map Prod.fst).map Z8)) sa=some (.lst (SL.map V.ref)):=by rwa[ak<|ajH aw]
 exists sa,3,a9,(by rw[aiE];exact aF o6);let ae:Z9 (Z9 (Z9 (Z9 H2 m (.lst ((nextT g chs).map Z8))) ta (.lst (TL.map V.ref++[.ref m]))) D' (.lst ((chs.map Prod.fst).map Z8))) sa (.lst (SL.map V.ref++[.ref D'])) p=some (.ins aA dx (fl ↥wd (↥C2.length-1) ta sa)):=by rwa[ak as,ak<|ajH a4]
 exists 1,p,aA,dx,_,1,ae,T.bN,T.dI,pe,3,1,p,aA,dx,1,ae,T.bN,T.dI,(by show 4<1000;decide);rw[YA];exists 1,p,aA,dx,_,1,af,T.bN,T.dI,pe;let el:↥C2.length-1+1 =↥C2.length:=by omega
 let fm:=D.fresh C;let fD:=D.fresh q;let z:=q0 am m D' (Z9 (Z9 (Z9 (Z9 (Z9 H2 m<|.lst<|(nextT g chs).map Z8) ta<|.lst<|TL.map V.ref++[.ref m]) D'<|.lst<|(chs.map Prod.fst).map Z8) sa<|.lst<|SL.map V.ref++[.ref D']) p<|.ins aA dx<|fl ↥wd (↥C2.length-1+1) ta sa) g u ?_ C q ?_
 .exact(congrArg (λn:Int=>Q (V.int n) _) el).mpr z
 .let a7:∀b o,b∈TL++SL->H2 b=some o->Z9 (Z9 (Z9 (Z9 (Z9 H2 m<|.lst<|(nextT g chs).map Z8) ta<|.lst<|TL.map V.ref++[.ref m]) D'<|.lst<|(chs.map Prod.fst).map Z8) sa<|.lst<|SL.map V.ref++[.ref D']) p (.ins aA dx<|fl ↥wd (↥C2.length-1+1) ta sa) b=some o:=λb o y e=>by
   let b1:b≠p:=by rintro rfl;rcases aiX.mp y with z|z;exact bu z;exact bv z
   let b2:b≠ta:=by rintro rfl;rcases aiX.mp y with z|z;exact ba z;exact bg z
   let b3:b≠sa:=by rintro rfl;rcases aiX.mp y with z|z;exact bi z;exact bb z
   rwa[ak b1,ak b3,ak<|ao e q,ak b2,ak<|ao e C]
  refine{{dx,?_},?_,?_,(D.tls.mono λa ha o e=>a7 a o (ajZ _ ha) e).snoc ?_,(D.sls.mono λa ha o e=>a7 a o (ajh _ ha) e).snoc ?_,?_,o8,by simp[al],λt B=>?_,D.w1,D.w2}
  .rw[af];congr 2;simp
  .simp[Z9,Ne.symm an,ax,Ne.symm bj]
  .simp[Z9,Ne.symm as]
  .simp[Z9,Ne.symm a5,Ne.symm a6,Ne.symm ag,Ne.symm ac]
  .simp[Z9,a4,aw]
  .exact Ej D.nd fm fD (ajH ag)
  .rcases aiX.mp B with h|h
   .exact D.wds t h
   .let:t=nextT g chs:=⇑h
    rw[this,yx,a8]
 .intro b o e y;let n1:b≠p:=λz=>y (by simp[foot,z])
  let n2:b≠ta:=λz=>y (by simp[foot,z])
  let n3:b≠sa:=λz=>y (by simp[foot,z])
  rwa[ak n1,ak n3,ak<|ao e q,ak n2,ak<|ao e C]
include T bQ in
theorem wO{f:jl}{fd:q9}(F:Fun K "written" "Days.written" jW f fd):⋯ 4 f fd ["self","one","other"] (pR aA):=by
 refine F.okY jE ?_;rintro vs H Q E ⟨p,ta,sa,TL,SL,wd,C2,C3,one,other,rfl,D,l,a0,q0,q1⟩;refine⟨J,λa2 A outer s m=>⟨_,(ai (aY<|bM (pv 0) T.bN bQ az (m.mono o7)<|aa (pv 1) ah)
   (ai (aY<|bM (pv 0) T.bN bQ az (m.mono o7)<|aa (pv 2) ah)
   (ai (psS 3 jE.nd<|bI ah)
   (ai (cO ajc J (rL J T.eN<|aa (aB bf (aL (qK J) o9 T.zA akQ<|aa (pv 1)<|aa (pv 2) ah) au)<|aa (aB bf (aL (m9 J) o9 T.wD akt<|aa (pv 1)<|aa (pv 2) ah) au) ah) (pgN 4 jE.nd)
   (aq<|aY<|cK ai4 alb alc rm (pv 3)<|aa (aQ aT (aZ (pv 0) J) (pv 4) λ_ _=>rfl) ah))
   (aq<|aJ<|QF J o9 T.Hi o9 T.agC<|pv 3))))),?_⟩⟩
 dsimp only[aX];let⟨dx,L⟩:=D.ob;let a1:=D.lens;refine{1,p,dx,1,L,lG o4 o4 o4 o4,1,p,ta,sa,TL,SL,wd,C2,C3,one,J,D,λho=>?_,λy=>q1 one<|.inl ⟨y,J⟩};refine{1,p,dx,1,L,lG o4 o4 o4 o4,1,p,ta,sa,TL,SL,wd,C2,C3,other,J,D,λht=>?_,λy=>q1 other<|.inr ⟨ho,y,J⟩};refine{ajb _,λpl q=>?_};let e1:(if other<one then other else one)=min one other:=by split <;> omega
 let e2:(if other>one then other else one)=max one other:=by split <;> omega
 exists 2,one,other,J,3,2,one,other,J,3,min one other+1,max one other+1,by rw[e1,e2],⟨o6,o6,o6,o6⟩;refine fL (lo:=min one other+1) (n:=((max one other+1) -(min one other+1)).toNat) (λi σ H2=>∃(C:nt V)(ns:fy Z4),σ=[t8 p,t9 one,t9 other,t8 pl,C]/\aj H H2/\H2 pl=some (.lst<|ns.map Z8)/\ns.length≤300*i/\(∀k,k∈ns↔iF C3 (min one other) (min one other+i) k)/\∀ x∈ns,0≤x/\x <↥wd) {Z0,[],J,aj.new q,af,o8,λk=>{λh=>by simp at h,λ⟨d,xs,h1,h2,_⟩=>by omega},λx h=>by simp at h} ?_ ?_
 .rintro i σ H2 hi ⟨C,ns,rfl,s2,a,S,c,j⟩;let D2:=D.same s2;obtain⟨d,hd⟩:∃d:Z5,min one other+1 +↥i =↥d:={(min one other+1 +↥i).toNat,o6};let u:d<C3.length:=by omega
  let g:C3[d]?=some C3[d]:=aiG u;let⟨xa,Y,_,B⟩:=D2.sls.at_ g;let v:=l.day C3[d] (ajF u);exists 1,.inl {J,_,X0.of a},1,p,aA,dx,_,1,s2 _ _ L,T.bN,T.ef,Gp,1,sa,_,_,V.ref xa,J,J,X0.of D2.sl,?_
  .rw[hd];exact bx (by rw[aiR,Y];rfl)
  exists pl,xa,3,a,B,(by rw[aiE,aiE];exact QC o6);refine{_,ns++C3[d],J,λb o e=>by rw[ak<|ao e q];exact s2 b o e,by rw[af,aja],by rw[ajj];omega,λk=>?_,λx hx=>?_}
  .rw[aiX,c k];constructor
   .rintro(⟨d',xs,h1,h2,h3,h4⟩|h)
    .exact⟨d',xs,h1,o6,h3,h4⟩
    .exact{d,_,o6,o6,g,h}
   .rintro⟨d',xs,h1,h2,h3,h4⟩;by_cases z:d'=d
    .subst z;rw[g] at h3;cases h3;exact .inr h4
    .exact .inl ⟨d',xs,h1,o6,h3,h4⟩
  .rcases aiX.mp hx with h|h
   .exact j x h
   .exact v.2 x h
 .rintro σ H2 ⟨C,ns,rfl,s2,a,S,c,j⟩;refine{1,pl,ns,J,X0.of a,ae6 l.most j,λr O m U t=>q0 ho ht r O _ af (s2.free m) U (λk=>(t k).trans<|(c k).trans ?_)<|s2.trans<|aj.new m};rw[show min one other +((((max one other+1) -(min one other+1)).toNat:Z5):Z4)=max one other by omega]
variable(lK:Dg "Whole" aG 4 ["self","day","rows","check"] [Value.none] (mF aG aG))
variable(i9:dM aA "table" 4 ["self","day"] (uI aA))
include T lK i9 in
theorem BX{f:jl}{fd:q9}(F:Fun K "whole_of" "whole_of" qv f fd):⋯ 6 f fd ["days","day"] (qw aA aG aG):=by
 refine F.okY Bp ?_;rintro vs H Q E ⟨p,wd,C2,C3,day,rfl,v,q1,C⟩;refine{J,λL A outer s y=>{_,(aq<|aJ<|GR (dvs:=[V.non]) lK (Paired.cons J Paired.nil) az (y.mono o7) J<|aa (pv 1)<|aa (BJ J J T.zP J T.gC<|bM (pv 0) T.bN i9 az (y.mono o7)<|aa (pv 1) ah) ah),?_}};dsimp only[aX];let upK:∀{l:Hp}{x dx:jl}{o:HO},l x=Z0->l dx=Z0->∀t o',l t=some o'->Z9 (Z9 l dx (.own x)) x o t=some o':=λg j t o' e=>by rwa[ak<|ao e g,ak<|ao e j]
 let⟨ta,sa,TL,SL,D⟩:=v.D;let⟨dx,B⟩:=D.ob;refine{2,p,dx,1,B,lG o4 o4 o4 o4,1,p,ta,sa,TL,SL,wd,C2,C3,day,J,D,λi t a c hn=>?_,λh=>C h};obtain⟨d,rfl⟩:∃d:Z5,day =↥d:={day.toNat,by let:=i.1;omega};let b:=v.T a<|aiQ c;let s1:aj H (Z9 H t (.lst (a.map Z8))):=aj.new hn;refine{t,1,X0.of af,λr ts H2 z s2 q u m=>?_};let R:=enum_rows m q b.2;let n:=s1.trans s2;refine λx dx g j U=>{x,dx,r,d,_,jx a,.non,1,af,.inl<|upK g j _ _ u,R.mono λt xs e=>upK g j t _ e,by rw[qM,b.1];let:=D.w2;omega,.inl ⟨J,J⟩,λO S k5=>{J,?_}}
 exact q1 i x a O c S<|n.trans<|eG g j k5
variable(gy:bh "ask_many" 3 ["many"] xQ)
include T gy in
theorem uY{f:jl}{fd:q9}(F:Fun K "__init__" "Task.__init__" jg f fd):⋯ 4 f fd ["self","sizes","weights","rates"] (sr aI):=by
 refine F.okY ur ?_;rintro vs H Q E ⟨p,dx,sa,wa,ra,SL,C1,C0,C7,rfl,hp,n1,n7,nw,nr,n,R,Y,a2,q⟩;refine⟨J,λa8 A outer s hr=>⟨_,(ai (aY<|pcS gy az hr<|aa (aL aK o9 T.bE aiT<|aa (pv 1) ah) ah)
   (ai (bV (pv 0) (bF d7 o9 T.jO ajQ<|aa (dg (N:=["of_day"]) (k:=1) (cap:=[]) J J (cg<|pv 1) (λ_ _ _ _=>(pgN 0 (show(["of_day"]:fy Z6).Nodup from by decide +kernel)<|.inr J)) (λ_ _ _ _=>cj) λ_ _ _ _=>(bF (xP (K:=K) J) o9 T.jO ajQ<|aa (pv 0) ah)) ah) J)
   (ai (bV (pv 0) (bF d7 o9 T.jO ajQ<|aa (pv 2) ah) J)
   (aq<|bV (pv 0) (bF d7 o9 T.jO ajQ<|aa (pv 3) ah) J)))),?_⟩⟩
 dsimp only[aX];let Rl:=R.len;exists 1,sa,1,.inl<|X0.of n,1,(by rw[aiE];omega),(by rw[aiE];omega);refine{1,sa,J,{_,X0.of n},λD hD=>?_};refine cR D (K:=K) (a:=sa) (xs:=SL.map V.ref) (λi σ H2 ys=>∃(v:nt V)(TL:fy jl),σ=[v]/\aj H H2/\H2 D=some (.lst ys)/\ys=TL.map V.ref/\je H2 TL (C1.take i)) {Z0,[],J,aj.new hD,af,J,{J,λi a xs e=>by simp at e}} (λi σ H2 ys _ z0=>by let⟨_,_,_,s2,_⟩:=z0;exact X0.of<|s2 sa _ n) ?_ ?_
 .rintro i x σ H2 ys hi ⟨v,TL,rfl,s2,j,rfl,RT⟩;rw[aiR] at hi;let⟨a,ea,rfl⟩:=ai9.mp hi;let a9:i<SL.length:=(aiH.mp ea).1;let ex:C1[i]?=some C1[i]:=aiG o6;let ha:=s2 _ _<|R.get i a _ ea ex;let a5:=RT.len;rw[aiU] at a5;refine{1,a,1,.inl {X0.of ha,λt ht=>?_}};let a0:D≠t:=ao j ht;exists by rwa[ak a0],(by rw[aiE];exact aF o6),_,TL++[t],J,λb o e=>?_,af,o8
  .rw[ak<|ao e hD];exact aj.new ht b _<|s2 b _ e
  .rw[aiZ,ex];refine(RT.keep λb xs e=>?_).snoc ?_
   .rw[ak<|bU e j nofun];exact aj.new ht b _ e
   .rw[ak a0.symm,af]
 rintro σ H2 ys ⟨v,TL,rfl,s2,j,rfl,RT⟩;rw[aiE,Rl,ai7] at RT;refine{D,1,.inl {X0.of j,λc C=>?_}};let u:=s2 p _ hp;exists 1,p,aI,dx,1,aj.new C p _ u,T.dc,T.c5,(by show 0<1000;decide);let k3:aW [p] H2 (Z9 (Z9 H2 c (.tup (TL.map V.ref))) p (.ins aI dx (bq "sizes" (V.ref c) []))):=cZ (aW.of_same<|aj.new C)<|.inl o8;let m:Z9 (Z9 H2 c (.tup (TL.map V.ref))) p (.ins aI dx (bq "sizes" (V.ref c) [])) p=some (.ins aI dx [("sizes",V.ref c)]):=af;let O:Z9 (Z9 H2 c (.tup (TL.map V.ref))) p (.ins aI dx (bq "sizes" (V.ref c) [])) c=some (.tup (TL.map V.ref)):=by rw[ak (ao u C).symm,af]
 generalize Z9 (Z9 H2 c (.tup (TL.map V.ref))) p (.ins aI dx (bq "sizes" (V.ref c) []))=B at k3 m O;let a3:wa∉[p]:=by let:=bU Y hp nofun;simpa using this
 let L:ra∉[p]:=by let:=bU a2 hp nofun;simpa using this
 let a7:=k3 wa _ (s2 wa _ Y) a3;let a6:=k3 ra _ (s2 ra _ a2) L;let R3:je B TL C1:=RT.keep λt xs e=>k3 t _ e (by let:=bU e u nofun;simpa using this)
 refine{1,wa,1,.inl {X0.of a7,λg r=>?_}};exists 1,p,aI,dx,1,aj.new r p _ m,T.dc,T.eO,(by show 1<1000;decide);rw[aco];let k4:aW [p] B (Z9 (Z9 B g (.tup (C0.map Z8))) p (.ins aI dx [("sizes",V.ref c),("weights",V.ref g)])):=cZ (aW.of_same<|aj.new r)<|.inl o8;let l:Z9 (Z9 B g (.tup (C0.map Z8))) p (.ins aI dx [("sizes",V.ref c),("weights",V.ref g)]) p=some (.ins aI dx [("sizes",V.ref c),("weights",V.ref g)]):=af;let S:Z9 (Z9 B g (.tup (C0.map Z8))) p (.ins aI dx [("sizes",V.ref c),("weights",V.ref g)]) g=some (.tup (C0.map Z8)):=by rw[ak (ao m r).symm,af]
 generalize Z9 (Z9 B g (.tup (C0.map Z8))) p (.ins aI dx [("sizes",V.ref c),("weights",V.ref g)])=H4 at k4 l S;let a4:=k4 ra _ a6 L;refine{1,ra,1,.inl {X0.of a4,λU h=>?_}};exists 1,p,aI,dx,1,aj.new h p _ l,T.dc,T.eY,(by show 2<1000;decide);rw[aa1];let k5:aW [p] H4 (Z9 (Z9 H4 U (.tup (C7.map Z8))) p (.ins aI dx (tfs c g U))):=cZ (aW.of_same<|aj.new h)<|.inl o8;let a1:∀t xs,B t=some (.tup xs)->H4 t=some (.tup xs):=λt xs e=>k4 t _ e (by let:=bU e m nofun;simpa using this)
 let y:∀t xs,H4 t=some (.tup xs)->Z9 (Z9 H4 U (.tup (C7.map Z8))) p (.ins aI dx (tfs c g U)) t=some (.tup xs):=λt xs e=>k5 t _ e (by let:=bU e l nofun;simpa using this)
 refine q _ {dx,c,g,U,TL,af,y _ _<|a1 _ _ O,R3.keep λt xs e=>y _ _<|a1 _ _ e,y _ _ S,?_} λb o e hb=>k5 b o (k4 b o (k3 b o (s2 b o e) hb) hb) hb
 rw[ak (ao l h).symm,af]
include T in
theorem BD{f:jl}{fd:q9}(F:Fun K "ask_many" "ask_many" pF f fd):⋯ 3 f fd ["many"] (xQ):=by refine F.okY BL ?_;rintro vs H Q E ⟨n,rfl,h1,h2,q⟩;refine{J,λa A outer s b=>{_,(aq<|aV (PW.pt<|pw_or (aC kh (pv 0) au<|aH _)<|pw_or1<|aC jz (pv 0) (eL (v:=.int 7) J T.ym {1})<|aH _) (aq cA) aP),?_}};exists 1,3,1;refine cS o6 ?_;exists 1,3,1;refine cS o6 ?_;exact q
include T in
theorem we{f:jl}{fd:q9}(F:Fun K "bases_behind" "bases_behind" jS f fd):⋯ 1 f fd ["choices"] (uW K):=by
 refine F.okY gJ ?_;rintro vs H Q E ⟨tu,c,ws,rfl,y,h7,q⟩;refine⟨J,λY A outer s U=>⟨_,(ai (psS 1 gJ.nd<|Ct (Ai aN (pG lP au) Du) J J o7 o7)
   (ai (cO ajc J (zy (oH Z2 J T.gC<|aa (pv 0) ah)<|oH Z1 J T.gC<|aa (pv 0) ah) (mj J<|bS (pgN 2 gJ.nd)<|bS (pgN 3 gJ.nd) gD)
   (ai (aV (aC bL (pv 3) aN<|aH _) (aq<|oY (ku U) (pv 1) aN (pv 2) J) aP)
   (aq<|aV (aC qb (pv 3) aN<|aH _) (aq<|oY (ku U) (pv 1) aN (pv 2) J) aP)))
   (aq<|aJ<|pv 1))),?_⟩⟩
 dsimp only[aX];refine λd p=>{1,af,[(Sum.inr wW,V.int (-1))],J,o7,?_}
 let s1:aj H (Z9 (Z9 H d (.dK [])) d (.dK (gA [] [(Sum.inr wW,V.int (-1))]))):=by rw[dQ];exact aj.new p
 let h1:Z9 (Z9 H d (.dK [])) d (.dK (gA [] [(Sum.inr wW,V.int (-1))])) d=some (.dK (putK [] (Sum.inr wW) (V.int (-1)))):=af;generalize Z9 (Z9 H d (.dK [])) d (.dK (gA [] [(Sum.inr wW,V.int (-1))]))=H1 at s1 h1;cases tu
 .refine .inl {1,c,J,{_,y.same s1},uC (K:=K) (tu:=Z2) (l:=c) (xs:=ws.map V.str) (λi σ H2=>∃(n t:nt V)(C4:fy (Key×V)),σ=[t8 c,t8 d,n,t]/\aj H H2/\H2 d=some (.dK C4)/\C4.length≤1+2*i/\cy C4 (ws.take i)) {Z0,Z0,1,s1,h1,ak2 J,cy.first} (λ i σ H2 ⟨_,_,_,_,s2,_⟩=>y.same s2) ?_ ?_}
  .rintro i x σ H2 m hi ⟨n,t,C4,rfl,s2,h2,C,B⟩ z;let⟨w,v,rfl⟩:=mq hi;let S:i<ws.length:=(aiH.mp v).1;let j:ws.take (i+1)=ws.take i++[w]:=by rw[aiZ,v];rfl
   let a:((ws.take i).length:Z4) =↥i:=by rw[aiU];omega
   exists m,1,X3.of af,J,_,1,3;let s3:aj H2 (Z9 H2 m (.tup [V.int ↥i,V.str w])):=aj.new z;generalize Z9 H2 m (.tup [V.int ↥i,V.str w])=H3 at s3;let h3:=s3 d _ h2;let g:=s2.trans s3;exists 1,J,1;by_cases r:w=wW
   .subst r;refine dZ J ?_;exists 2,d,1,jP.k (k:=Sum.inr wS) h3<|aF o6;exists 1,J,1;refine sJ o4 ?_;let O:=cU C4 (Sum.inr wS)<|V.int ↥i;exists 2,d,1,jP.k (k:=Sum.inr wL) af<|aF o6;let L:=cU (putK C4 (Sum.inr wS)<|V.int ↥i) (Sum.inr wL)<|V.int ↥i;exists _,_,1,λb o e=>?_,af,o6
    .rw[dQ,ak<|ao e p];exact g b o e
    .let:=B.whole;rw[a] at this;rwa[j]
   .refine cS (λh=>r<|V.str.inj h) ?_;exists 1,J,1;by_cases u:w=wN
    .subst u;refine zB J ?_;exact{_,_,C4,J,g,h3,o6,by rw[j];exact B.non}
    .refine sJ (λh=>u<|V.str.inj h) ?_;let O:=cU C4 (Sum.inr wL)<|V.int ↥i;exists 2,d,1,jP.k (k:=Sum.inr wL) h3<|aF o6;exists _,_,1,λb o e=>?_,af,o6
     .rw[ak<|ao e p];exact g b o e
     .let:=B.other r u;rw[a] at this;rwa[j]
  .rintro σ H2 ⟨n,t,C4,rfl,s2,h2,C,B⟩;rw[aiE,ai7] at B;exact{1,q d C4 H2 h2 p B s2}
 .refine .inr {1,c,J,{_,y.same s1},uC (K:=K) (tu:=Z1) (l:=c) (xs:=ws.map V.str) (λi σ H2=>∃(n t:nt V)(C4:fy (Key×V)),σ=[t8 c,t8 d,n,t]/\aj H H2/\H2 d=some (.dK C4)/\C4.length≤1+2*i/\cy C4 (ws.take i)) {Z0,Z0,1,s1,h1,ak2 J,cy.first} (λ i σ H2 ⟨_,_,_,_,s2,_⟩=>y.same s2) ?_ ?_}
  .rintro i x σ H2 m hi ⟨n,t,C4,rfl,s2,h2,C,B⟩ z;let⟨w,v,rfl⟩:=mq hi;let S:i<ws.length:=(aiH.mp v).1;let j:ws.take (i+1)=ws.take i++[w]:=by rw[aiZ,v];rfl
   let a:((ws.take i).length:Z4) =↥i:=by rw[aiU];omega
   exists m,1,X3.of af,J,_,1,3;let s3:aj H2 (Z9 H2 m (.tup [V.int ↥i,V.str w])):=aj.new z;generalize Z9 H2 m (.tup [V.int ↥i,V.str w])=H3 at s3;let h3:=s3 d _ h2;let g:=s2.trans s3;exists 1,J,1;by_cases r:w=wW
   .subst r;refine dZ J ?_;exists 2,d,1,jP.k (k:=Sum.inr wS) h3<|aF o6;exists 1,J,1;refine sJ o4 ?_;let O:=cU C4 (Sum.inr wS)<|V.int ↥i;exists 2,d,1,jP.k (k:=Sum.inr wL) af<|aF o6;let L:=cU (putK C4 (Sum.inr wS)<|V.int ↥i) (Sum.inr wL)<|V.int ↥i;exists _,_,1,λb o e=>?_,af,o6
    .rw[dQ,ak<|ao e p];exact g b o e
    .let:=B.whole;rw[a] at this;rwa[j]
   .refine cS (λh=>r<|V.str.inj h) ?_;exists 1,J,1;by_cases u:w=wN
    .subst u;refine zB J ?_;exact{_,_,C4,J,g,h3,o6,by rw[j];exact B.non}
    .refine sJ (λh=>u<|V.str.inj h) ?_;let O:=cU C4 (Sum.inr wL)<|V.int ↥i;exists 2,d,1,jP.k (k:=Sum.inr wL) h3<|aF o6;exists _,_,1,λb o e=>?_,af,o6
     .rw[ak<|ao e p];exact g b o e
     .let:=B.other r u;rw[a] at this;rwa[j]
  .rintro σ H2 ⟨n,t,C4,rfl,s2,h2,C,B⟩;rw[aiE,ai7] at B;exact{1,q d C4 H2 h2 p B s2}
variable(dF:bh "bases_behind" 1 ["choices"] (uW K))
include T dF in
theorem Ea{f:jl}{fd:q9}(F:Fun K "allowed" "allowed" rz f fd):⋯ 2 f fd ["task","choices"] (pH K aI):=by
 refine F.okY lB ?_;rintro vs H Q E ⟨p,c,tu,C1,C0,C7,ws,rfl,hT,hc,a2,a1,h7,q⟩;refine⟨J,λa4 A outer s hr=>⟨_,(ai (psS 2 lB.nd<|aL aK o9 T.bE aiT<|aa (pv 1) ah)
   (ai (aV (aC wo (pv 2) (aL aK o9 T.bE aiT<|aa (aZ (pv 0) J) ah)<|aH _) (aq<|aJ<|bI ah) aP)
   (ai (rQ (i:=3) lB.nd J (Or.inr J)<|pcS dF az hr<|aa (pv 1) ah)
   (ai (psS 4 lB.nd<|uQ (aC bL (aQ bX (aZ (pv 0) J) (pv 2) λ_ _=>rfl) au<|aH _) (bI<|aa aN ah)<|bI ah)
   (aq<|aJ<|aB oA (pv 4)<|dg (N:=["word","bases"]) (k:=1) (cap:=[3]) J J (wg<|eW<|aa aN<|aa aN<|aa aN ah) (λ_ _ _ _=>(pgN 0 (show(["word","bases"]:fy Z6).Nodup from by decide +kernel)<|.inr J)) (λ_ _ _ _=>(Qo<|acd<|abk (ku hr) (pv 0)<|pv 1)) λ_ _ _ _=>(pv 0)))))),?_⟩⟩
 dsimp only[aX];let⟨dx,t1,t2,C,TL,g1,g2,g3,g4,g5⟩:=id hT;let a3:=g3.len;exists 1,c,1,hc.len;exists 2,p,aI,dx,_,1,g1,T.dc,T.c5,j4,t1,1,.inr<|X3.of g2,3,1;by_cases hd:ws.length=C0.length
 .refine dZ (by simp only[List.length_map];omega) ?_;exact{ajb _,λl t=>q l _ (by rw[af];unfold bP;rw[ajv o6];rfl) t<|aj.new t}
 refine cS (by simp only[List.length_map];omega) ?_;obtain⟨wt,Y⟩:∃wt,C0[ws.length]?=some wt:={_,aiG o6};refine{1,tu,c,ws,J,hc,o6,λd C4 H1 S a5 B s1=>?_};exists 1,p,aI,dx,_,1,s1 _ _ g1,T.dc,T.eO,pS,1,t2,_,_,V.int wt,J,J,X3.of<|s1 _ _ g4,(by rw[aiE];exact bx (by rw[aiR,Y];rfl)),J,1;let en:bP C0 ws=cF wt ws:=by unfold bP;rw[Y]
 rw[en] at q;by_cases h0:wt=0
 .refine dZ (by rw[h0]) ?_;refine{v8,λm hm=>?_};let s2:aj H1 (Z9 H1 m (.lst [V.str wN])):=aj.new hm;let O:Z9 H1 m (.lst [V.str wN]) m=some (.lst ([wN].map V.str)):=af;generalize Z9 H1 m (.lst [V.str wN])=H2 at s2 O;refine{1,E1,λtt z=>{tt,J,{_,X3.of af},λD y=>?_}};let s3:aj H2 (Z9 H2 tt (.tup [V.str wW,V.str wS,V.str wL])):=aj.new z;let C:Z9 H2 tt (.tup [V.str wW,V.str wS,V.str wL]) tt=some (.tup (([wW,wS,wL]:fy Z6).map V.str)):=af;generalize Z9 H2 tt (.tup [V.str wW,V.str wS,V.str wL])=H3 at s3 C y;refine pq D (K:=K) (a:=tt) (xs:=([wW,wS,wL]:fy Z6).map V.str) (λi σ H5 ys=>∃(v:nt V),σ=[v,t8 d]/\aj H3 H5/\H5 D=some (.lst ys)/\ys =((([wW,wS,wL]:fy Z6).take i).filter λw=>(bD C4<|Sum.inr w).isSome).map V.str) {Z0,J,aj.new y,af,J} (λi σ H5 ys _ z0=>by let⟨_,_,s5,_⟩:=z0;exact X3.of<|s5 tt _ C) ?_ ?_
  .rintro i x σ H5 ys hi ⟨v,rfl,s5,g,j⟩;let⟨w,U,rfl⟩:=mq hi;let a0:((([wW,wS,wL]:fy Z6).take i).filter λw=>(bD C4 (Sum.inr w)).isSome).length≤3:=ai8 (amV _ _) (by rw[aiU];simp;omega);let d5:=s5 d _<|s3 d _<|s2 d _ S;cases r:bD C4 (Sum.inr w) with
   |none=>exists 2,d,Z0,J,r ▸ gH.k (k:=Sum.inr w) d5,1;refine gb ?_;exists 1,s5,g;rw[j,aiZ,U,ald];simp[r]
   |some u=>
    exists 2,d,some u,J,r ▸ gH.k (k:=Sum.inr w) d5,1;refine fQ ?_;exists 1,g,(by rw[j,aiE];exact aF o6),1,λb o e=>?_,af
    .rw[ak<|ao e y];exact s5 b _ e
    .rw[j,aiZ,U,ald];simp[r]
  rintro σ H5 ys ⟨v,rfl,s5,g,j⟩;rw[show(([wW,wS,wL]:fy Z6).map V.str).length=3 from J,show([wW,wS,wL]:fy Z6).take 3=[wW,wS,wL] from J,B.filter] at j;subst j;let m5:=s5 m _<|s3 m _ O;let big:∀{n:Z5},n≤900->n≤Z7:=λh=>ajr<|aF o6
  refine{m,D,3,m5,g,big (by cases br isW ws <;> cases br isK ws <;> simp),λl t=>?_};let L:aj H H5:=s1.trans<|s2.trans<|s3.trans s5;refine q l _ ?_ (L.free t)<|L.trans<|aj.new t;rw[af,←aja];unfold cF;rw[aiN h0];rfl
 .refine cS (λh=>h0<|V.int.inj h) ?_;refine{ajb _,λm hm=>?_};let s2:aj H1 (Z9 H1 m (.lst [])):=aj.new hm;let O:Z9 H1 m (.lst []) m=some (.lst (([]:fy Z6).map V.str)):=af;generalize Z9 H1 m (.lst [])=H2 at s2 O;refine{1,E1,λtt z=>{tt,J,{_,X3.of af},λD y=>?_}};let s3:aj H2 (Z9 H2 tt (.tup [V.str wW,V.str wS,V.str wL])):=aj.new z;let C:Z9 H2 tt (.tup [V.str wW,V.str wS,V.str wL]) tt=some (.tup (([wW,wS,wL]:fy Z6).map V.str)):=af;generalize Z9 H2 tt (.tup [V.str wW,V.str wS,V.str wL])=H3 at s3 C y;refine pq D (K:=K) (a:=tt) (xs:=([wW,wS,wL]:fy Z6).map V.str) (λi σ H5 ys=>∃(v:nt V),σ=[v,t8 d]/\aj H3 H5/\H5 D=some (.lst ys)/\ys =((([wW,wS,wL]:fy Z6).take i).filter λw=>(bD C4<|Sum.inr w).isSome).map V.str) {Z0,J,aj.new y,af,J} (λi σ H5 ys _ z0=>by let⟨_,_,s5,_⟩:=z0;exact X3.of<|s5 tt _ C) ?_ ?_
  .rintro i x σ H5 ys hi ⟨v,rfl,s5,g,j⟩;let⟨w,U,rfl⟩:=mq hi;let a0:((([wW,wS,wL]:fy Z6).take i).filter λw=>(bD C4 (Sum.inr w)).isSome).length≤3:=ai8 (amV _ _) (by rw[aiU];simp;omega);let d5:=s5 d _<|s3 d _<|s2 d _ S;cases r:bD C4 (Sum.inr w) with
   |none=>exists 2,d,Z0,J,r ▸ gH.k (k:=Sum.inr w) d5,1;refine gb ?_;exists 1,s5,g;rw[j,aiZ,U,ald];simp[r]
   |some u=>
    exists 2,d,some u,J,r ▸ gH.k (k:=Sum.inr w) d5,1;refine fQ ?_;exists 1,g,(by rw[j,aiE];exact aF o6),1,λb o e=>?_,af
    .rw[ak<|ao e y];exact s5 b _ e
    .rw[j,aiZ,U,ald];simp[r]
  rintro σ H5 ys ⟨v,rfl,s5,g,j⟩;rw[show(([wW,wS,wL]:fy Z6).map V.str).length=3 from J,show([wW,wS,wL]:fy Z6).take 3=[wW,wS,wL] from J,B.filter] at j;subst j;let m5:=s5 m _<|s3 m _ O;let big:∀{n:Z5},n≤900->n≤Z7:=λh=>ajr<|aF o6
  refine{m,D,3,m5,g,big (by cases br isW ws <;> cases br isK ws <;> simp),λl t=>?_};let L:aj H H5:=s1.trans<|s2.trans<|s3.trans s5;refine q l _ ?_ (L.free t)<|L.trans<|aj.new t;rw[af,←aja];unfold cF;rw[aiL h0];rfl
include T in
theorem BO{f:jl}{fd:q9}(F:Fun K "leg_cost" "leg_cost" pV f fd):⋯ 1 f fd ["task","size"] (xh aI):=by refine F.okY BW ?_;rintro vs H Q E ⟨p,C1,C0,r0,r1,r2,r3,size,rfl,g,F,q⟩;refine{J,λh A outer s n=>{_,(aq<|aJ<|aB bf (aQ bX (aZ (pv 0) J) au λ_ _=>rfl)<|aB fh (aQ bX (aZ (pv 0) J) au λ_ _=>rfl)<|pv 1),?_}};dsimp only[aX];let⟨dx,i,o,c,TL,a,l,j,m,e⟩:=id g;let b:=F.b3 r3 o8;exact{1,p,aI,dx,_,1,a,T.dc,T.eY,ql,c,_,_,V.int r2,J,J,X3.of e,J,1,p,aI,dx,_,1,a,T.dc,T.eY,ql,c,_,_,V.int r3,J,J,X3.of e,J,1,3,.inl ⟨o6,o6⟩,3,q}
include T in
theorem BE{f:jl}{fd:q9}(F:Fun K "day_cost" "day_cost" qx f fd):⋯ 1 f fd ["task","day","size","way"] (xw aI):=by
 refine F.okY tV ?_;rintro vs H Q E ⟨p,C1,C0,r0,r1,r2,r3,size,way,d,rfl,j,F,z,x,v,q⟩;refine⟨J,λr A outer s u=>⟨_,(ai (psS 4 tV.nd<|aB lR (aL aK o9 T.bE aiT<|aa (aZ (pv 0) J) ah)<|pv 1)
   (aq<|aJ<|aB bf (aB fh (aB bf (aQ bX (aZ (pv 0) J) au λ_ _=>rfl)<|aB fh (aQ bX (aZ (pv 0) J) au λ_ _=>rfl)<|pv 4)<|pv 2)<|aB fh (aQ bX (aZ (pv 0) J) (pv 1) λ_ _=>rfl)<|pv 3)),?_⟩⟩
 dsimp only[aX];let⟨dx,i,o,g,TL,a,m,l,n,e⟩:=id j;let b:=F.b3 r1 o8;let c:=l.len;let y:=F.nw;let h:C0[d]?=some (C0.getD d 0):=by rw[ai0,aiG (show d<C0.length by omega)];rfl
 let t:=F.b2 _<|aiQ h;exists 1,p,aI,dx,_,1,a,T.dc,T.c5,j4,i,1,.inr<|X3.of m,1,3;rw[aiE,c];exact{1,p,aI,dx,_,1,a,T.dc,T.eY,ql,g,_,_,V.int r0,J,J,X3.of e,J,1,p,aI,dx,_,1,a,T.dc,T.eY,ql,g,_,_,V.int r1,J,J,X3.of e,J,1,3,.inl ⟨o6,o6⟩,3,1,3,.inr ⟨o6,o6⟩,1,p,aI,dx,_,1,a,T.dc,T.eO,pS,1,o,_,_,V.int<|C0.getD d 0,J,J,X3.of n,bx (by rw[aiR,h];rfl),1,3,.inl ⟨o6,o6⟩,3,q}
include T dF in
theorem BA{f:jl}{fd:q9}(F:Fun K "bases_of" "bases_of" pZ f fd):⋯ 2 f fd ["choices"] (Ag K):=by
 refine F.okY BR ?_;rintro vs H Q E ⟨tu,c,ws,rfl,L,hV,h7,q⟩;refine{J,λa0 A outer s hr=>{_,(aq<|aJ<|dg (N:=["day","word","choices"]) (k:=2) (cap:=[0]) J J (zy (oH Z2 J T.gC<|aa (pv 0) ah)<|oH Z1 J T.gC<|aa (pv 0) ah) (λ_ _ _ _=>(sM (K:=K) (n:=2) J J<|bS (pgN 0 (show(["day","word","choices"]:fy Z6).Nodup from by decide +kernel)<|.inr J)<|bS (pgN 1 (show(["day","word","choices"]:fy Z6).Nodup from by decide +kernel)<|.inr J) gD)) (λ_ _ _ _=>cj) λ_ _ _ _=>(Ip (ku hr) (pcS dF az hr<|aa (Ra (dY (Hf (K:=K) J) (pv 2) ic<|dw<|pv 0)<|dY (QM (K:=K) J) (pv 2) ic<|dw<|pv 0) ah) (pv 1) ⟨J,J,J,J⟩)),?_}};dsimp only[aX];cases tu
 .refine .inl {1,c,J,{_,L},λD u=>?_};refine yE (K:=K) (tu:=Z2) (l:=c) D (xs:=ws.map V.str) (λi σ H2 ys=>∃(C r:nt V),σ=[C,r,t8 c]/\aj H H2/\H2 D=some (.lst ys)/\ys =(List.range i).map (yh ws)) {Z0,Z0,J,aj.new u,af,J} (λ i σ H2 ys ⟨_,_,_,s2,_⟩=>L.same s2) ?_ ?_
  .rintro i x σ H2 ys p hi ⟨C,r,rfl,s2,a,j⟩ S;let⟨w,v,rfl⟩:=mq hi;let Y:i<ws.length:=(aiH.mp v).1;exists p,1,X3.of af,J,_,1,3;let s3:aj H2 (Z9 H2 p (.tup [V.int ↥i,V.str w])):=aj.new S;generalize Z9 H2 p (.tup [V.int ↥i,V.str w])=m at s3;let t:=s2.trans s3;let z:=L.same t;let cut:cT (ws.map V.str) Z0 (some ↥i) =(ws.take i).map V.str:=by unfold cT;rw[HT.g8,HT.jT,List.drop_zero,←ana,aiE,Nat.sub_zero,alL o6]
   refine .inl {2,1,c,1,z,λh y=>?_};rw[cut];let s4:aj m (Z9 m h (.lst ((ws.take i).map V.str))):=aj.new y;let h4:Z9 m h (.lst ((ws.take i).map V.str)) h=some (.lst ((ws.take i).map V.str)):=af;generalize Z9 m h (.lst ((ws.take i).map V.str))=H4 at s4 h4;refine{Z2,h,ws.take i,J,X0.of h4,(by rw[aiU];omega),λd C4 H5 O U B s5=>?_};exists d,J,.inl {_,.inl O},1,(bOf (ws.take i) w).map Z8,(B.get<|hV.four v) ▸ gH.k (k:=Sum.inr w) O;let g:aj H2 H5:=s3.trans<|s4.trans s5;exists g _ _ a,(by rw[j];exact aF (by simp;omega)),_,1,λb o e=>?_,af
   .rw[ak<|ao e u];exact g b o<|s2 b o e
   .rw[j,akF,aja,ajl,ak4,xx v]
  .rintro σ H2 ys ⟨C,r,rfl,s2,a,j⟩;rw[aiE] at j;refine q D H2 ?_ u s2;rw[a,j];rfl
 .refine .inr {1,c,J,{_,L},λD u=>?_};refine yE (K:=K) (tu:=Z1) (l:=c) D (xs:=ws.map V.str) (λi σ H2 ys=>∃(C r:nt V),σ=[C,r,t8 c]/\aj H H2/\H2 D=some (.lst ys)/\ys =(List.range i).map (yh ws)) {Z0,Z0,J,aj.new u,af,J} (λ i σ H2 ys ⟨_,_,_,s2,_⟩=>L.same s2) ?_ ?_
  .rintro i x σ H2 ys p hi ⟨C,r,rfl,s2,a,j⟩ S;let⟨w,v,rfl⟩:=mq hi;let Y:i<ws.length:=(aiH.mp v).1;exists p,1,X3.of af,J,_,1,3;let s3:aj H2 (Z9 H2 p (.tup [V.int ↥i,V.str w])):=aj.new S;generalize Z9 H2 p (.tup [V.int ↥i,V.str w])=m at s3;let t:=s2.trans s3;let z:=L.same t;let cut:cT (ws.map V.str) Z0 (some ↥i) =(ws.take i).map V.str:=by unfold cT;rw[HT.g8,HT.jT,List.drop_zero,←ana,aiE,Nat.sub_zero,alL o6]
   refine .inr {2,1,c,1,z,(by rw[aiE,HT.g8,HT.jT];omega),λh y=>?_};rw[cut];let s4:aj m (Z9 m h (.tup ((ws.take i).map V.str))):=aj.new y;let h4:Z9 m h (.tup ((ws.take i).map V.str)) h=some (.tup ((ws.take i).map V.str)):=af;generalize Z9 m h (.tup ((ws.take i).map V.str))=H4 at s4 h4;refine{Z1,h,ws.take i,J,X3.of h4,(by rw[aiU];omega),λd C4 H5 O U B s5=>?_};exists d,J,.inl {_,.inl O},1,(bOf (ws.take i) w).map Z8,(B.get<|hV.four v) ▸ gH.k (k:=Sum.inr w) O;let g:aj H2 H5:=s3.trans<|s4.trans s5;exists g _ _ a,(by rw[j];exact aF (by simp;omega)),_,1,λb o e=>?_,af
   .rw[ak<|ao e u];exact g b o<|s2 b o e
   .rw[j,akF,aja,ajl,ak4,xx v]
  .rintro σ H2 ys ⟨C,r,rfl,s2,a,j⟩;rw[aiE] at j;refine q D H2 ?_ u s2;rw[a,j];rfl
variable(lJ:bh "bases_of" 2 ["choices"] (Ag K))
variable(gn:bh "leg_cost" 1 ["task","size"] (xh aI))
variable(gj:bh "day_cost" 1 ["task","day","size","way"] (xw aI))
include T lJ gn gj in
theorem B7{f:jl}{fd:q9}(F:Fun K "costs_of" "costs_of" pB f fd):⋯ 3 f fd ["task","choices"] (uK K aI):=by
 refine F.okY gE ?_;rintro vs H Q E ⟨p,c,tu,C1,C0,r0,r1,r2,r3,ws,rfl,hT,F,hc,hV,bm,q⟩;refine⟨J,λbn A outer s hr=>⟨_,(ai (psS 2 gE.nd<|bI ah)
   (ai (psS 3 gE.nd<|Ct (Ai (pG lP au) au Du) J J o7 o7)
   (ai (cO ajc J (oH Z2 J T.gC<|aa (pcS lJ az hr<|aa (pv 1) ah) ah) (mj J<|bS (pgN 4 gE.nd)<|bS (pgN 5 gE.nd) gD)
   (aq (aV (aC oZ (pv 5) dO<|aH _) (aq<|aY<|cK ai4 aje ajf cC (pv 2)<|aa (eW<|aa dO<|aa dO<|aa au ah) ah) (ai (psS 6 gE.nd<|aQ bX (aQ bX (aZ (pv 0) J) (pv 4) λ_ _=>rfl) (aB bf (pv 5) au) λ_ _=>rfl)
   (ai (oY (ku hr) (pv 3) (pv 4) (aB bf (yk (ku hr) (pv 3) (pv 5) λ_ _=>rfl)<|pcS gn az hr<|aa (pv 0)<|aa (pv 6) ah) J)
   (aq<|aY<|cK ai4 aje ajf cC (pv 2)<|aa (eW<|aa (pv 6)<|aa (yk (ku hr) (pv 3) (pv 4) λ_ _=>rfl)<|aa (pcS gj az hr<|aa (pv 0)<|aa (pv 4)<|aa (pv 6)<|aa (yk (ku hr) (pv 3) (pv 4) λ_ _=>rfl) ah) ah) ah))))))
   (aq<|aJ<|pv 2)))),?_⟩⟩
 dsimp only[aX];let n7:=F.n7;refine{ajb _,λa a1=>?_};refine λwd ax=>{1,af,[(Sum.inl (-1),V.int 0)],J,o7,?_}
 let s1:aj H (Z9 (Z9 (Z9 H a (.lst [])) wd (.dK [])) wd (.dK (gA [] [(Sum.inl (-1),V.int 0)]))):=by rw[dQ];exact(aj.new a1).trans (aj.new ax)
 let h1:Z9 (Z9 (Z9 H a (.lst [])) wd (.dK [])) wd (.dK (gA [] [(Sum.inl (-1),V.int 0)])) wd=some (.dK (putK [] (Sum.inl (-1)) (V.int 0))):=af;let⟨al,a8⟩:=aR ax;let U:Z9 (Z9 (Z9 H a (.lst [])) wd (.dK [])) wd (.dK (gA [] [(Sum.inl (-1),V.int 0)])) a=some (.lst []):=by rw[ak a8.symm,ak a8.symm,af]
 generalize Z9 (Z9 (Z9 H a (.lst [])) wd (.dK [])) wd (.dK (gA [] [(Sum.inl (-1),V.int 0)]))=H1 at s1 h1 U;refine{1,tu,c,ws,J,hc.same s1,hV,o6,λbl H2 aw ac s2=>?_};let bd:SqB K Z2 H2 bl (pW ws):=X0.of aw;let aS:=s1.trans s2;let bj:(pW ws).length=ws.length:=by unfold pW;simp
 refine⟨bl,J,{_,bd},uC (K:=K) (tu:=Z2) (l:=bl) (xs:=pW ws) (λi σ r=>∃(v4 v5 v6:nt V)(L:fy V)(C4:fy (Key×V)),σ=[t8 p,t8 c,t8 a,t8 wd,v4,v5,v6]/\aj H r/\r bl=some (.lst<|pW ws)/\r a=some (.lst L)/\L.length=i/\i6 r L (bB C1 C0 r0 r1 r2 r3 ws)/\r wd=some (.dK C4)/\C4.length≤1+i/\bD C4 (Sum.inl (-1))=some (V.int 0)/\(∀j:Z5,j<i->Kept ws j->bD C4 (Sum.inl ↥j)=some (V.int<|cI C1 r2 r3 ws j)))
  {Z0,Z0,Z0,[],1,aS,aw,s2 _ _ U,J,⟨λi v e=>by simp at e⟩,s2 _ _ h1,ak2 J,by rw[c6,aiN rfl],λj hj=>absurd hj<|akZ _} (λ i σ r ⟨_,_,_,_,_,_,_,hb,_⟩=>X0.of hb) ?_ ?_⟩
 .rintro i x σ r T0 hi ⟨v4,v5,v6,L,C4,rfl,s3,ag,a6,C,CA,ar,bi,Y,g⟩ nT;let ae:i<ws.length:=by let:=(aiH.mp hi).1;omega
  let n:ws[i]?=some ws[i]:=aiG ae;generalize ws[i]=w at n;let hx:x=yh ws i:=by unfold pW at hi;rw[aiR,anh ae] at hi;exact(aiY hi).symm
  rw[xx n] at hx;exists T0,1,X3.of af,J,_,1,3;let s4:aj r (Z9 r T0 (.tup [V.int ↥i,x])):=aj.new nT;generalize Z9 r T0 (.tup [V.int ↥i,x])=H4 at s4;let a9:=s3.trans s4;let O:=s4 _ _ a6;let m:=s4 _ _ ar;let a2:=s4 _ _ ag;let T4:=hT.keep a9;exists 1,J,1;let a7:a≠wd:=a8.symm;by_cases e:w=wN
  .let hx:x=V.non:=by rw[hx,e,L7];rfl
   refine dZ hx ?_;refine{1,.inl {J,_,X0.of O},E1,λt ht=>?_};let a4:a≠t:=ao O ht;exists a,3,aj.new ht _ _ O,aF o6;let k6:∀b o,H4 b=some o->b≠a->Z9 (Z9 H4 t (.tup [V.non,V.non,V.int 0])) a (.lst (L++[V.ref t])) b=some o:=λb o e hb=>by rw[ak hb];exact aj.new ht _ _ e
   let kT:∀b xs,H4 b=some (.tup xs)->Z9 (Z9 H4 t (.tup [V.non,V.non,V.int 0])) a (.lst (L++[V.ref t])) b=some (.tup xs):=λb xs e=>k6 b _ e<|bU e O nofun
   refine{_,_,_,L++[V.ref t],C4,J,λb o e=>k6 b o (a9 b o e)<|ao e a1,k6 _ _ a2 (ao U ac).symm,af,by simp[C],(CA.mono λb xs e=>kT b xs<|s4 _ _ e).snoc (x:=V.non) (y:=V.non) ?_,k6 _ _ m a7.symm,o6,Y,λj hj hk=>?_}
   .rw[ak a4.symm,af,C];unfold bB;rw[aiN (by rw[n,e])]
   .by_cases a5:j=i
    .subst a5;let⟨y,ey,hy⟩:=hk;rw[n] at ey;cases ey;exact absurd e hy
    .exact g j o6 hk
  .let a3:=hV.base n e;let hx:x=V.int (bA ws i):=by rw[hx,a3];rfl
   subst hx;refine cS (by intro h;cases h) ?_;let⟨dx,t1,t2,t3,TL,g1,g2,g3,g4,g5⟩:=id T4;let⟨row,ab,bc,z0,z1⟩:=F.sz ws (d:=i) o6;let bo:=g3.len;obtain⟨ra,as⟩:∃ra,TL[i]?=some ra:={_,aiG o6};let am:=g3.get i ra row as ab;let bb:=zZ ws i;let blt:=lW ws i;exists 1,p,aI,dx,_,1,g1,T.dc,T.c5,j4,1,t1,_,_,V.ref ra,J,J,X3.of g2,bx (by rw[aiR,as];rfl),1,3,ra,_,_,V.int<|szD C1 ws i,J,J,X3.of am,(by rw[show bA ws i+1 =(((bA ws i+1).toNat:Z5):Z4) by omega];exact bx (by rw[aiR,bc];rfl));let be:bD C4 (Sum.inl (bA ws i))=some (V.int (gk C1 r2 r3 ws (bA ws i))):=by
    rcases iA ws i with h|⟨j,h,hj,hk⟩
    .rw[h,yP];exact Y
    .rw[h,nv];exact g j hj hk
   let lp:=cU C4 (Sum.inl ↥i)<|V.int<|cI C1 r2 r3 ws i;exists 2,wd,V.int<|gk C1 r2 r3 ws<|bA ws i,J,be ▸ gH.k (k:=Sum.inl<|bA ws i) m,2,p,C1,C0,r0,r1,r2,r3,szD C1 ws i,J,T4,F,3,2,wd,1,jP.k (k:=Sum.inl ↥i) m<|aF o6;let bg:gk C1 r2 r3 ws (bA ws i) +(r2+r3*szD C1 ws i)=cI C1 r2 r3 ws i:=by rw[xE];exact Int.add_comm _ _
   let k5:∀b o,H4 b=some o->b≠wd->Z9 H4 wd (.dK (putK C4 (Sum.inl ↥i) (V.int (gk C1 r2 r3 ws (bA ws i) +(r2+r3*szD C1 ws i))))) b=some o:=λb o e hb=>by rwa[ak hb]
   let u:Z9 H4 wd (.dK (putK C4 (Sum.inl ↥i) (V.int (gk C1 r2 r3 ws (bA ws i) +(r2+r3*szD C1 ws i))))) wd=some (.dK (putK C4 (Sum.inl ↥i) (V.int (gk C1 r2 r3 ws (bA ws i) +(r2+r3*szD C1 ws i))))):=af;generalize Z9 H4 wd (.dK (putK C4 (Sum.inl ↥i) (V.int (gk C1 r2 r3 ws (bA ws i) +(r2+r3*szD C1 ws i)))))=H5 at k5 u;rw[bg] at u;let B:∀b xs,H4 b=some (.tup xs)->H5 b=some (.tup xs):=λb xs e=>k5 b _ e<|bU e m nofun
   let S:=k5 a _ O a7;let ba:=k5 bl _ a2<|bU a2 m nofun;let T5:fX aI H5 p C1 C0 [r0,r1,r2,r3]:={dx,t1,t2,t3,TL,k5 _ _ g1<|bU g1 m nofun,B _ _ g2,g3.keep B,B _ _ g4,B _ _ g5};let an:bD (putK C4 (Sum.inl ↥i) (V.int (cI C1 r2 r3 ws i))) (Sum.inl ↥i)=some (V.int (cI C1 r2 r3 ws i)):=by rw[c6,aiN rfl]
   refine{1,.inl {J,_,X0.of S},2,1,wd,V.int<|cI C1 r2 r3 ws i,J,an ▸ gH.k (k:=Sum.inl ↥i) u,2,2,1,wd,V.int<|cI C1 r2 r3 ws i,J,an ▸ gH.k (k:=Sum.inl ↥i) u,p,C1,C0,r0,r1,r2,r3,szD C1 ws i,cI C1 r2 r3 ws i,i,J,T5,F,o6,z0,z1,E1,λt ht=>?_};let a4:a≠t:=ao S ht;exists a,3,aj.new ht _ _ S,aF o6;let a0:bB C1 C0 r0 r1 r2 r3 ws i =(r0+r1*(↥C1.length -↥i))*szD C1 ws i+C0.getD i 0*cI C1 r2 r3 ws i:=by unfold bB;rw[aiL (by rw[n];intro h;exact e<|aiY h)]
   rw[←a0];let k6:∀b o,H5 b=some o->b≠a->Z9 (Z9 H5 t (.tup [V.int (szD C1 ws i),V.int (cI C1 r2 r3 ws i),V.int (bB C1 C0 r0 r1 r2 r3 ws i)])) a (.lst (L++[V.ref t])) b=some o:=λb o e hb=>by rw[ak hb];exact aj.new ht _ _ e
   let kT:∀b xs,H5 b=some (.tup xs)->Z9 (Z9 H5 t (.tup [V.int (szD C1 ws i),V.int (cI C1 r2 r3 ws i),V.int (bB C1 C0 r0 r1 r2 r3 ws i)])) a (.lst (L++[V.ref t])) b=some (.tup xs):=λb xs e=>k6 b _ e<|bU e S nofun
   refine{_,_,_,L++[V.ref t],putK C4 (Sum.inl ↥i)<|V.int<|cI C1 r2 r3 ws i,J,λb o e=>k6 b o (k5 b o (a9 b o e)<|ao e al)<|ao e a1,k6 _ _ ba (ao U ac).symm,af,by simp[C],(CA.mono λb xs e=>kT b xs<|B _ _<|s4 _ _ e).snoc (x:=V.int<|szD C1 ws i) (y:=V.int<|cI C1 r2 r3 ws i) ?_,k6 _ _ u a7.symm,o6,?_,λj hj hk=>?_}
   .rw[ak a4.symm,af,C]
   .rw[c6,aiL λz=>by let:=alv z;omega];exact Y
   .rw[c6];by_cases a5:j=i
    .subst a5;rw[aiN rfl]
    .rw[aiL λz=>by let:=alv z;omega];exact g j o6 hk
 .rintro σ r ⟨v4,v5,v6,L,C4,rfl,s3,ag,a6,C,CA,ar,bi,Y,g⟩;exact{1,q a L r a6 o6 CA s3}
variable(lA:bh "costs_of" 3 ["task","choices"] (uK K aI))
include T lA in
theorem Et{f:jl}{fd:q9}(F:Fun K "cost_of" "cost_of" qZ f fd):⋯ 4 f fd ["task","choices"] (ve K aI):=by
 refine F.okY Ef ?_;rintro vs H Q E ⟨p,c,tu,C1,C0,r0,r1,r2,r3,ws,rfl,B,F,z,y,j,q⟩;refine{J,λY A outer s C=>{_,(aq<|aJ<|aL (An J) o9 T.agK PyProof.Rows.boot_sum<|aa (dg (N:=["row"]) (k:=1) (cap:=[]) J J (cg<|pcS lA az C<|aa (pv 0)<|aa (pv 1) ah) (λ_ _ _ _=>(pgN 0 (show(["row"]:fy Z6).Nodup from by decide +kernel)<|.inr J)) (λ_ _ _ _=>cj) λ_ _ _ _=>(aQ (QU (K:=K) J) (pv 0) au λ_ _=>rfl)) ah),?_}};dsimp only[aX];let n7:=F.n7;refine{2,p,c,tu,C1,C0,r0,r1,r2,r3,ws,J,B,F,z,y,j,λl L H1 n m u s1=>{l,J,{_,X0.of n},λD r=>?_}};refine cR D (K:=K) (a:=l) (xs:=L) (λi σ H2 ys=>∃(v:nt V),σ=[v]/\aj H1 H2/\H2 D=some (.lst ys)/\ys =((List.range i).map<|bB C1 C0 r0 r1 r2 r3 ws).map Z8) {Z0,J,aj.new r,af,J} (λi σ H2 ys _ U=>by let⟨_,_,s2,_⟩:=U;exact X0.of<|s2 _ _ n) ?_ ?_
 .rintro i x σ H2 ys hi ⟨v,rfl,s2,g,h⟩;let O:i<L.length:=(aiH.mp hi).1;let⟨t,x1,x2,rfl,S⟩:=u.get i x hi;exists 1,t,_,_,V.int<|bB C1 C0 r0 r1 r2 r3 ws i,J,J,X3.of<|s2 _ _ S,J,g,(by rw[h];exact aF (by simp;omega)),1,λb o e=>?_,af
  .rw[ak<|ao e r];exact s2 b o e
  .rw[h,akF];simp
 rintro σ H2 ys ⟨v,rfl,s2,g,h⟩;subst h;exists D,1,X0.of g;rw[yR,m];exact q H2<|s1.trans s2
variable(ng:bh "cost_of" 4 ["task","choices"] (ve K aI))
include T gn gj ng in
theorem Bq{f:jl}{fd:q9}(F:Fun K "bound_of" "bound_of" qg f fd):⋯ 5 f fd ["task","choices"] (ux K aI):=by
 refine F.okY iG ?_;rintro vs H Q E ⟨p,c,tu,C1,C0,r0,r1,r2,r3,ws,rfl,z,F,B,U,r,q⟩;refine⟨J,λa0 A outer s v=>⟨_,(ai (psS 2 iG.nd<|pcS ng az v<|aa (pv 0)<|aa (pv 1) ah)
   (ai (cO ajc J (rL J T.eN<|aa (aL aK o9 T.bE aiT<|aa (pv 1) ah)<|aa (aL aK o9 T.bE aiT<|aa (aZ (pv 0) J) ah) ah) (pgN 3 iG.nd)
   (aq (aV (aC jz (aQ bX (aZ (pv 0) J) (pv 3) λ_ _=>rfl) au<|aH _) (ai (psS 4 iG.nd<|aL (ES J) o9 T.zA akQ<|aa (aQ bX (aZ (pv 0) J) (pv 3) λ_ _=>rfl) ah)
   (aq<|psS 2 iG.nd<|aB bf (pv 2)<|pcS gj az v<|aa (pv 0)<|aa (pv 3)<|aa (pv 4)<|aa (pcS gn az v<|aa (pv 0)<|aa (pv 4) ah) ah)) aP)))
   (aq<|aJ<|pv 2))),?_⟩⟩
 dsimp only[aX];let n7:=F.n7;let nw:=F.nw;let S:=F.b3 r1 o8;let a2:=F.b3 r3 o8;refine{2,p,c,tu,C1,C0,r0,r1,r2,r3,ws,J,z,F,B,U,r,λH1 s1=>?_};let a:=z.keep s1;let⟨dx,C,t2,t3,TL,o,y,L,g4,g5⟩:=id a;let t:=L.len;exists 1,c,1,(B.same s1).len,1,p,aI,dx,_,1,o,T.dc,T.c5,j4,C,1,.inr<|X3.of y;rw[aiE,aiE,t];let Y:sumTo (bB C1 C0 r0 r1 r2 r3 ws) ws.length=sumTo (bdD C1 C0 r0 r1 r2 r3 ws) ws.length:=nC λd l=>(aiN l).symm
 rw[Y];refine{_,1,⟨o6,o6,o6,o6⟩,fL (lo:=↥ws.length) (n:=(↥C1.length -↥ws.length).toNat) (λi σ H2=>∃(x h:nt V),σ=[t8 p,t8 c,t9<|sumTo (bdD C1 C0 r0 r1 r2 r3 ws) (ws.length+i),x,h]/\H2=H1) ⟨Z0,Z0,J,J⟩ ?_ ?_}
 .rintro i σ H2 hi ⟨x,h,rfl,rfl⟩;let l:ws.length+i<C1.length:=by omega
  let⟨row,b,u,eg,a1,m0,O⟩:=F.FJ l;let ew:C0[ws.length+i]?=some (C0.getD (ws.length+i) 0):=by rw[ai0,aiG (show ws.length+i<C0.length by omega)];rfl
  let g:(bdD C1 C0 r0 r1 r2 r3 ws) (ws.length+i)=ud C1 C0 r0 r1 r2 r3 (ws.length+i):=aiL o6;let ei:↥ws.length +↥i =((ws.length+i:Z5):Z4):=rfl;exists 1,p,aI,dx,_,1,o,T.dc,T.eO,pS,1,t2,_,_,V.int<|C0.getD (ws.length+i) 0,J,J,X3.of g4,bx (j:=ws.length+i) (by rw[aiR,ew];rfl),3,1;by_cases m:C0.getD (ws.length+i) 0>0
  .refine dZ m ?_;obtain⟨ra,e⟩:∃ra,TL[ws.length+i]?=some ra:={_,aiG o6};exists 1,p,aI,dx,_,1,o,T.dc,T.c5,j4,1,C,_,_,V.ref ra,J,J,X3.of y,bx (j:=ws.length+i) (by rw[aiR,e];rfl),ra,row,J,X3.of<|L.get _ ra row e b,u;exists 2,2,2,p,C1,C0,r0,r1,r2,r3,fW row,J,a,F,p,C1,C0,r0,r1,r2,r3,fW row,_,ws.length+i,J,a,F,l,m0,O,3;refine{some<|.int<|↥ws.length +↥i,t9<|fW row,?_,J};show _=[_,_,some<|V.int<|sumTo (bdD C1 C0 r0 r1 r2 r3 ws) (ws.length+i) +(bdD C1 C0 r0 r1 r2 r3 ws) (ws.length+i),_,_];rw[g];unfold ud;rw[aiN m,eg];rfl
  .refine cS m ?_;refine{some<|.int<|↥ws.length +↥i,h,?_,J};show _=[_,_,some<|V.int<|sumTo (bdD C1 C0 r0 r1 r2 r3 ws) (ws.length+i) +(bdD C1 C0 r0 r1 r2 r3 ws) (ws.length+i),_,_];rw[g];unfold ud;rw[aiL m,Int.add_zero];rfl
 .rintro σ H2 ⟨x,h,rfl,rfl⟩;exists 1;rw[show ws.length +(↥C1.length -↥ws.length).toNat=C1.length by omega];exact q _ s1
variable(ly:bh "bound_of" 5 ["task","choices"] (ux K aI))
variable(m8:bh "allowed" 2 ["task","choices"] (pH K aI))
include T ly m8 in
theorem Aa{f:jl}{fd:q9}(F:Fun K "best_plan" "best_plan" nI f fd):⋯ 6 f fd ["task"] (uv aI):=by
 refine F.okY cX ?_;rintro vs H Q E ⟨p,C1,C0,r0,r1,r2,r3,rfl,hT,F,q⟩;refine⟨J,λbQ A outer s hr=>⟨_,(ai (psS 1 cX.nd dO)
   (ai (psS 2 cX.nd dO)
   (ai (psS 3 cX.nd<|bI ah)
   (ai (psS 4 cX.nd<|bI<|aa (eW ah) ah)
   (ai (Hh ajc (aC jz (aL aK o9 T.bE aiT<|aa (pv 4) ah) au<|aH _) (ai (rQ (i:=5) cX.nd J (Or.inr J)<|acV ai4 PySem.F.slot_list_pop PySem.F.type_list_pop YR<|pv 4)
   (ai (psS 6 cX.nd<|pcS ly az hr<|aa (pv 0)<|aa (pv 5) ah)
   (aq (aV (PW.pt<|pw_and (aC QN (pv 2) dO<|aH _)<|pw_and1<|aC wo (pv 6) (pv 2)<|aH _) (aq<|aY<|cK ai4 aje ajf cC (pv 3)<|aa (eW<|aa (pv 5)<|aa (pv 6) ah) ah) (aq (aV (aC bL (aL aK o9 T.bE aiT<|aa (pv 5) ah) (aL aK o9 T.bE aiT<|aa (aZ (pv 0) J) ah)<|aH _) (ai (aY<|cK ai4 aje ajf cC (pv 3)<|aa (eW<|aa (pv 5)<|aa (pv 6) ah) ah)
   (ai (psS 1 cX.nd<|pv 5)
   (aq<|psS 2 cX.nd<|pv 6)))<|aq<|aY<|cK ai4 alb alc rm (pv 4)<|aa (dg (N:=["word","choices"]) (k:=1) (cap:=[5]) J J (WE J T.Ew<|aa (pcS m8 az hr<|aa (pv 0)<|aa (pv 5) ah) ah) (λ_ _ _ _=>(pgN 0 (show(["word","choices"]:fy Z6).Nodup from by decide +kernel)<|.inr J)) (λ_ _ _ _=>cj) λ_ _ _ _=>(aB (Cv (K:=K) J) (pv 1)<|eW<|aa (pv 0) ah)) ah)))))))
   (aq<|aJ<|eW<|aa (pv 1)<|aa (pv 2)<|aa (pv 3) ah)))))),?_⟩⟩
 dsimp only[aX];let nw:=F.nw;let n6:=F.n7;refine{ajb _,λll ab=>?_};let s1:aj H (Z9 H ll (.lst [])):=aj.new ab;let l1:Z9 H ll (.lst []) ll=some (.lst ([].map V.ref)):=af;refine{ajb _,λe0 bg=>{v8,λwl y=>?_}};generalize Z9 H ll (.lst [])=H1 at s1 l1 bg y;let s2:aj H1 (Z9 H1 e0 (.tup [])):=aj.new bg;let e2:Z9 H1 e0 (.tup []) e0=some (.tup (([]:fy Z6).map V.str)):=af;generalize Z9 H1 e0 (.tup [])=H2 at s2 e2 y;let s3:aj H2 (Z9 H2 wl (.lst [V.ref e0])):=aj.new y;let w3:Z9 H2 wl (.lst [V.ref e0]) wl=some (.lst (([e0]:fy jl).map V.ref)):=af;generalize Z9 H2 wl (.lst [V.ref e0])=H3 at s3 w3;let ba:H wl=Z0:=(s1.trans s2).free y;let l3:=s3 _ _<|s2 _ _ l1;let am:ll≠wl:=λz=>by rw[←z,s2 _ _ l1] at y;cases y
 let hn:∀ws,bP C0 ws=[]↔C1.length≤ws.length:=λws=>by rw[pL,nw]
 exists λm σ u=>∃(v1 v2:V)(v5 v6:nt V)(B PL:fy jl)(U:fy Lf)(S:fy (fy Z6))(b:nt Lf),m=work C1.length S/\σ=[t8 p,some v1,some v2,t8 ll,t8 wl,v5,v6]/\aj H u/\u ll=some (.lst<|B.map V.ref)/\u wl=some (.lst<|PL.map V.ref)/\iQ u B U/\dR u PL S/\zw u v1 v2 b/\(∀ ws∈S,VW ws/\ws.length≤C1.length)/\U.length+work C1.length S≤390625/\tZ C1 C0 r0 r1 r2 r3 (C1.length+1) [] Z0 =(U ++(pile (bP C0) (bdF C1 C0 r0 r1 r2 r3) C1.length S.reverse b).1,(pile (bP C0) (bdF C1 C0 r0 r1 r2 r3) C1.length S.reverse b).2),{_,.non,.non,Z0,Z0,[],[e0],[],[[]],Z0,J,J,s1.trans<|s2.trans s3,l3,w3,iQ.nil,dR.one<|s3 _ _ e2,⟨J,J⟩,λws h=>by simp at h;subst h;exact{VW.nil,ajb _},by let:=ahj n6;simp[work];exact this,by simp[pile,vL,tZ]};rintro m σ u ⟨v1,v2,v5,v6,B,PL,U,S,b,rfl,rfl,s4,l4,w4,hL,hB,hb,hS,hsz,r⟩;let Bl:=hB.len;let Ll:=hL.len;let Sl:=uq C1.length S;exists 1,wl,1,.inl<|X0.of w4,3,1;rcases List.eq_nil_or_concat S with a3|⟨S',ws,a3⟩
 .subst a3;refine cS (by rw[aiE,Bl];simp) ?_;let hv:tZ C1 C0 r0 r1 r2 r3 (C1.length+1) [] Z0 =(U,b):=by simpa[pile,vL] using r
  let bc:=(Al (bd:=bdF C1 C0 r0 r1 r2 r3) hn (C1.length+1) [] Z0 o8 o6).2;rw[show visit (bP C0) (bdF C1 C0 r0 r1 r2 r3) (C1.length+1) [] Z0 =(U,b) from hv] at bc;cases b with
  |none=>exact absurd J bc
  |some x=>let⟨bt,rfl,a8,rfl⟩:=hb;refine{2,1,E1,λt ht=>?_};let s5:aj u (Z9 u t (.tup [V.ref bt,V.int x.2,V.ref ll])):=aj.new ht;exact q t bt ll B U x _ af (s5 _ _ a8) (s5 _ _ l4) ab (hL.mono<|.of s5) hv (by simpa[work] using hsz)<|s4.trans s5
 .rw[List.concat_eq_append] at a3;subst a3;let⟨C,g,rfl,as,aS⟩:=hB.last;refine dZ (by rw[aiE,Bl];simp) ?_;exists _,λσ' H' h=>h;let⟨hV,a2⟩:=hS ws o8;exists 1,.inl {J,_,X0.of w4},wl,_,V.ref g,J,J,w4,o8;let k5:c7 u (Z9 u wl (.lst ((C++[g]).map V.ref).dropLast)):=c7.lst w4;let w5:Z9 u wl (.lst ((C++[g]).map V.ref).dropLast) wl=some (.lst (C.map V.ref)):=by rw[af];simp
  let l5:Z9 u wl (.lst ((C++[g]).map V.ref).dropLast) ll=some (.lst (B.map V.ref)):=by rwa[ak am]
  let s5:aj H (Z9 u wl (.lst ((C++[g]).map V.ref).dropLast)):=λb o e=>by rw[ak<|ao e ba];exact s4 b o e
  generalize Z9 u wl (.lst ((C++[g]).map V.ref).dropLast)=H5 at k5 w5 l5 s5;refine{2,p,g,Z1,C1,C0,r0,r1,r2,r3,ws,J,hT.keep s5,F,X3.of<|k5 _ _ aS,hV,a2,λH6 s6=>?_};refine Hs (σ':=[t8 p,some v1,some v2,t8 ll,t8 wl,t8 g,t9<|bdF C1 C0 r0 r1 r2 r3 ws]) J ?_;dsimp only;let k6:=k5.trans<|.of s6;let w6:=s6 _ _ w5;let l6:=s6 _ _ l5;let ag:=s5.trans s6;let j:=k6 _ _ aS;let ar:=hL.mono k6;let bi:=as.mono k6;let Y:=hb.mono k6;rw[fO] at hsz;let a6:work C1.length [ws]=5 ^ (C1.length+1-ws.length):=by simp[work]
  rw[a6] at hsz;let bw:=anL (n:=C1.length+1-ws.length) (show 0<5 by omega);rw[ani,show [ws].reverse++S'.reverse=ws::S'.reverse from rfl] at r;let ac:∀ x∈S',VW x/\x.length≤C1.length:=λx hx=>hS x (by simp[hx])
  let a1:work C1.length S'<work C1.length (S'++[ws]):=by rw[fO,a6];omega
  let a4:∀tt,H6 tt=Z0->∃H8,H8=Z9 (Z9 H6 tt (.tup [V.ref g,V.int (bdF C1 C0 r0 r1 r2 r3 ws)])) ll (.lst (B.map V.ref++[V.ref tt]))/\aj H H8/\c7 H6 H8/\H8 ll=some (.lst ((B++[tt]).map V.ref))/\H8 wl=some (.lst (C.map V.ref))/\iQ H8 (B++[tt]) (U++[(ws,bdF C1 C0 r0 r1 r2 r3 ws)])/\dR H8 C S':=λtt c=>by
   let ax:tt≠ll:=λz=>by rw[z,l6] at c;cases c
   let l7:Z9 H6 tt (.tup [V.ref g,V.int (bdF C1 C0 r0 r1 r2 r3 ws)]) ll=some (.lst (B.map V.ref)):=by rwa[ak ax.symm]
   let k7:c7 H6 (Z9 H6 tt (.tup [V.ref g,V.int (bdF C1 C0 r0 r1 r2 r3 ws)])):=.of<|aj.new c;let k8:=k7.trans<|c7.lst (ys:=B.map V.ref++[V.ref tt]) l7;refine{1,λb o e=>?_,k8,by rw[af,aja];rfl,?_,(ar.mono k8).snoc {g,?_,k8 _ _ j},bi.mono k8}
   .rw[ak<|ao e ab];exact aj.new c b o<|ag b o e
   .rw[ak am.symm];exact aj.new c _ _ w6
   .rw[ak ax];exact af
  by_cases l:rF b (bdF C1 C0 r0 r1 r2 r3 ws)=Z1
  .cases b with
   |none=>cases l
   |some x=>
    let⟨bt,rfl,a8,rfl⟩:=id Y;refine gB (λQb hq=>?_) ?_
    .refine{1,J,1,sJ o8 {2,3,1,?_}};rwa[aiS<|ajm l]
    .refine{1,.inl {J,_,X0.of l6},2,v9,λtt c=>?_};let⟨H8,e8,s8,k8,l8,w8,a7,a9⟩:=a4 tt c;exists ll,3,aj.new c _ _ l6,(by rw[aiE];exact x6 o6);rw[←e8];exists _,a1,V.ref bt,V.int x.2,_,_,B++[tt],C,U++[(ws,bdF C1 C0 r0 r1 r2 r3 ws)],S',some x,J,J,s8,l8,w8,a7,a9,Y.mono k8,ac,(by simp;omega);rw[r,Ii a2 l];simp
  let a0:rF b (bdF C1 C0 r0 r1 r2 r3 ws)=Z2:=⇑l
  refine gK (λQb hq=>?_) ?_
  .cases b with
   |none=>let⟨rfl,rfl⟩:=Y;exact{1,J,1,zB J hq}
   |some x=>let⟨bt,rfl,a8,rfl⟩:=Y;refine{1,J,1,sJ o8 {2,3,1,?_}};rwa[ai1 λz=>l<|aiS z]
  let bj:=hT.keep ag;let⟨dx,t1,t2,t3,TL,g1,g2,g3,g4,g5⟩:=id bj;let bb:=g3.len;exists 1,g,1,.inr<|X3.of j,1,p,aI,dx,_,1,g1,T.dc,T.c5,j4,t1,1,.inr<|X3.of g2,J,1;by_cases O:ws.length=C1.length
  .refine dZ (by rw[aiE,aiE,bb,O]) ?_;refine{1,.inl {J,_,X0.of l6},2,v9,λtt c=>?_};let⟨H8,e8,s8,k8,l8,w8,a7,a9⟩:=a4 tt c;exists ll,3,aj.new c _ _ l6,(by rw[aiE];exact x6 o6);rw[←e8];exists 2;exists _,a1,V.ref g,V.int<|bdF C1 C0 r0 r1 r2 r3 ws,_,_,B++[tt],C,U++[(ws,bdF C1 C0 r0 r1 r2 r3 ws)],S',some (ws,bdF C1 C0 r0 r1 r2 r3 ws),J,J,s8,l8,w8,a7,a9,{g,J,k8 _ _ j,J},ac,(by simp;omega);rw[r,EM a2 a0<|(hn ws).mpr o6];simp
  .refine cS (λz=>O (by let:=V.int.inj z;rw[aiE,aiE,bb] at this;omega)) ?_;let bo:ws.length<C1.length:=by omega
   let n4:=BP C0 ws;refine{1,.inl {J,_,X0.of w6},2,p,g,Z1,C1,C0,[r0,r1,r2,r3],ws,J,bj,X3.of j,o6,nw.symm,o6,λal H7 aw bu s7=>{al,1,X0.of aw,λD hD=>?_}};refine IE D (K:=K) (a:=al) (xs:=(bP C0 ws).map V.str) (λi σ H9 ys=>∃(v:nt V)(KL:fy jl),σ=[v,t8 g]/\aj H7 H9/\H9 D=some (.lst ys)/\ys=KL.map V.ref/\dR H9 KL (((bP C0 ws).reverse.take i).map λw=>ws++[w])) {Z0,[],J,aj.new hD,af,J,dR.nil} (λ i σ H9 ys ⟨_,_,_,s9,_⟩=>X0.of<|s9 _ _ aw) ?_ ?_
   .rintro i x σ H9 ys hi ⟨v,KL,rfl,s9,an,rfl,hK⟩;rw[←amt] at hi;let⟨w,hw,rfl⟩:=mq hi;let ae:=hK.len;let bN:i <(bP C0 ws).length:=by let:=(aiH.mp hw).1;simpa using this
    let bp:KL.length≤4:=by rw[ae,aiE,aiU,akW];omega
    refine{2,v8,λtt c=>{g,tt,ws.map V.str,[V.str w],J,J,X3.of<|aj.new c _ _<|s9 _ _<|s7 _ _ j,af,o8,ajr<|aF (by simp;omega),λpp H11 be bn=>?_}};let L:aj H9 H11:=(aj.new c).trans bn;let a5:=L _ _ an;let kD:c7 H11 (Z9 H11 D (.lst (KL.map V.ref++[V.ref pp]))):=c7.lst a5;exists a5,(by rw[aiE];exact aF o6),_,KL++[pp],J,λb o e=>?_,af,(by rw[aja];rfl)
    .rw[ak<|ao e hD];exact L b o<|s9 b o e
    .rw[aiZ,hw,aja];refine(hK.mono<|(c7.of L).trans kD).append (dR.one<|kD _ _ ?_);rw[be,aja];rfl
   rintro σ H9 ys ⟨v,KL,rfl,s9,an,rfl,hK⟩;rw[aiE,←akW,ai7] at hK;let ae:=hK.len;rw[aiE,akW] at ae;let w9:=s9 _ _<|s7 _ _ w6;let k9:c7 H6 H9:=(c7.of s7).trans<|.of s9;let hPl:=as.len;let bz:=uq C1.length S';exists wl,D,3,w9,an,(by rw[aiE,aiE];exact ajr<|x6 o6);let k10:=k9.trans<|c7.lst (ys:=C.map V.ref++KL.map V.ref) w9;let bl:=Gi bo n4;let bv:work C1.length ((bP C0 ws).reverse.map (λw=>ws++[w]))<5 ^ (C1.length+1-ws.length):=by rwa[amt,Aj]
   exists work C1.length<|S' ++(bP C0 ws).reverse.map (λw=>ws++[w]),by rw[fO,fO,a6];omega,v1,v2,_,_,B,C++KL,U,S' ++(bP C0 ws).reverse.map (λw=>ws++[w]),b,J,J,λb o e=>?_,?_,by rw[af,aja],ar.mono k10,(bi.mono k10).append<|hK.mono<|c7.lst w9,Y.mono k10,?_,(by rw[fO];omega)
   .rw[ak<|ao e ba];exact s9 b o<|s7 b o<|ag b o e
   .rw[ak am];exact s9 _ _<|s7 _ _ l6
   .intro x hx;rcases aiX.mp hx with hx|hx
    .exact ac x hx
    .let⟨w,hw,rfl⟩:=ajd.mp hx;let⟨wt,_,bm⟩:=jD<|List.mem_reverse.mp hw;exact{hV.snoc bm,by simp;omega}
   .rw[r,Hl a2 a0 (λz=>by let:=(hn ws).mp z;omega),ani,amt,am1]
include T in
theorem xG{f:jl}{fd:q9}(F:Fun K "marks" "Store.marks" kK f fd):⋯ 1 f fd ["self"] (uf av):=by refine F.okY xN ?_;rintro vs H Q E ⟨p,g,i,m,dl,o,j,h,l,b,rfl,⟨dx,h1⟩,e,a,q⟩;refine{J,λc A outer s n=>{_,(aq<|aJ<|bF d7 o9 T.jO ajQ<|aa (aZ (pv 0) J) ah),?_}};dsimp only[aX];refine{1,p,av,dx,_,1,h1,T.bu,T.gc,yf,dl,b,J,.inl {X0.of e,q}}
include T in
theorem xW{f:jl}{fd:q9}(F:Fun K "today" "Store.today" kN f fd):⋯ 1 f fd ["self"] (uh av aA):=by refine F.okY xJ ?_;rintro vs H Q E ⟨p,c,g,i,dl,m,ta,sa,TL,SL,wd,C2,C3,l,j,h,rfl,⟨dx,h1⟩,D,q⟩;refine{J,λb A outer s e=>{_,(aq<|aJ<|aZ (aZ (pv 0) J) J),?_}};dsimp only[aX];let⟨dd,a⟩:=D.ob;exact{1,p,av,dx,_,1,h1,T.bu,T.eV,sR,c,aA,dd,_,1,a,T.bN,T.dI,pe,q}
variable(kB:dM aD "put" 2 ["self","piece"] (Ac aD))
include T kB in
theorem DO{f:jl}{fd:q9}(F:Fun K "do_deed" "do_deed" qO f fd):⋯ 5 f fd ["shelf","deed"] (sd aD):=by refine F.okY Ed ?_;rintro vs H Q E ⟨x,d,t,a,fl,C4,rfl,e,⟨g,c,h⟩,b,q⟩;refine{J,λj A outer s l=>{_,(aq<|aV (aC bL (aQ bX (pv 1) au λ_ _=>rfl) aN<|aH _) (aq<|aY<|bM (pv 0) T.fP kB az (l.mono o7)<|aa (aQ bX (pv 1) au λ_ _=>rfl) ah)<|aq cA),?_}};dsimp only[aX];refine gB (λn i=>{1,t,_,_,V.str _,J,J,X3.of e,J,J,1,by rwa[aiS rfl]}) ?_;exact{1,x,g,1,c,vJ o4 o4,1,t,_,_,V.ref a,J,J,X3.of e,J,x,d,fl,C4,a,J,⟨g,c,h⟩,b,λH' m k=>q H' m k}
include T in
theorem tE{f:jl}{fd:q9}(F:Fun K "__init__" "AnyOf.__init__" iU f fd):⋯ 2 f fd ["self","rules"] (uD cE):=by refine F.okY tw ?_;rintro vs H Q E ⟨p,dx,l,xs,rfl,g,c,b,q⟩;refine{J,λe A outer s h=>{_,(aq<|bV (pv 0) (bF d7 o9 T.jO ajQ<|aa (pv 1) ah) J),?_}};dsimp only[aX];refine{1,l,xs,J,.inl {X0.of c,λt a=>{1,p,cE,dx,1,aj.new a p _ g,T.G7,T.kX,(by show 0<1000;decide),?_}}};exact q t _ af<|cZ (aW.of_same<|aj.new a)<|.inl o8
variable(cJ:bh "writes_number" 1 ["word"] r8)
include T cJ in
theorem zE{f:jl}{fd:q9}(F:Fun K "number_of" "number_of" oq f fd):⋯ 2 f fd ["word"] (rj):=by
 refine F.okY AV ?_;rintro vs H Q E ⟨z,rfl,a,q⟩;refine⟨J,λb A outer s c=>⟨_,(ai (aV (mX<|oV<|pcS cJ az c<|aa (pv 0) ah) (aq cA) aP)
   (aq<|aJ<|bF gS o9 T.wI aku<|aa (pv 0) ah)),?_⟩⟩
 refine{1,z,J,(by let:=nq a;omega),λH1 s1=>{1,?_}};rw[a];refine gb ?_;exact{1,z,intOf z,J,xK a,(by let:=nq a;omega),q H1 s1}
include T cJ in
theorem Ak{f:jl}{fd:q9}(F:Fun K "change_of" "change_of" ou f fd):⋯ 2 f fd ["word"] (rA):=by
 refine F.okY rZ ?_;rintro vs H Q E ⟨z,c,rfl,B,g,q⟩;refine⟨J,λO A outer s o=>⟨_,(ai (psS 1 rZ.nd<|cK ajG akh aki lY (pv 0)<|aa aN ah)
   (ai (aV (PW.pt<|pw_or (aC qb (aL aK o9 T.bE aiT<|aa (pv 1) ah) au<|aH _)<|pw_or (mX<|oV<|pcS cJ az o<|aa (aQ aT (pv 1) au λ_ _=>rfl) ah)<|pw_or1<|mX<|oV<|pcS cJ az o<|aa (aQ aT (pv 1) au λ_ _=>rfl) ah) (aq cA) aP)
   (aq<|aJ<|eW<|aa (bF gS o9 T.wI aku<|aa (aQ aT (pv 1) au λ_ _=>rfl) ah)<|aa (bF gS o9 T.wI aku<|aa (aQ aT (pv 1) au λ_ _=>rfl) ah) ah))),?_⟩⟩
 dsimp only[aX];refine{1,J,z,Str.ofString "=",J,J,o4,o6,λp r=>?_};let em:∀ y∈Txt.split z (Str.ofString "="),y.length≤4900:=λy h=>by rw[Be] at h;exact ai8 (split_le h) B
 let l:chg z=DM (Txt.split z (Str.ofString "=")):=rfl;generalize Txt.split z (Str.ofString "=")=ps at em l r ⊢;rw[l] at g;let e:Z9 H p (.lst (ps.map V.str)) p=some (.lst (ps.map V.str)):=af;let v:aj H (Z9 H p (.lst (ps.map V.str))):=aj.new r;generalize Z9 H p (.lst (ps.map V.str))=H0 at e v;obtain⟨a,b,rfl,n,m,rfl⟩:∃a b,ps=[a,b]/\okW a=Z1/\okW b=Z1/\c =(intOf a,intOf b):=by
  by_cases h2:ps.length=2
  .obtain⟨a,b,rfl⟩:∃a b,ps=[a,b]:=by
    match ps,h2 with
    |[a,b],_=>exact⟨a,b,J⟩
   simp only[DM] at g;split at g
   .rename_i u;exact{a,b,J,u.1,u.2,(aiY g).symm}
   .cases g
  .rw[GQ h2] at g;cases g
 exists 1,p,1,.inl<|X0.of e,J,1;refine zB J ?_;let L:=em a o8;let x:=em b o8;refine{1,p,_,_,V.str a,J,J,X0.of e,bx (j:=0) J,a,J,L,λH1 s1=>{1,?_}};rw[n];refine gb ?_;refine{1,p,_,_,V.str b,J,J,X0.of<|s1 p _ e,bx (j:=1) J,b,J,x,λH2 s2=>{1,?_}};rw[m];refine gb ?_;let i:=s2 p _<|s1 p _ e;let l1:=nq n;let l2:=nq m;refine{1,p,_,_,V.str a,J,J,X0.of i,bx (j:=0) J,a,intOf a,J,xK n,o6,1,p,_,_,V.str b,J,J,X0.of i,bx (j:=1) J,b,intOf b,J,xK m,o6,v9,λt C=>?_};exact q t _ af<|((v.trans s1).trans s2).trans<|aj.new C
include T in
theorem Bo{f:jl}{fd:q9}(F:Fun K "ask_form" "ask_form" pT f fd):⋯ 1 f fd ["word","fits"] (qe):=by refine F.okY B4 ?_;rintro vs H Q E ⟨z,rfl,q⟩;refine{J,λa A outer s b=>{_,(aq<|aV (mX<|oV<|pv 1) (aq cA) aP),?_}};exact{2,gb q}
include T in
theorem zc{f:jl}{fd:q9}(F:Fun K "is_as_many" "is_as_many" mD f fd):⋯ 1 f fd ["many","form"] (yl K):=by
 refine F.okY zo ?_;rintro vs H Q E ⟨n,lo,hi,a,rfl,c,q⟩;refine{J,λg A outer s h=>{_,(aq<|aJ<|wR (fz wo (pv 0) (aQ bX (pv 1) au λ_ _=>rfl)<|aH _)<|sG<|adD (fz oZ (aQ bX (pv 1) au λ_ _=>rfl) dO<|aH _)<|sG<|fz vD (pv 0) (aQ bX (pv 1) au λ_ _=>rfl)<|aH _),?_}};dsimp only[aX];exists 2,a,_,_,V.int ↥lo,J,J,c,J,3,1;by_cases b:lo≤n
 .refine dZ o6 ?_;exists 1,a,_,_,hiV hi,J,J,c,J,J;cases hi with
  |none=>
   refine{1,fQ ?_};let e:gT n (lo,Z0)=Z1:=by simp[gT,b]
   rwa[e] at q
  |some m=>
   refine{1,gb {2,a,_,_,V.int ↥m,J,J,c,J,3,?_}};let e:gT n (lo,some m)=decide (↥n≤↥m):=by simp[gT,b]
   rwa[e] at q
 .refine cS o6 ?_;let e:gT n (lo,hi)=Z2:=by simp[gT,b]
  rwa[e] at q
include T in
theorem zK{f:jl}{fd:q9}(F:Fun K "is_within" "is_within" oz f fd):⋯ 1 f fd ["word","numbers"] (qH):=by
 refine F.okY As ?_;rintro vs H Q E ⟨z,a,ns,rfl,p,c,h4,h2,n,q⟩;refine⟨J,λB A outer s C=>⟨_,(ai (aV (aC bL (pv 0) aN<|aH _) (aq<|aJ<|fz vD (aQ aT (pv 1) au λ_ _=>rfl) (eL (v:=.int 18446744073709551615) J T.m_W {1})<|aH _) aP)
   (ai (aV (aC bL (pv 0) aN<|aH _) (aq<|aJ<|fz vD (aL (GP J) o9 T.wD akt<|aa (dY fY (pv 1) (dw au) ic) ah) (eL (v:=.int 1000000000000) J T.Bv {1})<|aH _) aP)
   (aq<|aJ nh))),?_⟩⟩
 dsimp only[aX];let o:∀{x:Z6},z≠x->decide (V.str z=V.str x)=Z2:=λe=>ai1 λz=>e<|V.str.inj z
 by_cases g:z = "harm"
 .refine gB (λi b=>{1,J,1,by rw[aiS (by rw[g])];exact b}) ?_;let h4:=h4 g;let t:=c.1 g _<|aiG (show 3<ns.length by omega);exists 1,a,_,_,V.int ns[3],J,J,X0.of p,bx (j:=3) (by rw[aiR,aiG (show 3<ns.length by omega)];rfl),3;rw[aiS t];exact q H<|aj.refl H
 refine gK (λi b=>{1,J,1,by rwa[o g]}) ?_;unfold qk;dsimp only;by_cases h:z = "plan"
 .refine gB (λi b=>{1,J,1,by rw[aiS (by rw[h])];exact b}) ?_;let h2:=h2 h;refine{2,a,1,X0.of p,λl y=>?_};let u:cT (ns.map Z8) (some 1) Z0=ns.tail.map Z8:=by
   cases ns with
   |nil=>simp at h2
   |cons x xs=>simp[cT,HT.sIx];exact ajA o8
  rw[u];refine{l,ns.tail,J,X0.of af,λe=>by let:=congrArg List.length e;simp at this;omega,λm r _=>{3,?_}};rw[aiS<|c.2 h m r];exact q _<|aj.new y
 .refine gK (λi b=>{1,J,1,by rwa[o h]}) ?_;exact q H<|aj.refl H
variable(j5:bh "change_of" 2 ["word"] rA)
variable(gZ:bh "ask_form" 1 ["word","fits"] qe)
variable(ju:bh "is_as_many" 1 ["many","form"] (yl K))
variable(jG:GDT P w K c9 vF)
variable(fM:bh "number_of" 2 ["word"] rj)
variable(ko:bh "is_within" 1 ["word","numbers"] qH)
include T j5 gZ ju jG fM ko in
theorem xM{f:jl}{fd:q9}(F:Fun K "told_behind" "told_behind" kQ f fd):⋯ 3 f fd ["word","rest"] (uS):=by
 refine F.okY oM ?_;rintro vs H Q E ⟨B,r,ws,td,rfl,g,a5,a6,hW,q⟩;refine⟨J,λa8 A outer s Y=>⟨_,(ai (aV (aC bL (pv 0) aN<|aH _) (aq<|aJ<|dg (N:=["change"]) (k:=1) (cap:=[]) J J (cg<|pv 1) (λ_ _ _ _=>(pgN 0 (show(["change"]:fy Z6).Nodup from by decide +kernel)<|.inr J)) (λ_ _ _ _=>cj) λ_ _ _ _=>(pcS j5 az Y<|aa (pv 0) ah)) aP)
   (ai (aV (aC bL (pv 0) aN<|aH _) (ai (aY<|pcS gZ az Y<|aa (pv 0)<|aa (wR (fz bL (aL aK o9 T.bE aiT<|aa (pv 1) ah) au<|aH _)<|sG<|fz kC (aQ aT (pv 1) au λ_ _=>rfl) (eL (v:=.ref fF) J T.QA J) (by with_unfolding_all rfl)) ah)
   (aq<|aJ<|pv 1)) aP)
   (ai (aY<|pcS gZ az Y<|aa (pv 0)<|aa (wR (Yl<|ac2 jG (pv 0)<|eL (v:=.ref c9) J T.zV J)<|sG<|pcS ju az Y<|aa (aL aK o9 T.bE aiT<|aa (pv 1) ah)<|aa (agE jG (eL (v:=.ref c9) J T.zV J) (pv 0) λ_ _=>rfl) ah) ah)
   (ai (gY (i:=2) oM.nd J (Or.inl J) (N:=["number"]) (k:=1) (cap:=[]) J J (cg<|pv 1) (λ_ _ _ _=>(pgN 0 (show(["number"]:fy Z6).Nodup from by decide +kernel)<|.inr J)) (λ_ _ _ _=>cj) λ_ _ _ _=>(pcS fM az Y<|aa (pv 0) ah))
   (ai (aY<|pcS gZ az Y<|aa (pv 0)<|aa (pcS ko az Y<|aa (pv 0)<|aa (pv 2) ah) ah)
   (aq<|aJ<|pv 2)))))),?_⟩⟩
 dsimp only[aX];let no:∀{x:Z6},B≠x->decide (V.str B=V.str x)=Z2:=λe=>ai1 λz=>e<|V.str.inj z
 cases td with
 |chs cs=>
  let⟨w1,a0⟩:=hW;refine gB (λQb C=>{1,J,1,by rw[aiS (by rw[w1])];exact C}) ?_;refine{1,r,J,{_,X0.of g},λD S=>?_};refine cR D (K:=K) (a:=r) (xs:=ws.map V.str) (λi σ n ys=>∃(v:nt V)(u:fy (Z4×Z4)),σ=[v]/\aj H n/\n D=some (.lst ys)/\fZ n ys u/\(ws.take i).map chg=u.map some) {Z0,[],J,aj.new S,af,fZ.nil,o8} (λi σ n ys _ z0=>by let⟨_,_,_,s5,_⟩:=z0;exact X0.of<|s5 r _ g) ?_ ?_
  .rintro i x σ n ys hi ⟨v,u,rfl,s5,L,R,m⟩;obtain⟨y,p,rfl⟩:∃y,ws[i]?=some y/\V.str y=x:=by rw[aiR] at hi;let⟨c,h1,h2⟩:=ai9.mp hi;exact⟨c,h1,h2⟩
   obtain⟨c,hc⟩:∃c,chg y=some c:=by let hm:chg y∈ws.map chg:=akd<|aiQ p;rw[a0] at hm;let⟨c,_,e⟩:=ajd.mp hm;exact⟨c,e.symm⟩
   refine{1,y,c,J,a5 y<|aiQ p,hc,λt H6 ht s6=>?_};let a1:=s6 D _ L;refine{a1,?_,_,u++[c],J,λb o e=>?_,af,?_,El m p hc}
   .let e:=congrArg List.length m;simp only[List.length_map,List.length_take] at e;rw[R.len,←e];exact aF o6
   .rw[ak<|ao e S];exact s6 b _<|s5 b _ e
   .refine(R.mono λb xs e=>?_).snoc ?_
    .rw[ak<|bU e L nofun];exact s6 b _ e
    .rw[ak<|bU ht a1 nofun];exact ht
  .rintro σ n ys ⟨v,u,rfl,s5,L,R,m⟩;rw[aiE,ai7,a0] at m;let e:=(anx λa b h=>aiY h).mp m;subst e;exact q D n ⟨ys,L,R⟩ (.inr S) s5
 |wrd w=>
  let⟨w1,rfl,hw⟩:=hW;refine gK (λQb C=>{1,J,1,by rw[no (by rw[w1];decide +kernel)];exact C}) ?_;unfold qk;dsimp only;refine gB (λQb C=>{1,J,1,by rw[aiS (by rw[w1])];exact C}) ?_;let a4:inV (V.str w) [V.str "whole",V.str "since",V.str "last"]=Z1:=by simp only[DE,List.mem_cons,List.not_mem_nil,or_false] at hw;rcases hw with rfl|rfl|rfl <;> decide +kernel
  refine{2,r,1,.inl<|X0.of g,J,1,dZ J {1,r,_,_,V.str w,J,J,X0.of g,bx (j:=0) J,fF,1,.inr<|Fo T.DS,J,J,B,by rw[aiL o7,a4],1,q r H g (.inl J)<|aj.refl H}}
 |nums ns=>
  let⟨w1,w2,hN⟩:=hW;refine gK (λQb C=>{1,J,1,by rwa[no w1]}) ?_;unfold qk;dsimp only;refine gK (λQb C=>{1,J,1,by rwa[no w2]}) ?_;dsimp only;let⟨⟨lo,hi⟩,hf,U⟩:=hN.fm;let a2:=Gu hf;refine{2,B,1,a2,1,fQ {1,r,1,.inl<|X0.of g,1,B,1,a2,λb hb=>?_}};exists ws.length,lo,hi,b,o8,hb _;rw[U];exists B,J;dsimp only;refine{1,r,J,{_,X0.of g},λD S=>?_};refine cR D (K:=K) (a:=r) (xs:=ws.map V.str) (λi σ n ys=>∃(v:nt V),σ=[v]/\aj H n/\n D=some (.lst ys)/\ys =(ws.take i).map λw=>V.int<|intOf w) {Z0,J,aj.new S,af,o8} (λi σ n ys _ z0=>by let⟨_,_,s5,_⟩:=z0;exact X0.of<|s5 r _ g) ?_ ?_
  .rintro i x σ n ys hi ⟨v,rfl,s5,L,rfl⟩;obtain⟨y,p,rfl⟩:∃y,ws[i]?=some y/\V.str y=x:=by rw[aiR] at hi;let⟨c,h1,h2⟩:=ai9.mp hi;exact⟨c,h1,h2⟩
   refine{1,y,J,hN.ok y<|aiQ p,λH6 s6=>?_};exists s6 D _ L,by rw[aiE,aiU];exact aF o6,1,λb o e=>?_,af
   .rw[ak<|ao e S];exact s6 b _<|s5 b _ e
   .rw[aiZ,p];simp
  .rintro σ n ys ⟨v,rfl,s5,L,rfl⟩;rw[aiE,ai7] at L;refine aU [some<|.str B,t8 r,t8 D] ?_;dsimp only;let a7:ns.length=ws.length:=by rw[hN.en];simp
   let a3:n D=some (.lst (ns.map Z8)):=by rw[L,hN.en,ako];rfl
   let O:∀(x:Z6)(l:Z5)(h:nt Z5),B=x->iD.lookup x=some (l,h)->l≤ws.length:=λx l h ex el=>by let:=Ei hf<|ex ▸ el;cases this;simp only[gT,Bool.and_eq_true,decide_eq_true_eq] at U;exact U.1
   refine{2,1,B,D,ns,J,a3,hN.wi,λe=>by let:=O "harm" 4 (some 4) e o4;omega,λe=>by let:=O "plan" 6 Z0 e o4;omega,o6,λH6 s6=>{B,J,?_}};exact{1,q D H6 (s6 _ _ a3) (.inr S)<|s5.trans s6}
variable(iK:bh "told_behind" 3 ["word","rest"] uS)
include T iK in
theorem Br{f:jl}{fd:q9}(F:Fun K "read_row" "read_row" pO f fd):⋯ 4 f fd ["row"] (xC):=by
 refine F.okY nN ?_;rintro vs H Q E ⟨z,b,td,rfl,Y,⟨ws,m,S⟩,q⟩;refine⟨J,λB A outer s C=>⟨_,(ai (psS 1 nN.nd<|cK ajG akh aki lY (pv 0)<|aa aN ah)
   (ai (F9 (λpn xe E U=>(aq<|psS 2 nN.nd<|pcS iK az C<|aa (aQ aT (pv 1) au λ_ _=>rfl)<|aa (dY fY (pv 1) (dw au) ic) ah)) AA J J)
   (aq<|aJ<|eW<|aa (aQ aT (pv 1) au λ_ _=>rfl)<|aa (pv 2) ah))),?_⟩⟩
 dsimp only[aX];refine{1,J,z,Str.ofString " ",J,J,o4,o6,λp L=>?_};let em:∀ y∈Txt.split z (Str.ofString " "),y.length≤4900:=λy h=>by rw[spS] at h;exact ai8 (split_le h) o6
 let o:(Txt.split z (Str.ofString " ")).length≤401:=by rw[spS];exact ai8 DF o6
 rw[m] at em o ⊢;let a:Z9 H p (.lst ((b::ws).map V.str)) p=some (.lst ((b::ws).map V.str)):=af;let g:aj H (Z9 H p (.lst ((b::ws).map V.str))):=aj.new L;generalize Z9 H p (.lst ((b::ws).map V.str))=H0 at a g ⊢;refine aU [some<|.str z,t8 p,Z0] ?_;dsimp only;intro pn xe;exists 1,p,_,_,V.str b,J,J,X0.of a,bx (j:=0) J;refine{2,p,1,X0.of a,λr c=>?_};let O:cT ((b::ws).map V.str) (some 1) Z0=ws.map V.str:=by simp[cT,HT.sIx];exact ajA o8
 rw[O];let s1:aj H0 (Z9 H0 r (.lst (ws.map V.str))):=aj.new c;let e:Z9 H0 r (.lst (ws.map V.str)) r=some (.lst (ws.map V.str)):=af;generalize Z9 H0 r (.lst (ws.map V.str))=H1 at s1 e ⊢;rw[ajE] at o;refine{b,r,ws,td,J,e,λw x=>em w<|ai3 _ x,o6,S,λl H2 v n s2=>?_};refine aU [some<|.str z,t8 p,t8 l] ?_;dsimp only;let i:=g.trans<|s1.trans s2;refine{1,p,_,_,V.str b,J,J,X0.of<|s2 _ _<|s1 _ _ a,bx (j:=0) J,1,v9,λt u=>?_};refine q t l _ af (v.same<|aj.new u) ?_<|i.trans<|aj.new u;rcases n with rfl|n
 .exact g.free c
 .exact g.free (s1.free n)
include T in
theorem qL{f:jl}{fd:q9}(F:Fun K "ask_shelf" "Store.ask_shelf" iz f fd):⋯ 3 f fd ["self","shelf"] (mS av):=by refine F.okY qV ?_;rintro vs H Q E ⟨p,m,a,h,dl,n,l,e,g,SL,i,rfl,⟨dx,h1⟩,c,h3,hi,q⟩;refine{J,λb A outer s j=>{_,(aq<|aV (PW.pt<|pw_or (aC kh (pv 1) au<|aH _)<|pw_or1<|aC wo (pv 1) (aL aK o9 T.bE aiT<|aa (aZ (pv 0) J) ah)<|aH _) (aq cA) aP),?_}};dsimp only[aX];refine{1,3,1,cS o6 ?_};exact{2,p,av,dx,_,1,h1,T.bu,T.dS,qi,a,SL,J,.inl<|X0.of c,3,1,cS o6 q}
variable(iN:dM aA "passes" 4 ["self","changes"] (sj aA))
include T iN in
theorem vE{f:jl}{fd:q9}(F:Fun K "passes" "Store.passes" jM f fd):⋯ 5 f fd ["self","changes"] (nZ av aA):=by refine F.okY vp ?_;rintro vs H Q E ⟨p,j,r,u,dl,z,ta,sa,a,TL,SL,wd,C2,C3,y,v,t,L,h,rfl,⟨dx,h1⟩,D,q,o,b,c,g,i,q1⟩;refine{J,λn A outer s m=>{_,(aq<|aJ<|bM (aZ (pv 0) J) T.bN iN az (m.mono o7)<|aa (pv 1) ah),?_}};dsimp only[aX];let⟨dd,l⟩:=D.ob;exact{1,p,av,dx,_,1,h1,T.bu,T.eV,sR,j,dd,1,l,lG o4 o4 o4 o4,1,j,ta,sa,a,TL,SL,wd,C2,C3,L,h,J,D,q,o,b,c,g,λ_=>q1,λx e=>(by rw[i] at e;cases e),λx e=>(by rw[i] at e;cases e)}
variable(fT:dM av "ask_shelf" 3 ["self","shelf"] (mS av))
variable(nc:bh "do_deed" 5 ["shelf","deed"] (sd aD))
include T fT nc in
theorem xq{f:jl}{fd:q9}(F:Fun K "carry" "Store.carry" kM f fd):⋯ 6 f fd ["self","shelf","many"] (qN av aA aD aG):=by
 refine F.okY ir ?_;rintro vs H Q E ⟨Z,wd,C2,C3,us,M,i,many,rfl,hi,h,q⟩;refine⟨J,λbb A outer s hr=>⟨_,(ai (aY<|bM (pv 0) T.bu fT az (hr.mono o7)<|aa (pv 1) ah)
   (ai (psS 3 ir.nd<|aQ aT (aZ (pv 0) J) (pv 1) λ_ _=>rfl)
   (ai (psS 4 ir.nd<|dY fY (aZ (pv 0) J) (dw<|pv 3)<|dw<|aB bf (pv 3)<|pv 2)
   (ai (cO ajc J (cg<|pv 4) (pgN 5 ir.nd)
   (aq<|aY<|pcS nc az hr<|aa (aQ aT (aZ (pv 0) J) (pv 1) λ_ _=>rfl)<|aa (pv 5) ah))
   (ai (AI (aB bf (pv 3)<|aL aK o9 T.bE aiT<|aa (pv 4) ah)<|Ax (aZ (pv 0) J) (pv 1) set_list)
   (aq<|aJ<|aL aK o9 T.bE aiT<|aa (pv 4) ah)))))),?_⟩⟩
 dsimp only[aX];let⟨dx,h1⟩:=id h.st;exists 1,Z.p,dx,1,h1,i7 o4,1,Z.p,Z.q,Z.sl,Z.nl,Z.dl,Z.se,Z.rl,Z.sk,Z.ea,_,1,⟨dx,h1⟩,h.sl,J,⟨o6,o6⟩;let a5:=h.nn;let aS:=h.n61;let an:=h.nle i hi;obtain⟨n,hn⟩:∃n,Z.n i=n:={1};rw[hn] at an;obtain⟨c,hc⟩:∃c,min many (us.length-n)=c:={1};let ab:n+c≤us.length:=by omega
 exists 1,Z.p,av,dx,_,1,h1,T.bu,T.gc,yf,1,Z.dl,_,3,X0.of h.dl,EJ<|MQ hi;rw[hn];refine aU [t8 Z.p,t9 ↥i,t9 ↥many,t9 ↥n,Z0,Z0] ?_;dsimp only;exists 1,Z.p,av,dx,_,1,h1,T.bu,T.gz,AK;refine{2,2,3,1,Z.nl,1,X0.of h.nl,λl C=>?_};let a2:cT Z.NL (some ↥n) (some (↥n +↥many)) =(Z.NL.drop n).take c:=by unfold cT;rw[show(↥n +↥many) =((n+many:Z5):Z4) from J,HT.g8,HT.g8,a5,show min n us.length=n by omega];congr 1;omega
 rw[a2];refine aU [t8 Z.p,t9 ↥i,t9 ↥many,t9 ↥n,t8 l,Z0] ?_;dsimp only;generalize hH1:Z9 H l (.lst ((Z.NL.drop n).take c))=H1;let s1:aj H H1:=by rw[←hH1];exact aj.new C
 let L:H1 l=some (.lst ((Z.NL.drop n).take c)):=by rw[←hH1];exact af
 let hB:=h.same s1;let a7:((Z.NL.drop n).take c).length=c:=by rw[aiU,alx,a5];omega
 let⟨ax,ba,x1,x2⟩:=(h.sh i hi).at_;let a4:l≠Z.x i:=λe=>by rw[e,x1] at C;cases C
 let a3:l≠Z.d i:=λe=>by rw[e,x2] at C;cases C
 let B:=hB.sh i hi;rw[hn] at B;let a1:cN H1 [Z.x i,Z.d i]:=by let⟨C4,z,_⟩:=B.ex;exact cN.sh z
 let hp:=h.aaU hi;let y:=h.qf h.sl hi;let r:=h.qf h.dl hi;refine bR (λσ H'=>∃O,σ=[t8 Z.p,t9 ↥i,t9 ↥many,t9 ↥n,t8 l,O]/\ShC aD aG aG H' (Z.x i) (Z.d i) ((n+c:Z5):Z4) (jt us n c<|M i) 61/\aW [Z.x i,Z.d i] H1 H') (λN hN=>?_) ?_
 .refine{1,l,J,{_,X0.of L},gv (K:=K) (a:=l) (xs:=(Z.NL.drop n).take c) (λj σ H'=>∃O,σ=[t8 Z.p,t9 ↥i,t9 ↥many,t9 ↥n,t8 l,O]/\aW [Z.x i,Z.d i] H1 H'/\ShC aD aG aG H' (Z.x i) (Z.d i) ((n+j:Z5):Z4) (jt us n j<|M i) 61) {Z0,J,aW.refl,by rwa[Fp]} (λj σ H' _ z0=>by let⟨_,_,k,_⟩:=z0;exact X0.of<|k l _ L (by simp[a4,a3])) ?_ ?_}
  .rintro j v σ H2 hj ⟨O,rfl,k2,hX⟩;let ar:j<c:=by let:=(aiH.mp hj).1;omega
   obtain⟨u,hu⟩:∃u,us[n+j]?=some u:={_,aiG o6};let⟨t,a,e1,e2,e3⟩:=hB.no (n+j) u hu;rw[anA,aiN ar,ak7,e1] at hj;cases hj;refine aU [t8 Z.p,t9 ↥i,t9 ↥many,t9 ↥n,t8 l,t8 t] ?_;let⟨C4,a0,hR,aw⟩:=hX.ex;let al:Z.p∉[Z.x i,Z.d i]:=by simp[hp.1,hp.2]
   let am:Z.sl∉[Z.x i,Z.d i]:=by simp[y.1,y.2.1]
   refine{1,Z.p,av,dx,_,1,k2 _ _ (s1 _ _ h1) al,T.bu,T.dS,qi,1,Z.sl,_,3,X0.of<|k2 _ _ hB.sl am,EJ<|MQ hi,1,Z.x i,Z.d i,t,a,_,C4,J,k2 _ _ e2<|a1.tup e2,a0,o6,λH' as k'=>?_};let a8:cN H2 [Z.x i,Z.d i]:=cN.sh a0;let ac:=cM.dU e3 k2 a1;exists some<|.ref t,J,λb o e U=>k' b o (k2 b o e U) U,{putK C4 (.inl ((n+j:Z5):Z4))<|.ref a,?_,?_,?_}
   .rw[show((n +(j+1):Z5):Z4) =((n+j:Z5):Z4)+1 by omega];exact as
   .rw[FW hu];exact(hR.mono λv u z=>cM.dU z k' a8).put (cM.dU ac k' a8)
   .let:=F2 C4 (.inl ((n+j:Z5):Z4))<|.ref a;let:=Qg hR (N:=n+j) λm u e=>CB (h.dom i hi) hn e
    omega
   .intro m v e;let:=CB (h.dom i hi) hn e;omega
  .rintro σ H2 ⟨O,rfl,k2,hX⟩;rw[a7] at hX;exact hN _ _ ⟨O,J,hX,k2⟩
 rintro σ H2 ⟨O,rfl,ag,k2⟩;let ae:Z.dl∉[Z.x i,Z.d i]:=by simp[r.1,r.2.1]
 let a6:=k2 _ _ hB.dl ae;let a9:=k2 l _ L (by simp[a4,a3]);exists 2,l,1,.inl<|X0.of a9,3;let h12:=k2 _ _ (s1 _ _ h1) (by simp[hp.1,hp.2]:Z.p∉[Z.x i,Z.d i]);exists 1,Z.p,av,dx,_,1,h12,T.bu,T.gc,yf;exists 1,Z.dl,_,_,i,J,J,a6,agS hi;let Y:l≠Z.dl:=λe=>by rw[e,h.dl] at C;cases C
 exists 1,l,1,.inl<|X0.of (by rwa[ak Y]);rw[a7];let kk:aW [Z.dl,Z.x i,Z.d i] H (Z9 H2 Z.dl (.lst ((l3 λi=>V.int (Z.n i:Z4)).set i (.int (↥n +↥c))))):=λb o e U=>by
  let S:b≠Z.dl/\b≠Z.x i/\b≠Z.d i:=⇑U
  rw[ak S.1];exact k2 b o (s1 b o e) (by simp[S.2.1,S.2.2])
 let hF:cN H [Z.dl,Z.x i,Z.d i]:=cN.ls h.dl (by let⟨C4,z,_⟩:=(h.sh i hi).ex;exact cN.sh z)
 refine q c _ (by rw[hn,hc]) ?_ kk;rw[hn];refine h.re hi kk hF (λb U=>by simp only[List.mem_cons,List.not_mem_nil,or_false] at U;grind) ?_ ?_ ?_ (λm=>HZ (h.dom i hi) hn ab m) ab<|.inl ⟨J,J⟩
 .rw[xm];exact kk _ _ h.sl (by simp[y.1,y.2.1,h.nd.2.1])
 .rw[af,abP hi];exact congrArg (λz=>some<|HO.lst z)<|Uw (f:=Z.n) (g:=λk:Nat=>V.int ↥k) (x:=n+c)
 .exact ag.dU (F:=[Z.dl]) (cZ aW.refl<|.inl o8) (cN.ls a6 cN.nil) (by simp[r.1.symm]) (by simp[r.2.1.symm])
variable(iL:dM av "carry" 6 ["self","shelf","many"] (qN av aA aD aG))
include T iL in
theorem zj{f:jl}{fd:q9}(F:Fun K "note" "Store.note" mL f fd):⋯ 7 f fd ["self","deed"] (x8 av aA aD aG aG):=by
 refine F.okY zh ?_;rintro vs H Q E ⟨Z,wd,C2,C3,us,M,t,a,u,rfl,h,g,r,L,U,q⟩;refine⟨J,λO A outer s S=>⟨_,(ai (aY<|cK ai4 aje ajf cC (aZ (pv 0) J)<|aa (pv 1) ah)
   (aq<|aY<|bM (pv 0) T.bu iL az (S.mono o7)<|aa au<|aa au ah)),?_⟩⟩
 dsimp only[aX];let⟨dx,h1⟩:=id h.st;let C:=h.nn;exists 1,Z.p,av,dx,_,1,h1,T.bu,T.gz,AK,.inl {J,_,X0.of h.nl},1,Z.nl,3,h.nl,aF o6;let k1:aW [Z.nl] H (Z9 H Z.nl (.lst (Z.NL++[.ref t]))):=cZ aW.refl<|.inl o8;let l:=h.app r U L af k1;generalize Z9 H Z.nl (.lst (Z.NL++[.ref t]))=H1 at k1 l ⊢;let⟨j,i⟩:=id l.st;refine{1,Z.p,j,1,i,i7 o4,{Z with NL:=Z.NL++[.ref t]},wd,C2,C3,us++[u],M,(0),(1),J,o7,l,λk H' y v B=>?_};let m:k=1:=by let e:({Z with NL:=Z.NL++[V.ref t]}:SAd).n 0=us.length:=g;rw[e] at y;simp at y;omega
 subst m;let e:jt (us++[u]) (Z.n 0) 1 (M 0)=uX (M 0) ↥us.length (some u):=by let:=FW (us:=us++[u]) (n:=us.length) (k:=0) (M:=M 0) (u:=u) o8;rw[Fp] at this;rwa[g]
 rw[show jt (us++[u]) (({Z with NL:=Z.NL++[V.ref t]}:SAd).n 0) 1 (M 0)=_ from e] at v;refine q H' v λb o e z=>?_
 let c:b≠Z.nl/\b≠Z.dl/\b≠Z.x 0/\b≠Z.d 0:=⇑z
 exact B b o (k1 b o e (by simp[c.1])) (by simp[c.2.1,c.2.2.1,c.2.2.2])
variable(lE:bh "whole_of" 6 ["days","day"] (qw aA aG aG))
variable(iP:dM av "today" 1 ["self"] (uh av aA))
include T lE iP in
theorem rP{f:jl}{fd:q9}(F:Fun K "new_piece" "Store.new_piece" iw f fd):⋯ 9 f fd ["self","word"] (mK av aA aD aG):=by
 refine F.okY su ?_;rintro vs H Q E ⟨Z,wd,C2,C3,us,M,rfl,h,q1⟩;refine⟨J,λm A outer s i=>⟨_,(ai (aV (aC bL (pv 1) aN<|aH _) (aq<|aJ<|pcS lE az i<|aa (aZ (pv 0) J)<|aa (rC (pv 0) T.bu iP az<|i.mono o7) ah) aP)
   (aq cA)),?_⟩⟩
 dsimp only[aX];let⟨dx,h1⟩:=id h.st;let r:C2.length≠0:=h.D.ne;let ok:okD C2.length (↥C2.length-1):=⟨o6,o6⟩;let n:((↥C2.length-1).toNat)=C2.length-1:=by omega
 let j:=h.D.w2;refine gB (λo l=>{1,J,1,by rwa[aiS rfl]}) ?_;refine{1,Z.p,av,dx,_,1,h1,T.bu,T.eV,sR,1,Z.p,dx,1,h1,i7 o4,Z.p,Z.q,Z.sl,Z.nl,Z.dl,Z.se,Z.ta,Z.sa,Z.TL,Z.SL,wd,C2,C3,Z.rl,Z.sk,Z.ea,J,⟨dx,h1⟩,h.D,Z.q,wd,C2,C3,1,h.Vb,λ_ a b H' g e s=>?_,λz=>absurd ok z};rw[n] at g e;let c:=h.T b<|aiQ g;exact q1 a {Z1,(0),C2.length-1,jx b,(EE Z1 0 (C2.length-1) (jx b):Z5)} H' {a,J,e,by show(jx b).length≤100;rw[qM,c.1];omega} s
variable(fU:dM av "new_piece" 9 ["self","word"] (mK av aA aD aG))
variable(fV:dM aD "following" 1 ["self"] (lX aD))
variable(jH:dM av "note" 7 ["self","deed"] (x8 av aA aD aG aG))
include T fU fV jH in
theorem zd{f:jl}{fd:q9}(F:Fun K "keep" "Store.keep" mE f fd):⋯ 10 f fd ["self","word"] (vf av aA aD aG):=by
 refine F.okY kL ?_;rintro vs H Q E ⟨Z,wd,C2,C3,us,M,rfl,h,c,i,q1⟩;refine⟨J,λv A outer s j=>⟨_,(ai (psS 2 kL.nd<|bM (pv 0) T.bu fU az (j.mono o7)<|aa (pv 1) ah)
   (ai (psS 3 kL.nd<|rC (aQ aT (aZ (pv 0) J) au λ_ _=>rfl) T.fP fV az<|j.mono o7)
   (ai (aY<|bM (pv 0) T.bu jH az (j.mono o7)<|aa (eW<|aa aN<|aa (pv 2) ah) ah)
   (aq<|aJ<|pv 3)))),?_⟩⟩
 dsimp only[aX];let⟨dx,h1⟩:=id h.st;refine{1,Z.p,dx,1,h1,i7 o4,1,Z,wd,C2,C3,us,M,J,h,λa u H1 y s1=>?_};refine aU [t8 Z.p,some<|.str "whole",t8 a,Z0] ?_;dsimp only;let g:=h.same s1;let⟨C4,l,_⟩:=(g.sh 0 o7).ex;let⟨r,m,z⟩:=id l;exists 1,Z.p,av,dx,_,1,s1 _ _ h1,T.bu,T.dS,qi,Z.sl,_,_,.ref<|Z.x 0,J,J,X0.of g.sl,J,Z.x 0,r,1,m,vJ o4 o4,Z.x 0,Z.d 0,_,C4,J,l;rw[c];refine aU [t8 Z.p,some<|.str "whole",t8 a,t9 ↥us.length] ?_;dsimp only;refine{1,Z.p,dx,1,s1 _ _ h1,i7 o4,1,v9,λt q=>?_};let s2:=aj.new q (o:=.tup [.str "put",.ref a]);exact{Z,wd,C2,C3,us,M,t,a,u,J,g.same s2,c,i,af,y.keep s2,λH' h' k=>{1,q1 t u _ H' h' λb o e n=>k b o (s2 b o<|s1 b o e) n}}
variable(vo:kG "Days" aA 4 ["self","wide"] (xR aA))
variable(lM:kG "Shelf" aD 1 ["self"] (uJ aD))
include T vo lM in
theorem sU{f:jl}{fd:q9}(F:Fun K "__init__" "Store.__init__" iS f fd):⋯ 6 f fd ["self","wide","rule","seek","each"] (qo av aA aD):=by
 refine F.okY sW ?_;rintro vs H Q E ⟨p,dx,wd,B,r,C,rfl,hp,bz,q1⟩;refine⟨J,λc3 A outer s hr=>⟨_,(ai (bV (pv 0) (iR vo az (hr.mono o7) J<|aa (pv 1) ah) J)
   (ai (bV (pv 0) (pv 2) J)
   (ai (bV (pv 0) (pv 3) J)
   (ai (bV (pv 0) (pv 4) J)
   (ai (bV (pv 0) (bI<|aa (rW lM az (hr.mono o7) J)<|aa (rW lM az (hr.mono o7) J)<|aa (rW lM az (hr.mono o7) J) ah) J)
   (ai (bV (pv 0) (bI ah) J)
   (ai (bV (pv 0) (bI<|aa au<|aa au<|aa au ah) J)
   (aq<|bV (pv 0) uR J)))))))),?_⟩⟩
 dsimp only[aX];refine{1,λc dq bo hdq c1=>{c,dq,wd,J,af,λhw=>?_,λhw=>absurd bz hw}};intro ta sa O S H1 D fr k1;let s1:aj H H1:=eG bo hdq k1;let a1:Alv (p::foot c ta sa [O] [S]) H1:=Alv.cons (λa ha=>by let⟨o,e⟩:=D.here a ha;rw[e];simp)<|s1 _ _ hp;let aS:∀ b∈foot c ta sa [O] [S],H b=Z0:=λb L=>by
  simp only[foot,List.mem_cons,List.mem_append,List.not_mem_nil,or_false] at L;let z:b=c∨b∈[ta,sa,O,S]:=by simp only[List.mem_cons,List.not_mem_nil,or_false];grind
  rcases z with z|z
  .rw[z];exact bo
  .exact(aR (aR<|fr b z).1).1
 let n1:(p::foot c ta sa [O] [S]).Nodup:=ajg.mpr {λz=>(by let:=aS p z;rw[hp] at this;cases this),D.nd};exists J,1,p,av,dx,1,s1 _ _ hp,T.bu,T.eV,(by show 0<1000;decide);exists 2,p,av,dx,1,af,T.bu,T.mw,(by show 1<1000;decide);exists 2,p,av,dx,1,af,T.bu,T.mH,(by show 2<1000;decide);exists 2,p,av,dx,1,af,T.bu,T.m6,(by show 3<1000;decide);rw[dQ,dQ,dQ];let p2:Z9 H1 p (.ins av dx [("days",.ref c),("rule",B),("seek",r),("each",C)]) p=some (.ins av dx [("days",.ref c),("rule",B),("seek",r),("each",C)]):=af;let r2:∀b o,H1 b=some o->b≠p->Z9 H1 p (.ins av dx [("days",.ref c),("rule",B),("seek",r),("each",C)]) b=some o:=λb o e n=>by rwa[ak n]
 let a2:Alv _ (Z9 H1 p (.ins av dx [("days",.ref c),("rule",B),("seek",r),("each",C)])):=a1.mv xT;change nV _ _ _ _ (Z9 H1 p<|.ins av dx [("days",.ref c),("rule",B),("seek",r),("each",C)]);generalize Z9 H1 p (.ins av dx [("days",.ref c),("rule",B),("seek",r),("each",C)])=H2 at p2 r2 a2 ⊢;refine λx c0 hx bg c5=>{x,c0,J,af,λd H3 hX hd k3=>{J,?_}}
 let s3:aj H2 H3:=eG hx bg k3;let bj:=(aR (aR hd).1).1;let⟨sx,g1,g2⟩:=id hX;let n3:(d::x::p::foot c ta sa [O] [S]).Nodup:=ajg.mpr {λz=>(aiV.mp z).elim (λz=>(aR hd).2 z) λz=>a2.new bj z,ajg.mpr {a2.new hx,n1}};let a3:=((a2.mv<|mC s3).cons g1).cons g2;refine λy bw hy bn c2=>{y,bw,J,af,λY H4 hY bt k4=>{J,?_}}
 let s4:aj H3 H4:=eG hy bn k4;let an:=(aR (aR bt).1).1;let⟨sy,g3,g4⟩:=id hY;let n4:(Y::y::d::x::p::foot c ta sa [O] [S]).Nodup:=ajg.mpr {λz=>(aiV.mp z).elim (λz=>(aR bt).2 z) λz=>a3.new an z,ajg.mpr {a3.new hy,n3}};let a4:=((a3.mv<|mC s4).cons g3).cons g4;refine λz bE hz ba c8=>{z,bE,J,af,λdz H5 hZ bv k5=>{J,?_}}
 let s5:aj H4 H5:=eG hz ba k5;let am:=(aR (aR bv).1).1;let⟨sz,g5,g6⟩:=id hZ;let n5:(dz::z::Y::y::d::x::p::foot c ta sa [O] [S]).Nodup:=ajg.mpr {λz=>(aiV.mp z).elim (λz=>(aR bv).2 z) λz=>a4.new am z,ajg.mpr {a4.new hz,n4}};let a5:=((a4.mv<|mC s5).cons g5).cons g6;refine{E1,λl a9=>?_};let n6:(l::dz::z::Y::y::d::x::p::foot c ta sa [O] [S]).Nodup:=ajg.mpr {a5.new a9,n5};let p5:=s5 _ _<|s4 _ _<|s3 _ _ p2;exists 1,p,av,dx,1,aj.new a9 _ _ p5,T.bu,T.dS,(by show 4<1000;decide);let nb:∀{b:jl},b∈(l::dz::z::Y::y::d::x::p::foot c ta sa [O] [S])->b∉[p]->b≠p:=λ_ h=>by simpa using h
 let r6:∀b o,H5 b=some o->b≠p->Z9 (Z9 H5 l (.lst [.ref x,.ref y,.ref z])) p (.ins av dx [("days",.ref c),("rule",B),("seek",r),("each",C),("shelves",.ref l)]) b=some o:=λb o e n=>by rw[ak n];exact aj.new a9 _ _ e
 let bd:l≠p:=λz=>by rw[z,p5] at a9;cases a9
 let h6:Z9 (Z9 H5 l (.lst [.ref x,.ref y,.ref z])) p (.ins av dx [("days",.ref c),("rule",B),("seek",r),("each",C),("shelves",.ref l)]) l=some (.lst [.ref x,.ref y,.ref z]):=by rw[ak bd,af]
 let p6:Z9 (Z9 H5 l (.lst [.ref x,.ref y,.ref z])) p (.ins av dx [("days",.ref c),("rule",B),("seek",r),("each",C),("shelves",.ref l)]) p=some (.ins av dx [("days",.ref c),("rule",B),("seek",r),("each",C),("shelves",.ref l)]):=af;let a6:=((a5.mv<|mC<|aj.new a9 (o:=.lst [.ref x,.ref y,.ref z])).mv<|xT (p:=p) (o:=.ins av dx [("days",.ref c),("rule",B),("seek",r),("each",C),("shelves",.ref l)])).cons h6;change nV _ _ _ _ (Z9 (Z9 H5 l<|.lst [.ref x,.ref y,.ref z]) p<|.ins av dx [("days",.ref c),("rule",B),("seek",r),("each",C),("shelves",.ref l)]);generalize Z9 (Z9 H5 l (.lst [.ref x,.ref y,.ref z])) p (.ins av dx [("days",.ref c),("rule",B),("seek",r),("each",C),("shelves",.ref l)])=H6 at r6 h6 p6 a6 ⊢;refine{ajb _,λq U=>{1,p,av,dx,1,aj.new U _ _ p6,T.bu,T.gz,(by show 5<1000;decide),?_}};let n7:(q::l::dz::z::Y::y::d::x::p::foot c ta sa [O] [S]).Nodup:=ajg.mpr {a6.new U,n6};let s7:aj H6 (Z9 H6 q (.lst [])):=aj.new U;let h7:Z9 H6 q (.lst []) q=some (.lst []):=af;let bc:q≠p:=λz=>by rw[z,p6] at U;cases U
 let a7:=(a6.mv<|mC s7).cons h7;let p7:=s7 _ _ p6;generalize Z9 H6 q (.lst [])=H7 at s7 h7 a7 p7 ⊢;let a8:=a7.mv<|xT (p:=p) (o:=.ins av dx [("days",.ref c),("rule",B),("seek",r),("each",C),("shelves",.ref l),("noted",.ref q)]);refine{E1,λdl al=>{1,p,av,dx,1,aj.new al _ _ af,T.bu,T.gc,(by show 6<1000;decide),?_}};let n8:(dl::q::l::dz::z::Y::y::d::x::p::foot c ta sa [O] [S]).Nodup:=ajg.mpr {a8.new al,n7};let ar:=(aR al).1;let bp:=(aR al).2;dsimp only;let r9:∀b o,H7 b=some o->b≠p->Z9 (Z9 (Z9 H7 p (.ins av dx [("days",.ref c),("rule",B),("seek",r),("each",C),("shelves",.ref l),("noted",.ref q)])) dl (.lst [.int 0,.int 0,.int 0])) p (.ins av dx [("days",.ref c),("rule",B),("seek",r),("each",C),("shelves",.ref l),("noted",.ref q),("done",.ref dl)]) b=some o:=λb o e n=>by rwa[ak n,ak<|ao e ar,ak n]
 let p9:Z9 (Z9 (Z9 H7 p (.ins av dx [("days",.ref c),("rule",B),("seek",r),("each",C),("shelves",.ref l),("noted",.ref q)])) dl (.lst [.int 0,.int 0,.int 0])) p (.ins av dx [("days",.ref c),("rule",B),("seek",r),("each",C),("shelves",.ref l),("noted",.ref q),("done",.ref dl)]) p=some (.ins av dx [("days",.ref c),("rule",B),("seek",r),("each",C),("shelves",.ref l),("noted",.ref q),("done",.ref dl)]):=af;let h9:Z9 (Z9 (Z9 H7 p (.ins av dx [("days",.ref c),("rule",B),("seek",r),("each",C),("shelves",.ref l),("noted",.ref q)])) dl (.lst [.int 0,.int 0,.int 0])) p (.ins av dx [("days",.ref c),("rule",B),("seek",r),("each",C),("shelves",.ref l),("noted",.ref q),("done",.ref dl)]) dl=some (.lst [.int 0,.int 0,.int 0]):=by rw[ak bp,af]
 change YW _ _ _ _ _ _ (Z9 (Z9 (Z9 H7 p<|.ins av dx [("days",.ref c),("rule",B),("seek",r),("each",C),("shelves",.ref l),("noted",.ref q)]) dl<|.lst [.int 0,.int 0,.int 0]) p<|.ins av dx [("days",.ref c),("rule",B),("seek",r),("each",C),("shelves",.ref l),("noted",.ref q),("done",.ref dl)]);generalize Z9 (Z9 (Z9 H7 p (.ins av dx [("days",.ref c),("rule",B),("seek",r),("each",C),("shelves",.ref l),("noted",.ref q)])) dl (.lst [.int 0,.int 0,.int 0])) p (.ins av dx [("days",.ref c),("rule",B),("seek",r),("each",C),("shelves",.ref l),("noted",.ref q),("done",.ref dl)])=H9 at r9 p9 h9 ⊢;refine λg ac=>{1,p,av,dx,1,aj.new ac _ _ p9,T.bu,T.kP,(by show 7<1000;decide),?_}
 let ae:∀b o,H9 b=some o->b≠p->Z9 (Z9 H9 g (.dK [])) p (.ins av dx (stF c l q dl g B r C)) b=some o:=λb o e n=>by rw[ak n];exact aj.new ac _ _ e
 let bl:Z9 (Z9 H9 g (.dK [])) p (.ins av dx (stF c l q dl g B r C)) p=some (.ins av dx (stF c l q dl g B r C)):=af;let bQ:g∉dl::q::l::dz::z::Y::y::d::x::p::foot c ta sa [O] [S]:=λL=>by
  let as:∀o,H9 g=some o->False:=λo e=>by rw[ac] at e;cases e
  rcases aiV.mp L with e|L
  .exact as _ (by rwa[e])
  .by_cases ep:g=p
   .exact as _ (by rwa[ep])
   .cases e7:H7 g with
    |none=>exact a7 g L e7
    |some o=>exact as _<|r9 _ _ e7 ep
 let ag:g≠p:=λz=>by rw[z,p9] at ac;cases ac
 let bb:Z9 (Z9 H9 g (.dK [])) p (.ins av dx (stF c l q dl g B r C)) g=some (.dK []):=by rw[ak ag,af]
 let be:H g=Z0:=by
  cases e:H g with
  |none=>rfl
  |some o=>have:=r9 _ _ (s7 _ _<|r6 _ _ (s5 _ _<|s4 _ _<|s3 _ _<|r2 _ _ (s1 _ _ e) ag) ag) ag;rw[ac] at this;cases this
 show Q .non (Z9 (Z9 H9 g<|.dK []) p<|.ins av dx<|stF c l q dl g B r C);generalize Z9 (Z9 H9 g (.dK [])) p (.ins av dx (stF c l q dl g B r C))=ab at ae bl bb ⊢;clear nb;let bm:ab g=some (.dK []):=bb;let r7:∀b o,H6 b=some o->b≠p->ab b=some o:=λb o e n=>ae _ _ (r9 _ _ (s7 _ _ e) n) n
 let r5:∀b o,H5 b=some o->b≠p->ab b=some o:=λb o e n=>r7 _ _ (r6 _ _ e n) n
 let r1:∀b o,H1 b=some o->b≠p->ab b=some o:=λb o e n=>r5 _ _ (s5 _ _<|s4 _ _<|s3 _ _<|r2 _ _ e n) n
 let bN:bJ aA ab c ta sa [O] [S] wd.toNat [List.replicate wd.toNat 0] [[]]:=D.mono λb L o e=>r1 b o e λz=>by let:=aS b L;rw[z,hp] at this;cases this
 let ax:∀ b∈[dl,q,l,dz,z,Y,y,d,x,p],b∉foot c ta sa [O] [S]:=λb L hf=>by let:=(amb.mp (show([dl,q,l,dz,z,Y,y,d,x,p]++foot c ta sa [O] [S]).Nodup from n8)).2.2 b L b hf;exact this J
 let aw:[dl,q,l,dz,z,Y,y,d,x,p].Nodup:=(amb.mp (show([dl,q,l,dz,z,Y,y,d,x,p]++foot c ta sa [O] [S]).Nodup from n8)).1;clear n8 n7 n6 n5 n4 n3;let a0:∀ b∈[dl,q,l,dz,z,Y,y,d,x],b≠p:=λb L e=>aaZ aw 9 L (by simp[e])
 let bi:∀ b∈[p,l,y,Y,z,dz,q,dl,x,d]++foot c ta sa [O] [S],b=p∨H b=Z0:=λb L=>by
  rcases aiX.mp L with L|L
  .by_cases e:b=p
   .exact .inl e
   refine .inr ?_;let f1:∀b,b≠p->H2 b=Z0->H b=Z0:=λb n h=>by
    cases e:H b with
    |none=>rfl
    |some o=>rw[r2 _ _ (s1 _ _ e) n] at h;cases h
   let f5:∀b,b≠p->H5 b=Z0->H b=Z0:=λb n h=>f1 b n<|(s3.trans<|s4.trans s5).free h
   let f7:∀b,b≠p->H7 b=Z0->H b=Z0:=λb n h=>f5 b n (by
    cases e:H5 b with
    |none=>rfl
    |some o=>rw[s7 _ _<|r6 _ _ e n] at h;cases h)
   simp only[List.mem_cons,List.not_mem_nil,or_false] at L;rcases L with rfl|rfl|rfl|rfl|rfl|rfl|rfl|rfl|rfl|rfl
   .exact absurd J e
   .exact f5 _ e a9
   .exact f1 _ e (s3.free hy)
   .exact f1 _ e (s3.free an)
   .exact f1 _ e ((s3.trans s4).free hz)
   .exact f1 _ e ((s3.trans s4).free am)
   .exact f5 _ e (by cases e2:H5 b with
    |none=>rfl
    |some o=>rw[r6 _ _ e2 e] at U;cases U)
   .exact f7 _ e ar
   .exact f1 _ e hx
   .exact f1 _ e bj
  .exact .inr (aS b L)
 refine q1 {p,c,l,q,dl,g,λi=>if i=0 then x else if i=1 then y else z,λi=>if i=0 then d else if i=1 then Y else dz,ta,sa,[O],[S],B,r,C,[],λ_=>0} ab J (λ_=>rfl) (λCW CG=>{⟨dx,bl⟩,r7 _ _ h6<|a0 _ o8,bN,ae _ _ (r9 _ _ h7 bc) bc,J,(λk u e=>by simp at e),ae _ _ h9 bp,λi hi=>{{[],?_,jN.nil,ajb _},λm u e=>by cases e},λi hi m=>{(λe=>by cases e),λe=>by let:=e.1;let:=e.2;simp at this;omega},λi hi=>aiK _,ajb _,(by show 1≤100;omega),?_,?_,?_,?_,?_}) bm (λL=>?_) (λb L=>?_) λb o e L=>r1 b o (s1 b o e) (⇑L)
 .exact Bm (P:=λi=>iT aD ab (if i=0 then x else if i=1 then y else z) (if i=0 then d else if i=1 then Y else dz) ((0:Z5):Z4) []) {sx,r5 _ _ (s5 _ _<|s4 _ _ g1)<|a0 _ o8,r5 _ _ (s5 _ _<|s4 _ _ g2)<|a0 _ o8} {sy,r5 _ _ (s5 _ _ g3)<|a0 _ o8,r5 _ _ (s5 _ _ g4)<|a0 _ o8} {sz,r5 _ _ g5<|a0 _ o8,r5 _ _ g6<|a0 _ o8} hi
 .exact{D.w2,λxs hx=>by rw[ai6.mp hx];exact{o8,λx h=>by cases h}}
 .intro t ht;rw[ai6.mp ht];exact{ajV,λv hv=>by rw[(List.mem_replicate.mp hv).2];exact ajL _}
 .simp only[List.nodup_cons,List.mem_cons,not_or,List.not_mem_nil,not_false_eq_true,List.nodup_nil,and_true] at aw;grind
 .simp only[List.nodup_cons,List.mem_cons,not_or,List.not_mem_nil,not_false_eq_true,List.nodup_nil,and_true] at aw;intro i j hi hj c4;grind
 .intro b L;refine ax b ?_;simp[SAd.sm] at L ⊢;grind
 .refine bQ ?_;simp[SAd.sm,SAd.ft] at L ⊢;grind
 .rcases aiV.mp L with z|L
  .exact .inr (by rwa[z])
  .refine bi b ?_;simp[SAd.sm,SAd.ft] at L ⊢;grind
variable(g9:dM av "passes" 5 ["self","changes"] (nZ av aA))
include T g9 in
theorem F4{f:jl}{fd:q9}(F:Fun K "on_day" "on_day" tY f fd):⋯ 11 f fd ["store","changes"] (kE av aA aD aG):=by
 refine F.okY Fg ?_;rintro vs H Q E ⟨Z,wd,C2,C3,us,M,l,g,rfl,h,⟨L,B,Y⟩,u,a0,y,o,q1⟩;refine{J,λO A outer s U=>{_,(aq<|aJ<|bF eX o9 T.ny ajJ<|aa (bM (pv 0) T.bu g9 az (U.mono o7)<|aa (pv 1) ah) ah),?_}};let⟨dx,h1⟩:=id h.st;refine{1,Z.p,dx,1,h1,i7 o4,1,Z.p,Z.q,Z.sl,Z.nl,Z.dl,Z.se,Z.ta,Z.sa,l,Z.TL,Z.SL,wd,C2,C3,Z.rl,Z.sk,Z.ea,L,g,J,⟨dx,h1⟩,h.D,B,Y,o6,o6,y,o,λm d H' e b z r v k=>?_};exists ↥C2.length,J,vN o6 o6;let n:=qB o;let C:=h.T e<|aiQ b;let i:∀ c∈g,0≤c.1/\c.1 <↥wd/\0≤c.2:=λc i=>by
  let:=n c i;unfold gh at this;split at this
  .cases this
  .split at this
   .cases this
   .omega
 refine q1 m d H' e (h.day z k r v o6 ?_ λt b=>?_) r v k
 .exact⟨h.S.most,λxs a=>by
   rcases aiX.mp a with a|a
   .exact h.S.day xs a
   .rw[ai6.mp a];refine{by simp;omega,λx a=>?_};let⟨c,j,rfl⟩:=ajd.mp a;exact{(i c j).1,(i c j).2.1}⟩
 .rcases aiX.mp b with b|b
  .exact h.T t b
  .rw[ai6.mp b];exact Dt C λc j=>(i c j).2.2
variable(jC:dM av "keep" 10 ["self","word"] (vf av aA aD aG))
include T jC in
theorem D6{f:jl}{fd:q9}(F:Fun K "on_keep" "on_keep" rK f fd):⋯ 11 f fd ["store","words"] (jL av aA aD aG):=by refine F.okY DR ?_;rintro vs H Q E ⟨Z,wd,C2,C3,us,M,l,rfl,c,h,b,a,q1⟩;refine{J,λg A outer s e=>{_,(aq<|aJ<|bF eX o9 T.ny ajJ<|aa (bM (pv 0) T.bu jC az (e.mono o7)<|aa (aQ aT (pv 1) au λ_ _=>rfl) ah) ah),?_}};dsimp only[aX];let⟨dx,h1⟩:=id h.st;exact{1,Z.p,dx,1,h1,i7 o4,1,l,_,_,V.str "whole",J,J,X0.of c,bx (j:=0) J,Z,wd,C2,C3,us,M,J,h,b,a,λt u i H' m k=>{↥us.length,J,vN o6 o6,q1 t u i H' m k}}
variable(iX:bh "listed" 1 ["things"] pC)
variable(iM:dM av "marks" 1 ["self"] (uf av))
include T iX iM in
theorem BH{f:jl}{fd:q9}(F:Fun K "on_marks" "on_marks" pN f fd):⋯ 11 f fd ["store","numbers"] (iC av aA aD aG):=by refine F.okY BS ?_;rintro vs H Q E ⟨Z,wd,C2,C3,us,M,l,rfl,h,q⟩;refine{J,λe A outer s a=>{_,(aq<|aJ<|pcS iX az a<|aa (rC (pv 0) T.bu iM az<|a.mono o7) ah),?_}};let⟨dx,h1⟩:=id h.st;let g:=h.n61;refine{1,Z.p,dx,1,h1,i7 o4,Z.p,Z.q,Z.sl,Z.nl,Z.dl,Z.se,Z.rl,Z.sk,Z.ea,1,⟨dx,h1⟩,h.dl,by show 3≤1000;decide,λt c=>?_};refine{t,(l3 λi=>(Z.n i:Z4)).map Z8,J,af,by simp[l3],by show 3≤10;decide,λx b=>?_,λH' s=>q H'<|(aj.new c).trans s};let⟨n,hn,rfl⟩:=ajd.mp b;let j:=h.nle 0 o7;let o:=h.nle 1 o7;let m:=h.nle 2 o7;refine .inr {n,J,?_};simp only[l3,List.mem_cons,List.not_mem_nil,or_false] at hn;rcases hn with rfl|rfl|rfl <;> omega
include T in
theorem GH{f:jl}{fd:q9}(F:Fun K "listed" "listed" ug f fd):⋯ 1 f fd ["things"] (pC):=by
 refine F.okY Fl ?_;rintro vs H Q E ⟨t,xs,rfl,l,j,h10,m,q⟩;refine{J,λB A outer s O=>{_,(aq<|aJ<|uQ (aC bL (aL aK o9 T.bE aiT<|aa (pv 0) ah) au<|aH _) aN<|cK ajG alE alF xg aN<|aa (dg (N:=["thing"]) (k:=1) (cap:=[]) J J (wg<|pv 0) (λ_ _ _ _=>(pgN 0 (show(["thing"]:fy Z6).Nodup from by decide +kernel)<|.inr J)) (λ_ _ _ _=>cj) λ_ _ _ _=>(bF zY o9 T.ny ajJ<|aa (pv 0) ah)) ah),?_}};dsimp only[aX];refine{1,t,1,.inr<|X3.of l,J,1,cS (λh=>j (by let:=V.int.inj h;simpa using this)) ?_};refine{J,1,t,J,{_,X3.of l},λD p=>?_};refine pq D (K:=K) (a:=t) (xs:=xs) (λi σ c ys=>∃(v:nt V),σ=[v]/\aj H c/\c D=some (.lst ys)/\ys =((xs.take i).map shT).map V.str) {Z0,J,aj.new p,af,o8} (λi σ c ys _ y=>by let⟨_,_,s5,_⟩:=y;exact X3.of<|s5 t _ l) ?_ ?_
 .rintro i x σ c ys hi ⟨v,rfl,s5,g,rfl⟩;let L:=(aiH.mp hi).1;let fin:c D=some (.lst (((xs.take i).map shT).map V.str))/\(((xs.take i).map shT).map V.str).length<Z7/\∃w,[some x]=[w]/\aj H (Z9 c D (.lst (((xs.take i).map shT).map V.str++[.str (shT x)])))/\Z9 c D (.lst (((xs.take i).map shT).map V.str++[.str (shT x)])) D=some (.lst (((xs.take i).map shT).map V.str++[.str (shT x)]))/\((xs.take i).map shT).map V.str++[.str (shT x)] =((xs.take (i+1)).map shT).map V.str:=by
   exists g,by rw[aiE,aiE,aiU];exact aF o6,1,λb o e=>?_,af
   .rw[ak<|ao e p];exact s5 b _ e
   .rw[aiZ,hi];simp
  rcases m x (aiQ hi) with⟨z,rfl,_⟩|⟨n,rfl,h0,h1⟩
  .exact{2,.inl ⟨z,J,fin⟩}
  .exact{2,.inr {n,J,LA h0 h1,fin}}
 .rintro σ c ys ⟨v,rfl,s5,g,rfl⟩;rw[ai7] at g;refine{_,D,xs.map shT,J,J,X0.of g,?_,q c s5};let u:=mG (n:=60) (ws:=xs.map shT) λw C=>by let⟨x,r,rfl⟩:=ajd.mp C;exact QE<|m x r
  rw[aiE] at u ⊢;let:(Str.ofString " ").length=1:=by decide +kernel
  rw[this];omega
variable(m7:bh "task_of" 6 ["days","begin","weights","rates"] (p8 aA aI))
variable(kj:bh "best_plan" 6 ["task"] (uv aI))
include T iX m7 kj in
theorem DN{f:jl}{fd:q9}(F:Fun K "on_plan" "on_plan" rE f fd):⋯ 11 f fd ["store","numbers"] (jo av aA aD aG aI):=by
 refine F.okY pX ?_;rintro vs H Q E ⟨Z,wd,C2,C3,us,M,l,b,r0,r1,r2,r3,C0,rfl,z,h,n1,n7,B,Y,u,q⟩;refine⟨J,λa3 A outer s L=>⟨_,(ai (psS 2 pX.nd<|pcS m7 az L<|aa (aZ (pv 0) J)<|aa (aQ aT (pv 1) au λ_ _=>rfl)<|aa (dY fY (pv 1) (dw au) ic)<|aa (dY fY (pv 1) (dw au)<|dw au) ah)
   (ai (psS 3 pX.nd<|pcS kj az L<|aa (pv 2) ah)
   (aq<|aJ<|pcS iX az L<|aa (aB (Cv (K:=K) J) (aQ bX (pv 3) au λ_ _=>rfl)<|eW<|aa (aQ bX (pv 3) au λ_ _=>rfl) ah) ah))),?_⟩⟩
 dsimp only[aX];let⟨dx,h1⟩:=id h.st;refine{1,Z.p,av,dx,_,1,h1,T.bu,T.eV,sR,1,l,_,_,V.int b,J,J,X0.of z,bx (j:=0) J,2,l,1,X0.of z,λg r=>?_};let c1:cT ((b::r0::r1::r2::r3::C0).map Z8) (some 5) Z0=C0.map Z8:=by simp[cT,HT.sIx];exact ajA o8
 let c2:cT ((b::r0::r1::r2::r3::C0).map Z8) (some 1) (some 5)=[r0,r1,r2,r3].map Z8:=by simp[cT,HT.sIx]
 rw[c1];let s1:=aj.new r (o:=.lst<|C0.map Z8);let e1:Z9 H g (.lst (C0.map Z8)) g=some (.lst (C0.map Z8)):=af;generalize Z9 H g (.lst (C0.map Z8))=H1 at s1 e1 ⊢;refine{2,1,l,1,X0.of<|s1 _ _ z,λn a=>?_};rw[c2];let s2:=s1.trans<|aj.new a (o:=.lst<|[r0,r1,r2,r3].map Z8);let e2:Z9 H1 n (.lst ([r0,r1,r2,r3].map Z8)) n=some (.lst ([r0,r1,r2,r3].map Z8)):=af;let c:=aj.new a (o:=.lst<|[r0,r1,r2,r3].map Z8) _ _ e1;generalize Z9 H1 n (.lst ([r0,r1,r2,r3].map Z8))=H2 at s2 e2 c ⊢;refine{Z.q,g,n,wd,C2,C3,b,C0,[r0,r1,r2,r3],J,h.Vb.keep s2,c,e2,n1,n7,(by show 4≤7;decide),B,Y,λp C1 H3 hT hn hz s3=>?_};refine aU [t8 Z.p,t8 l,t8 p,Z0] ?_;dsimp only;let C:Fit C1 C0 r0 r1 r2 r3:=abD h.S hn n7 hz u;refine{1,p,C1,C0,r0,r1,r2,r3,J,hT,C,λt bt ll LL lv x H4 ht U a2 a5 a4 hv a0 s4=>?_};refine aU [t8 Z.p,t8 l,t8 p,t8 t] ?_;dsimp only;let m:=Dc C hv;refine{1,t,_,_,.ref bt,J,J,X3.of ht,J,1,t,_,_,.int x.2,J,J,X3.of ht,J,v8,λi O=>?_};let s5:=aj.new O (o:=.tup [.int x.2]);let e5:Z9 H4 i (.tup [.int x.2]) i=some (.tup [.int x.2]):=af;generalize Z9 H4 i (.tup [.int x.2])=H5 at s5 e5 ⊢;let a1:=m.len;refine{bt,i,3,X3.of<|s5 _ _ U,e5,o8,ajr<|aF (by simp;omega),λp2 H6 v s6=>?_};refine{p2,1,v,o8,by simp;omega,λy e=>?_,λH' s7=>?_}
 .rcases aiX.mp e with e|e
  .let⟨w,hw,rfl⟩:=ajd.mp e;exact .inl {w,J,by rcases m.nx.wd w hw with rfl|rfl|rfl|rfl <;> decide +kernel}
  .exact .inr {x.2,ai6.mp e,m.n0,m.n60}
 .let e6:((x.1.map V.str++[V.int x.2]).map shT)=x.1++[bH x.2]:=by rw[aja,ako];congr 1;exact(ake λw _=>rfl).trans (List.map_id _)
  rw[e6];exact q x H' ⟨C1,lv,C,hn,hz,hv⟩<|s2.trans<|s3.trans<|s4.trans<|s5.trans<|s6.trans s7
include T in
theorem qE{f:jl}{fd:q9}(F:Fun K "__init__" "LastFew.__init__" gR f fd):⋯ 1 f fd ["self","many"] (uA bO):=by
 refine F.okY qG ?_;rintro vs H Q E ⟨p,dx,m,rfl,a,c,q⟩;refine⟨J,λb A outer s e=>⟨_,(ai (aV (aC kh (pv 1) au<|aH _) (aq cA) aP)
   (aq<|bV (pv 0) (pv 1) J)),?_⟩⟩
 dsimp only[aX];refine{1,3,1,cS o6 ?_};exists 2,p,bO,dx,[],J,a,T.Ey,T.jY,(by show 0<1000;decide);exact q _ (cZ aW.refl<|.inl o8) {_,af}
variable(ni:kG "LastFew" bO 1 ["self","many"] (uA bO))
include T fM ni in
theorem vI{f:jl}{fd:q9}(F:Fun K "rule_of_part" "rule_of_part" j3 f fd):⋯ 5 f fd ["part"] (mz):=by
 refine F.okY jm ?_;rintro vs H Q E ⟨z,rfl,hz,q⟩;refine⟨J,λa2 A outer s hr=>⟨_,(ai (psS 1 jm.nd<|cK ajG akh aki lY (pv 0)<|aa aN ah)
   (ai (F9 (λpn xe E Y=>(aq<|gY (i:=2) jm.nd J (Or.inl J) (N:=["word"]) (k:=1) (cap:=[]) J J (cg<|dY fY (pv 1) (dw au) ic) (λ_ _ _ _=>(pgN 0 (show(["word"]:fy Z6).Nodup from by decide +kernel)<|.inr J)) (λ_ _ _ _=>cj) λ_ _ _ _=>(pcS fM az hr<|aa (pv 0) ah))) AA J J)
   (ai (aV (PW.pt<|pw_and (aC bL (aQ aT (pv 1) au λ_ _=>rfl) aN<|aH _)<|pw_and1<|aC bL (aL aK o9 T.bE aiT<|aa (pv 2) ah) au<|aH _) (aq<|aJ<|iR ni az (hr.mono o7) J<|aa (aQ aT (pv 2) au λ_ _=>rfl) ah) aP)
   (ai (aV (PW.pt<|pw_and (aC bL (aQ aT (pv 1) au λ_ _=>rfl) aN<|aH _)<|pw_and1<|aC bL (aL aK o9 T.bE aiT<|aa (pv 2) ah) au<|aH _) (aq cA) aP)
   (ai (aV (PW.pt<|pw_and (aC bL (aQ aT (pv 1) au λ_ _=>rfl) aN<|aH _)<|pw_and1<|aC bL (aL aK o9 T.bE aiT<|aa (pv 2) ah) au<|aH _) (aq cA) aP)
   (ai (aV (PW.pt<|pw_and (aC bL (aQ aT (pv 1) au λ_ _=>rfl) aN<|aH _)<|pw_and1<|aC bL (aL aK o9 T.bE aiT<|aa (pv 2) ah) au<|aH _) (aq cA) aP)
   (ai (aV (PW.pt<|pw_and (aC bL (aQ aT (pv 1) au λ_ _=>rfl) aN<|aH _)<|pw_and1<|aC jz (aL aK o9 T.bE aiT<|aa (pv 2) ah) au<|aH _) (aq cA) aP)
   (aq cA)))))))),?_⟩⟩
 dsimp only[aX];obtain⟨g,ws,U,e1,e2,L,S⟩:∃(g:Z6)(ws:fy Z6),Txt.split z (Str.ofString " ")=g::ws/\g = "last"/\ws=[Str.ofString "1"]/\(∀ w∈ws,okW w=Z1)/\z.length≤100000:=by rw[hz];exact{"last",["1"],o4,J,J,o4,o4}
 let a0:ws.length=1:=by rw[e2];rfl
 refine{1,J,z,Str.ofString " ",J,J,o4,S,λp hp=>?_};rw[U];let h:Z9 H p (.lst ((g::ws).map V.str)) p=some (.lst ((g::ws).map V.str)):=af;let s0:aj H (Z9 H p (.lst ((g::ws).map V.str))):=aj.new hp;generalize Z9 H p (.lst ((g::ws).map V.str))=H0 at h s0 ⊢;refine aU [some<|.str z,t8 p,Z0] ?_;dsimp only;intro pn xe;refine{2,p,1,X0.of h,λr u=>?_};let hc:cT ((g::ws).map V.str) (some 1) Z0=ws.map V.str:=by simp[cT,HT.sIx];exact ajA o8
 rw[hc];let s1:aj H0 (Z9 H0 r (.lst (ws.map V.str))):=aj.new u;let l:Z9 H0 r (.lst (ws.map V.str)) r=some (.lst (ws.map V.str)):=af;generalize Z9 H0 r (.lst (ws.map V.str))=H1 at s1 l ⊢;refine{r,J,{_,X0.of l},λD hD=>?_};refine cR D (K:=K) (a:=r) (xs:=ws.map V.str) (λi σ n ys=>∃(v:nt V),σ=[v]/\aj H1 n/\n D=some (.lst ys)/\ys =(ws.take i).map λw=>V.int<|intOf w) {Z0,J,aj.new hD,af,o8} (λi σ n ys _ z0=>by let⟨_,_,s5,_⟩:=z0;exact X0.of<|s5 r _ l) ?_ ?_
 .rintro i x σ n ys hi ⟨v,rfl,s5,t,rfl⟩;obtain⟨y,m,rfl⟩:∃y,ws[i]?=some y/\V.str y=x:=by rw[aiR] at hi;let⟨c,h1,h2⟩:=ai9.mp hi;exact⟨c,h1,h2⟩
  refine{1,y,J,L y<|aiQ m,λH6 s6=>?_};exists s6 D _ t,by rw[aiE,aiU];exact aF o6,1,λb o e=>?_,af
  .rw[ak<|ao e hD];exact s6 b _<|s5 b _ e
  .rw[aiZ,m];simp
 rintro σ n ys ⟨v,rfl,s5,t,rfl⟩;rw[aiE,ai7,e2] at t;refine aU [some<|.str z,t8 p,t8 D] ?_;dsimp only;let B:=s0.trans<|s1.trans s5;let C:=s5 _ _<|s1 _ _ h;refine gB (λQb hq=>{1,p,_,_,V.str _,J,J,X0.of C,bx (j:=0) J,J,1,dZ (by rw[e1]) {1,D,1,.inl<|X0.of t,J,1,hq}}) ?_;exact{1,D,_,_,V.int<|intOf<|Str.ofString "1",J,J,X0.of t,bx (j:=0) J,λx dx Y O a1=>{x,dx,1,af,o4,λH' k a3=>{J,q x H'<|B.trans<|eG Y O k}}}
variable(oW:kG "AnyOf" cE 2 ["self","rules"] (uD cE))
variable(g7:bh "rule_of_part" 5 ["part"] mz)
include T oW g7 in
theorem EB{f:jl}{fd:q9}(F:Fun K "rule_of" "rule_of" qU f fd):⋯ 6 f fd ["text"] (mz):=by
 refine F.okY Dy ?_;rintro vs H Q E ⟨z,rfl,m,q⟩;refine⟨J,λU A outer s n=>⟨_,(ai (aV (aC bL (pv 0) aN<|aH _) (aq<|aJ<|iR oW az (n.mono o7) J<|aa (bI ah) ah) aP)
   (aq<|aJ<|iR oW az (n.mono o7) J<|aa (dg (N:=["part"]) (k:=1) (cap:=[]) J J (cg<|cK ajG akh aki lY (pv 0)<|aa aN ah) (λ_ _ _ _=>(pgN 0 (show(["part"]:fy Z6).Nodup from by decide +kernel)<|.inr J)) (λ_ _ _ _=>cj) λ_ _ _ _=>(pcS g7 az n<|aa (pv 0) ah)) ah)),?_⟩⟩
 dsimp only[aX];refine gK (λQb L=>{1,J,1,by rw[ai1 λh=>absurd (V.str.inj h) (by rw[m];decide +kernel)];exact L}) ?_;unfold qk;dsimp only;let l:Txt.split z (Str.ofString ", ")=[z]/\z.length≤100:=by rw[m];decide +kernel
 refine{1,J,z,Str.ofString ", ",J,J,o4,o6,λp Y=>?_};rw[l.1];let e:Z9 H p (.lst ([z].map V.str)) p=some (.lst ([z].map V.str)):=af;let B:aj H (Z9 H p (.lst ([z].map V.str))):=aj.new Y;generalize Z9 H p (.lst ([z].map V.str))=H0 at e B ⊢;refine{p,J,{_,X0.of e},λD y=>?_};refine cR D (K:=K) (a:=p) (xs:=[z].map V.str) (λi σ j ys=>∃(v:nt V),σ=[v]/\aj H0 j/\j D=some (.lst ys)/\ys.length=i) {Z0,J,aj.new y,af,J} (λi σ j ys _ O=>by let⟨_,_,s5,_⟩:=O;exact X0.of<|s5 p _ e) ?_ ?_
 .rintro i x σ j ys hi ⟨v,rfl,s5,r,c⟩;cases i with
  |succ i=>simp at hi
  |zero=>simp at hi;subst hi;refine{1,z,J,m,λa H6 s6=>{s6 D _ r,by rw[c];decide,1,λb o C=>?_,af,by simp[c]}};rw[ak<|ao C y];exact s6 b _<|s5 b _ C
 .rintro σ j ys ⟨v,rfl,s5,r,c⟩;let:ys.length=1:=c;refine λx dx u g S=>{x,dx,D,ys,J,af,eG u g aW.refl _ _ r,o6,λt H' _ k=>{J,q x H'<|B.trans<|s5.trans<|eG u g k}}
variable(sN:kG "Store" av 6 ["self","wide","rule","seek","each"] (qo av aA aD))
variable(nj:bh "rule_of" 6 ["text"] mz)
include T gx sN nj in
theorem uV{f:jl}{fd:q9}(F:Fun K "__init__" "Desk.__init__" jy f fd):⋯ 8 f fd ["self","wide","seek","each","rules"] (sC bG av aA aD):=by
 refine F.okY um ?_;rintro vs H Q E ⟨k,dx,wd,O,U,rfl,i,u,q⟩;refine⟨J,λY A outer s p=>⟨_,(ai (aY<|pcS gx az p<|aa (pv 1) ah)
   (aq<|bV (pv 0) (iR sN az (p.mono o7) J<|aa (pv 1)<|aa (pcS nj az p<|aa (pv 4) ah)<|aa (pv 2)<|aa (pv 3) ah) J)),?_⟩⟩
 dsimp only[aX];refine{1,wd,J,λ_=>?_,λz=>absurd u z};dsimp only;refine{2,1,J,λa H1 s1=>{2,λx t h m S=>{x,t,wd,.ref a,O,U,J,af,u,λA H2 L hn r B y j v=>{J,?_}}}};let s2:aj H1 H2:=eG h m v;let a0:x≠k:=λe=>by rw[e,s1 _ _ i] at h;cases h
 exists 1,k,bG,dx,[],J,s2 _ _<|s1 _ _ i,T.iZ,T.jh,(by show 0<1000;decide);let g:∀ b∈A.sm++A.ft,H b=Z0:=λb c=>by
  rcases j b (ai3 _ c) with e|e
  .rw[e];exact s1.free h
  .exact s1.free (aR (aR e).1).1
 let l:∀ b∈A.sm++A.ft,b∉[k]:=λb c n=>by let:=g b c;rw[ai6.mp n,i] at this;cases this
 let k3:aW [k] H2 (Z9 H2 k (.ins bG dx [("store",.ref x)])):=cZ aW.refl<|.inl o8;let C:cN H2 [k]:=λb c=>by rw[ai6.mp c];exact .inr<|.inr {_,_,_,s2 _ _<|s1 _ _ i,J}
 exact q A _ (by rw[af,L];rfl) hn (λCW=>(r CW CW).dU k3 C l) g λb o e c=>k3 b o (s2 _ _<|s1 _ _ e) c
variable(lC:bh "read_row" 4 ["row"] xC)
variable(jd:GDF P w K mg cB gq)
variable(jv:∀z,KnR z->∃n ps,(z,n)∈gq/\bh n 11 ps (kW av aA aD aG aI z))
include T lC jd jv in
theorem By{f:jl}{fd:q9}(F:Fun K "say" "Desk.say" pI f fd):⋯ 12 f fd ["self","row"] (jV bG av aA aD aG aI):=by
 refine F.okY tK ?_;rintro vs H Q E ⟨k,p,z,a,td,rfl,⟨dx,n⟩,h,g,i,q⟩;refine⟨J,λm A outer s c=>⟨_,(ai (psS 2 tK.nd<|pcS lC az c<|aa (pv 1) ah)
   (aq<|aJ<|HJ jd jv az (c.mono o7) (eL (v:=.ref cB) J T.DU J) (aQ bX (pv 2) au λ_ _=>rfl) (λ_ _=>rfl)<|aa (aZ (pv 0) J)<|aa (aQ bX (pv 2) au λ_ _=>rfl) ah)),?_⟩⟩
 dsimp only[aX];refine{1,z,a,td,J,h,g,λt l H1 b e j s1=>?_};refine aU [t8 k,some<|.str z,t8 t] ?_;dsimp only;exact{1,t,_,_,V.str a,J,J,X3.of b,J,a,J,i,1,k,bG,dx,_,1,s1 _ _ n,T.iZ,T.jh,J,1,t,_,_,.ref l,J,J,X3.of b,J,q l H1 e j s1 _}
variable(gW:dM aA "written" 4 ["self","one","other"] (pR aA))
include T gW in
theorem BK{f:jl}{fd:q9}(F:Fun K "sizes_of" "sizes_of" pQ f fd):⋯ 5 f fd ["days","begin","day"] (qj aA):=by
 refine F.okY BI ?_;rintro vs H Q E ⟨m,wd,C2,C3,C6,d,rfl,x,hd,a0,a2,q⟩;refine{J,λa1 A outer s C=>{_,(aq<|aJ<|aB oA (bI<|aa (aZ (pv 0) J) ah)<|dg (N:=["base","days","begin","day"]) (k:=1) (cap:=[0,1,2]) J J (eE J T.eN<|aa (pv 2) ah) (λ_ _ _ _=>(pgN 0 (show(["base","days","begin","day"]:fy Z6).Nodup from by decide +kernel)<|.inr J)) (λ_ _ _ _=>cj) λ_ _ _ _=>(aL (yX (K:=K) J) o9 T.bE aiT<|aa (bM (pv 1) T.bN gW az (C.mono o7)<|aa (aB bf (pv 2)<|pv 0)<|aa (aB bf (pv 2)<|pv 3) ah) ah)),?_}};dsimp only[aX];let⟨ta,sa,TL,SL,D⟩:=x.D;let⟨dx,Y⟩:=D.ob;let c:=x.n;refine{1,m,aA,dx,_,1,Y,T.bN,T.iE,Dq,v8,λl1 u=>?_};let s1:aj H (Z9 H l1 (.lst [V.int ↥wd])):=aj.new u;let h1:Z9 H l1 (.lst [V.int ↥wd]) l1=some (.lst ([↥wd].map Z8)):=af;generalize Z9 H l1 (.lst [V.int ↥wd])=H1 at s1 h1 ⊢;refine{1,↥d,J,o6,o6,λz g=>?_};rw[show(↥d).toNat=d by omega];refine lu (lo:=0) (n:=d) z (λi σ H2 ys=>∃(v:nt V)(ns:fy Z4),σ=[v,t8 m,t9 C6,t9 ↥d]/\aj H1 H2/\H2 z=some (.lst ys)/\ys=ns.map Z8/\ns.length=i/\∀b:Z5,b<i->∃n:Z5,ns[b]?=some ↥n/\WrN C3 (C6+b) (C6+d) n) {Z0,[],J,aj.new g,af,J,J,λb j=>absurd j<|akZ _} ?_ ?_
 .rintro i σ H2 ys hi ⟨v,ns,rfl,s2,h2,rfl,hn,y⟩;let U:=(D.same s1).same s2;let⟨t,p⟩:=U.ob
  repeat (first|refine{1,?_}|refine{3,?_}|refine{(by first|decide|(dsimp only;decide)|(show 2≤Z7;decide)|(show 1≤Z7;decide)|(show 3≤Z7;decide)|(show 4≤Z7;decide)),?_}|refine{.inl ⟨o5,o5⟩,?_}|refine{.inr ⟨o5,o5⟩,?_}|refine{⟨o5,o5⟩,?_}|refine{3,o5,?_}|refine{3,.inl ⟨o5,o5⟩,?_}|refine{3,.inr ⟨o5,o5⟩,?_}|refine{3,⟨o5,o5⟩,?_}|refine{J,?_}|exists _,1)
  exists m,t,1,p,lG o4 o4 o4 o4,2,3,2,3;refine{m,ta,sa,TL,SL,wd,C2,C3,C6 +(0 +↥i),C6 +↥d,J,U,x.S,c,λ_ _ r a H3 C nr L B s3=>?_,λd h=>by omega};refine{r,1,.inl<|X0.of C,s3 _ _ h2,by rw[aiE,hn];exact aF o6,_,ns++[((a.length:Z5):Z4)],J,λb o e=>?_,af,by rw[aja,aiE];rfl,by simp[hn],λb j=>?_}
  .rw[ak<|ao e g];exact s3 b o<|s2 b o e
  .by_cases eb:b=i
   .subst eb;refine{a.length,by rw[aiP o6,hn];simp,a,L,λk=>?_,J};rw[B k,show min (C6 +(0 +↥b)) (C6 +↥d)=C6+b by omega,show max (C6 +(0 +↥b)) (C6 +↥d)=C6+d by omega]
   .let⟨n,e1,e2⟩:=y b o6;exact{n,by rwa[aiM o6],e2}
 .rintro σ H2 ys ⟨v,ns,rfl,s2,h2,rfl,hn,y⟩;refine{l1,z,3,s2 _ _ h1,h2,by rw[aiE,aiE];exact ajr<|aF (by simp;omega),λl O=>?_};rw[←aja];exact q l _ _ af ((s1.trans s2).free O) {by simp[hn],J,λb j=>y b j}<|(s1.trans s2).trans<|aj.new O
variable(vq:kG "Task" aI 4 ["self","sizes","weights","rates"] (sr aI))
variable(lD:bh "sizes_of" 5 ["days","begin","day"] (qj aA))
include T bQ gy vq lD in
theorem DI{f:jl}{fd:q9}(F:Fun K "task_of" "task_of" rY f fd):⋯ 6 f fd ["days","begin","weights","rates"] (p8 aA aI):=by
 refine F.okY vH ?_;rintro vs H Q E ⟨B,L,ra,wd,C2,C3,C6,C0,C7,rfl,hD,j,a4,n1,n7,nr,Y,a8,q⟩;refine⟨J,λa7 A outer s O=>⟨_,(ai (aY<|pcS gy az O<|aa (aL aK o9 T.bE aiT<|aa (pv 2) ah) ah)
   (ai (cO ajc J (rL J T.eN<|aa (pv 1)<|aa (aB bf (pv 1)<|aL aK o9 T.bE aiT<|aa (pv 2) ah) ah) (pgN 4 vH.nd)
   (aq<|aY<|bM (pv 0) T.bN bQ az (O.mono o7)<|aa (pv 4) ah))
   (aq<|aJ<|iR vq az (O.mono o7) J<|aa (dg (N:=["day","days","begin"]) (k:=1) (cap:=[0,1]) J J (eE J T.eN<|aa (aL aK o9 T.bE aiT<|aa (pv 2) ah) ah) (λ_ _ _ _=>(pgN 0 (show(["day","days","begin"]:fy Z6).Nodup from by decide +kernel)<|.inr J)) (λ_ _ _ _=>cj) λ_ _ _ _=>(pcS lD az O<|aa (pv 1)<|aa (pv 2)<|aa (pv 0) ah))<|aa (pv 2)<|aa (pv 3) ah))),?_⟩⟩
 dsimp only[aX];let⟨ta,sa,TL,SL,D⟩:=hD.D;let⟨dx,ob⟩:=D.ob;exists 1,L,1,.inl<|X0.of j,↥C0.length,by rw[aiE],o6,o6;let a5:=hD.n;exists 2,1,L,1,.inl<|X0.of j,3,_,1,?_
 .rw[aiE];exact⟨o6,o6,o6,o6⟩
 rw[aiE];rw[show(C6 +↥C0.length-C6).toNat=C0.length by omega];refine fL (lo:=C6) (n:=C0.length) (λi σ H2=>∃S:nt V,σ=[t8 B,t9 C6,t8 L,t8 ra,S]/\H2=H) ⟨Z0,J,J⟩ ?_ ?_
 .rintro i σ H2 hi ⟨S,rfl,rfl⟩;refine{1,B,dx,1,ob,lG o4 o4 o4 o4,1,B,ta,sa,TL,SL,wd,C2,C3,C6 +↥i,J,D,λh=>{1,J},λh=>absurd o6 h}
 .rintro σ H2 ⟨S,rfl,rfl⟩;refine{1,L,1,.inl<|X0.of j,↥C0.length,by rw[aiE],o6,o6,λt C=>?_};rw[show(↥C0.length).toNat=C0.length by omega];refine lu (lo:=0) (n:=C0.length) t (λi σ m ys=>∃(v:nt V)(g:fy jl)(rows:fy (fy Z4)),σ=[v,t8 B,t9 C6]/\aj H2 m/\m t=some (.lst ys)/\ys=g.map V.ref/\Rows m g rows/\rows.length=i/\t∉g/\i8 wd C3 C6 rows) {Z0,[],[],J,aj.new C,af,J,{J,λi a xs e=>by cases e},J,o8,λd row e=>by simp at e} ?_ ?_
  .rintro i σ m ys hi ⟨v,g,rows,rfl,s3,h3,rfl,R,hn,p,hz⟩
   repeat (first|refine{1,?_}|refine{3,?_}|refine{(by first|decide|(dsimp only;decide)|(show 2≤Z7;decide)|(show 1≤Z7;decide)|(show 3≤Z7;decide)|(show 4≤Z7;decide)),?_}|refine{.inl ⟨o5,o5⟩,?_}|refine{.inr ⟨o5,o5⟩,?_}|refine{⟨o5,o5⟩,?_}|refine{3,o5,?_}|refine{3,.inl ⟨o5,o5⟩,?_}|refine{3,.inr ⟨o5,o5⟩,?_}|refine{3,⟨o5,o5⟩,?_}|refine{J,?_}|exists _,1)
   refine{B,wd,C2,C3,C6,i,by rw[amu],hD.keep s3,o6,Y,o6,λl ns H4 hl nl a3 s4=>?_};let u:t≠l:=ao h3 nl;let a1:g.length=i:=by rw[R.len,hn]
   refine{s4 _ _ h3,by rw[aiE,a1];exact aF o6,_,g++[l],rows++[ns],J,λb o e=>?_,af,o8,(R.mono λb hb o e=>?_).snoc ?_,by simp[hn],?_,λd row e=>?_}
   .rw[ak<|ao e C];exact s4 b o<|s3 b o e
   .rw[ak (show b≠t from λz=>p (by rwa[←z]))];exact s4 b o e
   .rw[ak u.symm];exact hl
   .simp only[List.mem_append,List.mem_singleton];rintro(z|z)
    .exact p z
    .exact u z
   .rcases II e with⟨_,e⟩|⟨rfl,rfl⟩
    .exact hz d row e
    .rw[hn];exact a3
  .rintro σ m ys ⟨v,g,rows,rfl,s3,h3,rfl,R,hn,p,hz⟩;refine{2,λx c hx a0 a6=>?_};let r:aj m (Z9 (Z9 m c (HO.own x)) x (HO.ins aI c [])):=λb o e=>by rwa[ak<|ao e hx,ak<|ao e a0]
   let y:Z9 (Z9 m c (HO.own x)) x (HO.ins aI c []) x=some (HO.ins aI c []):=af;generalize Z9 (Z9 m c (HO.own x)) x (HO.ins aI c [])=H4 at r y ⊢;let U:H2 x=Z0:=s3.free hx;refine{x,c,t,L,ra,g,rows,C0,C7,J,y,o6,o6,n7,nr,r _ _ h3,R.mono λb _ o e=>r b o e,r _ _<|s3 _ _ j,r _ _<|s3 _ _ a4,λH5 a2 k5=>{J,?_}};exact q x rows H5 a2 hn hz λb o e=>k5 b o (r b o<|s3 b o e) (by let:=ao e U;simpa using this)
include T in
theorem Bb{f:jl}{fd:q9}(F:Fun K "_law_cell" "_law_cell" nU f fd):⋯ 1 f fd ["_law_script","_law_k"] (xo K):=by
 refine F.okY A9 ?_;rintro vs H Q E ⟨a,ns,k,rfl,b,q⟩;refine⟨J,λc A outer s g=>⟨_,(ai (aV (aC kh (pv 1) (aL aK o9 T.bE aiT<|aa (pv 0) ah)<|aH _) (aq<|aJ<|aQ aT (pv 0) (pv 1) λ_ _=>rfl) aP)
   (aq<|aJ<|aB bf (aB fh au<|pv 1) au)),?_⟩⟩
 dsimp only[aX];exists 2,a,1,.inl b,3,1;refine xj (λh=>?_) λh=>?_
 .let h:k<ns.length:=⇑h
  exists 2,a,_,_,V.int<|ns.getD k 0,J,J,b,bx ?_
  .simp[h]
  .let e:gw ns k=ns.getD k 0:=by unfold gw;rw[aiN o6];rfl
   rwa[e] at q
 .let h:¬k<ns.length:=⇑h
  exists 1,3,.inl ⟨o5,o5⟩,3;let e:gw ns k=37*k+11:=by unfold gw;rw[aiL o6]
  rwa[e] at q
include T in
theorem Ba{f:jl}{fd:q9}(F:Fun K "_law_stir" "_law_stir" nK f fd):⋯ 1 f fd ["_law_cell_here","_law_k"] (xH):=by
 refine F.okY rN ?_;rintro vs H Q E ⟨c,k,rfl,q⟩;refine⟨J,λa A outer s b=>⟨_,(ai (psS 2 rN.nd<|aB bW (aB fh (aB bf (pv 0)<|aB fh au<|pv 1) au) au)
   (aq<|aJ<|aB bW (aB fh (pv 2)<|pv 2) au)),?_⟩⟩
 exists 2,3,.inl ⟨o5,o5⟩,3,3,.inr ⟨o5,o5⟩,3,o5;let h1:0≤(c+7919*k)*48271 % 2147483647:=aj3 _ o5;let h2:(c+7919*k)*48271 % 2147483647<2147483647:=ajO _ o5;exists 2,3,.inl ⟨o6,o6⟩,3,o5;exact q
variable(bz:bh "_law_stir" 1 ["_law_cell_here","_law_k"] xH)
include T bz in
theorem zm{f:jl}{fd:q9}(F:Fun K "_law_block" "_law_block" mY f fd):⋯ 2 f fd ["_law_cell_here","_law_k"] (uc):=by
 refine F.okY zl ?_;rintro vs H Q E ⟨c,k,rfl,q⟩;refine⟨J,λb A outer s a=>⟨_,(ai (aV (aC bL (aB bW (aB bf (pv 0)<|pv 1) au) au<|aH _) (aq<|aJ<|aB bW (aB bf (aB gu (pv 0) au)<|pv 1) au) aP)
   (ai (aV (aC bL (aB bW (aB bf (pv 0)<|pv 1) au) au<|aH _) (aq<|aJ<|aB lR (aB lR (iY (n:=18446744073709551616)) au)<|aB bW (aB bf (aB gu (pv 0) au)<|pv 1) au) aP)
   (ai (aV (aC bL (aB bW (aB bf (pv 0)<|pv 1) au) au<|aH _) (aq<|aJ<|aB bW (pv 0)<|iY (n:=18446744073709551616)) aP)
   (aq<|aJ<|aB bW (aB bf (aB fh (pcS bz az a<|aa (pv 0)<|aa (pv 1) ah)<|iY (n:=8589934592))<|pcS bz az a<|aa (pv 0)<|aa (aB bf (pv 1) au) ah)<|iY (n:=18446744073709551616))))),?_⟩⟩
 exists 2,3,3,o5,J,1;refine xj (λh=>?_) λh=>?_
 .let h:=HN h;exists 1,3,⟨o5,o5⟩,1,3,3,o5;let e:fH c k =(c / 4+k) % 3:=by unfold fH;rw[aiN h]
  rwa[e] at q
 let h:=DA h;exists 2,3,3,o5,J,1;refine xj (λh1=>?_) λh1=>?_
 .let h1:=HN h1;exists 3,1,3,⟨o5,o5⟩,1,3,3,o5,3;let e:fH c k=18446744073709551616-1 -(c / 4+k) % 3:=by unfold fH;rw[aiL h,aiN h1]
  rwa[e] at q
 let h1:=DA h1;exists 2,3,3,o5,J,1;refine xj (λh2=>?_) λh2=>?_
 .let h2:=HN h2;exists 1,3,o5;let e:fH c k=c % 18446744073709551616:=by unfold fH;rw[aiL h,aiL h1,aiN h2]
  rwa[e] at q
 let h2:=DA h2;exists 2,_,1,3,.inr ⟨o5,o5⟩,2,3,_,1,3,3,o5;let e:fH c k =(fC c k*8589934592+fC c (k+50)) % 18446744073709551616:=by unfold fH;rw[aiL h,aiL h1,aiL h2]
 rwa[e] at q
def zQ{w:Z6}(h:Wd4 w):∃j:Z5,([wN,wW,wS,wL]:fy Z6)[j]?=some w/\(∀i,i<j->([wN,wW,wS,wL]:fy Z6)[i]?≠some w)/\rkW w =↥j:=by
 let⟨a,b,c,d⟩:=Ca;rcases h with rfl|rfl|rfl|rfl
 .exact{(0),J,λi hi=>absurd hi<|akZ _,a}
 .exact{(1),J,λi hi=>by match i,hi with|0,_=>decide +kernel,b}
 .exact{(2),J,λi hi=>by match i,hi with|0,_=>decide +kernel|1,_=>decide +kernel,c}
 .exact{(3),J,λi hi=>by match i,hi with|0,_=>decide +kernel|1,_=>decide +kernel|2,_=>decide +kernel,d}
def wyC(C1:fy (fy Z4))(r2 r3:Z4)(ws:fy Z6)(i:Z5):Z4:=if ws[i]?=some wN then 0 else cI C1 r2 r3 ws i
def Im{ws:fy Z6}{i:Z5}{x:Z6}(c:VW ws)(e:ws[i]?=some x)(f:x≠wN):(gI (ws.take i) x=.non/\bA ws i = -1)∨∃k:Z5,gI (ws.take i) x=.int ↥k/\bA ws i =↥k/\k<i:=by
 let a:=c.base e f;let g:=lW ws i;let l:wW≠wS:=by decide +kernel
 let j:wW≠wL:=by decide +kernel
 let m:wL≠wS:=by decide +kernel
 rcases c.four e with rfl|rfl|rfl|rfl
 .exact absurd J f
 .rw[EF] at a;exact .inl {by unfold gI;rw[aiL l,aiL j],(aiY a).symm}
 .rw[Dz] at a;cases h:br isW (ws.take i) with
  |none=>rw[h] at a;cases a
  |some k=>rw[h] at a;let b:bA ws i =↥k:=(aiY a).symm;exact .inr {k,by unfold gI;rw[aiN J,h];rfl,b,o6}
 .rw[Es] at a;cases h:br isK (ws.take i) with
  |none=>rw[h] at a;cases a
  |some k=>rw[h] at a;let b:bA ws i =↥k:=(aiY a).symm;exact .inr {k,by unfold gI;rw[aiL m,aiN J,h];rfl,b,o6}
def sH{z:Z6}{ws:fy Z6}{n:Z5}(h:∀ w∈ws,w.length≤n):(Str.join z ws).length≤n*ws.length+ws.length*z.length:=by let h1:=mG h;rw[←akO,PySem.size_glued];let:(ws.length-1)*z.length≤ws.length*z.length:=am3 _<|Nat.sub_le _ _;omega
def D0{n:Z4}(h0:0≤n)(h:n<10 ^ 60):intText? (bH n)=some n:=by let e:=amP (x:=bH n) (ji h0) (by intro e;let:=qq h0;rw[←str_len,e] at this;exact absurd this o7)<|ai8 (aj6 h0 (k:=60) o7 h) o7;let⟨m,rfl⟩:=akb h0;unfold bH at e ⊢;rwa[aks,am0] at e
def Eu{x:Lf}(h:∀ w∈x.1,Wd4 w)(h0:0≤x.2):Txt.split (dH x) (Str.ofString " ")=x.1++[bH x.2]:=by
 unfold dH;rw[show(Str.ofString " ":Str) =⟨#[32]⟩ by decide +kernel];exact lz o8 λp a=>by
  rcases aiX.mp a with a|a
  .rcases h p a with rfl|rfl|rfl|rfl <;> decide +kernel
  .rw[ai6.mp a];exact gQ h0<|.inl o7
def GU{x:Lf}(h:∀ w∈x.1,Wd4 w)(h7:x.1.length≤7)(h0:0≤x.2)(h1:x.2<10 ^ 60):(dH x).length≤100000:=by
 let:=sH (z:=Str.ofString " ") (ws:=x.1++[bH x.2]) (n:=60) λw a=>by
  rcases aiX.mp a with a|a
  .rcases h w a with rfl|rfl|rfl|rfl <;> decide +kernel
  .rw[ai6.mp a];exact aj6 h0 o7 h1
 let e:(Str.ofString " ":Str).length=1:=by decide +kernel
 rw[e,ajj] at this;unfold dH;simp at this;omega
def Nz{Q:Bool->Hp->Z3}{b:Bool}{H:Hp}(h1:Q Z1 H)(h2:Q Z2 H):Q b H:=by cases b <;> assumption
def CU(z:Z6)(ws:fy Z6):inV (V.str z) (ws.map V.str)=decide (z∈ws):=by
 unfold inV
 induction ws with
 |nil=>rfl
 |cons a ws b=>
  rw[ajl,akT,b];by_cases h:z=a
  .subst h;simp[eqV]
  .simp[eqV,h];intro e;exact absurd e.symm h
def sI(z:Z6)(ws:fy Z6):(if Z2=Z1 then !inV (V.str z) (ws.map V.str) else inV (V.str z) (ws.map V.str))=decide (z∈ws):=by rw[aiL o7,CU]
def vW(f:fy Z6)(x w:Z6):gI (f++[x]) w=if (w=wS/\x=wW)∨(w=wL/\x≠wN) then V.int ↥f.length else gI f w:=by
 let e:wS≠wL:=by decide +kernel
 unfold gI;rw[eF,eF];unfold isW isK;by_cases a:w=wS
 .subst a;by_cases b:x=wW
  .simp[b]
  .simp[b,e]
 .by_cases c:w=wL
  .subst c;by_cases b:x=wN
   .simp[b,e.symm]
   .simp[b,e.symm]
  .simp[a,c]
def CZ{ws:fy Z6}(h:∀ w∈ws,Wd4 w):(wW∈ws∨wS∈ws∨wL∈ws)↔br isK ws≠Z0:=by
 constructor
 .intro a e;let:=ki.mp e;rcases a with a|a|a
  .exact absurd (this _ a) o4
  .exact absurd (this _ a) o4
  .exact absurd (this _ a) o4
 .intro e;refine aj5 λhn=>e (ki.mpr λw b=>?_)
  rcases h w b with rfl|rfl|rfl|rfl
  .decide +kernel
  .exact absurd (.inl b) hn
  .exact absurd (.inr<|.inl b) hn
  .exact absurd (.inr<|.inr b) hn
def Dj{ws:fy Z6}:wW∈ws↔br isW ws≠Z0:=by
 constructor
 .intro a e;exact absurd (ki.mp e _ a) o4
 .intro e;refine aj5 λhn=>e (ki.mpr λw b=>ai1 λz=>hn<|z ▸ b)
def ZJ(e:bh "on_day" 11 ["store","changes"] (kE av aA aD aG))(b:bh "on_keep" 11 ["store","words"] (jL av aA aD aG))(a:bh "on_marks" 11 ["store","numbers"] (iC av aA aD aG))(c:bh "on_plan" 11 ["store","numbers"] (jo av aA aD aG aI)):∀z,KnR z->∃n ps,(z,n)∈gq/\bh n 11 ps (kW av aA aD aG aI z):=by
 intro z f;unfold KnR at f;rcases f with rfl|rfl|rfl|rfl
 .exact{"on_day",["store","changes"],by simp[gq],by rwa[yq]}
 .exact{"on_keep",["store","words"],by simp[gq],by rwa[vh]}
 .exact{"on_marks",["store","numbers"],by simp[gq],by rwa[tM]}
 .exact{"on_plan",["store","numbers"],by simp[gq],by rwa[vC]}
def good2{c:Z4×Z4}(h:jF c):gm [.n c.1,.c "=",.n c.2]:=by
 intro k a;simp at a;rcases a with rfl|rfl
 .exact h.1
 .exact h.2
def Er{c:Z4×Z4}(h:jF c):chg (wordOf c)=some c:=by
 let e:wordOf c=dn [.n c.1,.c "=",.n c.2]:=by unfold wordOf;rw[←Be];rfl
 rw[e];exact Jz (good2 h) (by kernel_rfl)
def lF{c:Z4×Z4}(h:jF c):(wordOf c).length≤41:=by
 let e:wordOf c=dn [.n c.1,.c "=",.n c.2]:=by unfold wordOf;rw[←Be];rfl
 rw[e];exact ai8 (FP<|good2 h)<|amU (by kernel_rfl)
def tN{c:Z4×Z4}(h:jF c):32∉(wordOf c).cps.toList:=by
 unfold wordOf;rw[oQ,oQ];intro a;rcases aiX.mp a with a|a
 .rcases aiX.mp a with a|a
  .exact gQ h.1.1 (.inl o7) a
  .simp at a
 .exact gQ h.2.1 (.inl o7) a
def CM{wd:Z5}{c:Z4×Z4}(a:wd≤40)(h:0≤c.1/\c.1 <↥wd/\0≤c.2/\c.2<2 ^ 64):jF c:={⟨h.1,o6⟩,h.2.2.1,by let:=h.2.2.2;omega}
def P8{a:fy (Z4×Z4)}(h:∀ c∈a,jF c):vU (Str.join (Str.ofString " ") (Str.ofString "day" :: a.map wordOf)) "day" (.chs a):=by
 exists a.map wordOf,?_,J
 .rw[spS];refine lz o8 λp b=>?_
  rcases aiV.mp b with rfl|b
  .decide +kernel
  .let⟨c,e,rfl⟩:=ajd.mp b;exact tN<|h c e
 .rw[ako];exact ake λc e=>Er<|h c e
def QV{a:fy (Z4×Z4)}(h:∀ c∈a,jF c)(h3:a.length≤3):(Str.join (Str.ofString " ") (Str.ofString "day" :: a.map wordOf)).length≤400:=by
 let:=sH (z:=Str.ofString " ") (ws:=Str.ofString "day" :: a.map wordOf) (n:=41) λw b=>by
  rcases aiV.mp b with rfl|b
  .decide +kernel
  .let⟨c,f,rfl⟩:=ajd.mp b;exact lF<|h c f
 let e:(Str.ofString " ":Str).length=1:=by decide +kernel
 rw[e,ajE,aiE] at this;omega
def GW{ns:fy Z4}(h:∀ x∈ns,0≤x/\x≤1000000000000)(h6:6≤ns.length):vU (Str.join (Str.ofString " ") (Str.ofString "plan" :: ns.map bH)) "plan" (.nums ns):=by
 refine{ns.map bH,?_,o4,o4,{(6,Z0),by simp[iD],by simp[gT];omega},λw g=>?_,?_,λe=>absurd e o4,λ_ x f=>(h x<|List.mem_of_mem_tail f).2}
 .rw[spS];refine lz o8 λp a=>?_
  rcases aiV.mp a with rfl|a
  .decide +kernel
  .let⟨c,b,rfl⟩:=ajd.mp a;exact gQ (h c b).1<|.inl o7
 .let⟨c,b,rfl⟩:=ajd.mp g;let:=h c b;exact Ci this.1 o6
 .rw[ako];let:∀ x∈ns,(intOf ∘ bH) x=x:=λx f=>by let:=h x f;exact wz this.1 o6
  rw[ake this,List.map_id']
def EU{ns:fy Z4}(h:∀ x∈ns,0≤x/\x≤1000000000000)(h12:ns.length≤12):(Str.join (Str.ofString " ") (Str.ofString "plan" :: ns.map bH)).length≤400:=by
 let:=sH (z:=Str.ofString " ") (ws:=Str.ofString "plan" :: ns.map bH) (n:=20) λw a=>by
  rcases aiV.mp a with rfl|a
  .decide +kernel
  .let⟨c,b,rfl⟩:=ajd.mp a;let:=h c b;exact gp this.1 o6
 let e:(Str.ofString " ":Str).length=1:=by decide +kernel
 rw[e,ajE,aiE] at this;omega
def Gq{wd:Z5}{C3 C1 sizes':fy (fy Z4)}{b:Z4}(h:i8 wd C3 b C1)(h':i8 wd C3 b sizes')(t:C1.length=sizes'.length):C1=sizes':=by
 refine aln λd=>?_
 rcases ams d C1.length with c|c
 .let e:=aiG c;let a:=aiG (show d<sizes'.length by omega);rw[e,a];let⟨q,i,g⟩:=h d _ e;let⟨b1,b2,b3⟩:=h' d _ a;clear e a;generalize C1[d]=r at q i g ⊢;generalize sizes'[d]=u at b1 b2 b3 ⊢;refine congrArg some (aln λj=>?_);cases j with
  |zero=>rw[i,b2]
  |succ j=>
   rcases ams j d with f|f
   .let⟨n,p,o⟩:=g j f;let⟨s,m,l⟩:=b3 j f;rw[p,m,o.one l]
   .rw[ajv o6,ajv o6]
 .rw[ajv c,ajv o6]
def GZ{wd:Z5}{C3:fy (fy Z4)}{b r0 r1 r2 r3:Z4}{C0:fy Z4}{x x':Lf}(h:vP wd C3 b C0 r0 r1 r2 r3 x)(h':vP wd C3 b C0 r0 r1 r2 r3 x'):x=x':=by let⟨s,j,F,hn,hs,i⟩:=h;let⟨s',g,l,f,c,a⟩:=h';let e:=Gq hs c o6;subst e;rw[i] at a;cases a;rfl
def G4(a:Z4)(us:fy Z6)(c:Z4):0 <((cF a us).map V.str).length/\∃w,atI ((cF a us).map V.str) (c % (((cF a us).map V.str).length:Z4))=some (.str w)/\w∈cF a us:=by let h0:0 <(cF a us).length:=alS.mpr<|zJ a us;rw[aiE];exists h0;let g:=aj3 c (show((cF a us).length:Z4)≠0 by omega);let f:=ajO c (show↥0 <(cF a us).length by omega);obtain⟨j,e,b⟩:∃j:Z5,c % ((cF a us).length:Z4) =↥j/\j <(cF a us).length:={(c % ((cF a us).length:Z4)).toNat,o6,o6};rw[e];exact{(cF a us)[j],bx (by rw[aiR,aiG b];rfl),ajF b}
section
variable{CS CD CW CK CP CT:jl}{B H H':Hp}{k:jl}{A:SAd}{wd:Z5}{C2 C3:fy (fy Z4)}{us:fy PcU}{M:Z5->cY}{Q:VK}{E:XK}
structure Dy9(CK CS CD CP CW:jl)(B H:Hp)(k:jl)(A:SAd)(wd:Z5)(C2 C3:fy (fy Z4))(us:fy PcU)(M:Z5->cY):Z3 where
 dk:aaY CK H k A.p
 st:StC CS CD CP CW CW H A wd C2 C3 us M
 n0:A.n 0=us.length
 kn:k∉A.sm++A.ft
 sb:aj B H
 ow:∀ x∈A.sm++A.ft,B x=Z0
def Dy9.same(i:Dy9 CK CS CD CP CW B H k A wd C2 C3 us M)(s:aj H H'):Dy9 CK CS CD CP CW B H' k A wd C2 C3 us M:={let ⟨dx,e⟩:=i.dk;{dx,s _ _ e},i.st.same s,i.n0,i.kn,i.sb.trans s,i.ow}
def Dy9.nft{l:jl}(i:Dy9 CK CS CD CP CW B H k A wd C2 C3 us M)(b:H l=Z0):l∉A.ft:=λa=>by let⟨o,e⟩:=i.st.here l<|ajh _ a;rw[b] at e;cases e
def Dy9.add{m d:jl}{tb f:fy Z4}(i:Dy9 CK CS CD CP CW B H k A wd C2 C3 us M)(l:StC CS CD CP CW CW H' {A with TL:=A.TL++[m],SL:=A.SL++[d]} wd (C2++[tb]) (C3++[f]) us M)(j:H m=Z0)(g:H d=Z0)(c:aW A.ft H H'):Dy9 CK CS CD CP CW B H' k {A with TL:=A.TL++[m],SL:=A.SL++[d]} wd (C2++[tb]) (C3++[f]) us M:=by
 let b:∀ x∈({A with TL:=A.TL++[m],SL:=A.SL++[d]}:SAd).sm ++({A with TL:=A.TL++[m],SL:=A.SL++[d]}:SAd).ft,x∈A.sm++A.ft∨x=m∨x=d:=λx a=>by simp only[SAd.sm,SAd.ft,foot,List.mem_append,List.mem_singleton,List.mem_cons] at a ⊢;grind
 let h:∀ x∈A.ft,x∈A.sm++A.ft:=λx a=>ajh _ a
 let⟨dx,h1⟩:=i.dk;refine{{dx,c _ _ h1 λz=>i.kn<|h _ z},l,i.n0,λz=>?_,λx o e=>c _ _ (i.sb _ _ e) λz=>?_,λx a=>?_}
 .rcases b _ z with z|z|z
  .exact i.kn z
  .rw[z,j] at h1;cases h1
  .rw[z,g] at h1;cases h1
 .rw[i.ow x<|h _ z] at e;cases e
 .rcases b x a with z|z|z
  .exact i.ow x z
  .rw[z];exact i.sb.free j
  .rw[z];exact i.sb.free g
def Dy9.put{t:jl}{u:PcU}{M':Z5->cY}(i:Dy9 CK CS CD CP CW B H k A wd C2 C3 us M)(g:StC CS CD CP CW CW H' (A.add t) wd C2 C3 (us++[u]) M')(a:aW [A.nl,A.dl,A.x 0,A.d 0] H H'):Dy9 CK CS CD CP CW B H' k (A.add t) wd C2 C3 (us++[u]) M':=by
 let b:(A.add t).sm ++(A.add t).ft=A.sm++A.ft:=by unfold SAd.add SAd.sm SAd.re;dsimp only;rw[xm,xm];rfl
 let c:∀ x∈[A.nl,A.dl,A.x 0,A.d 0],x∈A.sm++A.ft:=λx f=>ajZ _ (by simp only[List.mem_cons,List.not_mem_nil,or_false,SAd.sm] at f ⊢;grind)
 let⟨dx,h1⟩:=i.dk;refine{{dx,a _ _ h1 λz=>i.kn<|c _ z},g,?_,by rw[b];exact i.kn,λx o e=>a _ _ (i.sb _ _ e) λz=>?_,by rw[b];exact i.ow}
 .show fset A.n 0 (A.n 0+1) 0=_;rw[i.n0];simp[fset]
 .rw[i.ow x<|c _ z] at e;cases e
def Dy9.day{z:Z6}{a:fy (Z4×Z4)}(i:Dy9 CK CS CD CP CW B H k A wd C2 C3 us M)(r:z=Str.join (Str.ofString " ") (Str.ofString "day" :: a.map wordOf))(f:nG wd a)(h3:a.length≤3)(u:C2.length≤90)(q:∀s x b H',Dy9 CK CS CD CP CW B H' k x wd b (C3++[a.map Prod.fst]) us M->b.length=C2.length+1->Q (.str s) H'):jV CK CS CD CP CW CT [.ref k,.str z] H Q E:=by
 subst r;let F:=i.st.D.w2;let g:∀ c∈a,jF c:=λc j=>CM F<|f.2 c j
 refine{k,A.p,_,"day",.chs a,J,i.dk,QV g h3,P8 g,.inl J,λl H1 n v s1 L=>?_};let e:=i.same s1;rw[yq];exact{A,wd,C2,C3,us,M,l,a,J,e.st,n,o6,u,i.nft v,IC f,λm d H2 h C y t o=>q _ _ _ _ (e.add C y t o) o8}
def Dy9.keep(i:Dy9 CK CS CD CP CW B H k A wd C2 C3 us M)(h:us.length≤60)(q:∀s m u b H',Dy9 CK CS CD CP CW B H' k m wd C2 C3 (us++[u]) b->Q (.str s) H'):jV CK CS CD CP CW CT [.ref k,.str "keep whole"] H Q E:=by
 let g:gm [.c "keep whole"]:=λk j=>by simp at j
 refine{k,A.p,_,"keep",.wrd "whole",J,i.dk,NV g (by kernel_rfl),MC g (by kernel_rfl),.inr<|.inl J,λl H1 e o s1 r=>?_};let a:=i.same s1;rw[vh];exact{A,wd,C2,C3,us,M,l,J,e,a.st,i.n0,h,λt u b H2 n f=>q _ _ _ _ _<|a.put n f}
def Dy9.marks(i:Dy9 CK CS CD CP CW B H k A wd C2 C3 us M)(q:∀H',aj H H'->Q (.str (Str.join (Str.ofString " ") (((l3 λi=>(A.n i:Z4)).map Z8).map shT))) H'):jV CK CS CD CP CW CT [.ref k,.str "marks"] H Q E:=by
 let g:gm [.c "marks"]:=λk a=>by simp at a
 refine{k,A.p,_,"marks",.nums [],J,i.dk,NV g (by kernel_rfl),MC g (by kernel_rfl),.inr<|.inr<|.inl J,λl H1 b e s1 f=>?_};rw[tM];exact{A,wd,C2,C3,us,M,l,J,i.st.same s1,λH2 s2=>q _<|s1.trans s2}
def Dy9.plan{z:Z6}{b r0 r1 r2 r3:Z4}{C0:fy Z4}(i:Dy9 CK CS CD CP CW B H k A wd C2 C3 us M)(j:z=Str.join (Str.ofString " ") (Str.ofString "plan" ::(b::r0::r1::r2::r3::C0).map bH))(h1:1≤C0.length)(h7:C0.length≤7)(f:0≤b)(a:b+C0.length≤C2.length)(c:∀ x∈r0::r1::r2::r3::C0,0≤x/\x≤1000000000000)(q:∀x H',vP wd C3 b C0 r0 r1 r2 r3 x->aj H H'->Q (.str (dH x)) H'):jV CK CS CD CP CW CT [.ref k,.str z] H Q E:=by
 subst j;let n:=i.st.tn;let e:∀ x∈b::r0::r1::r2::r3::C0,0≤x/\x≤1000000000000:=λx h=>by
  rcases aiV.mp h with rfl|h
  .omega
  .exact c x h
 refine{k,A.p,_,"plan",.nums (b::r0::r1::r2::r3::C0),J,i.dk,EU e (by simp;omega),GW e (by simp;omega),.inr<|.inr<|.inr J,λl H1 g o s1 r=>?_};rw[vC];exact{A,wd,C2,C3,us,M,l,b,r0,r1,r2,r3,C0,J,g,i.st.same s1,h1,h7,f,a,c,λx H2 m s2=>q x _ m<|s1.trans s2}
end
include T bz in
theorem yZ{f:jl}{fd:q9}(F:Fun K "_law_rates" "_law_rates" lT f fd):⋯ 2 f fd ["_law_cell_here"] (pJ):=by
 refine F.okY iI ?_;rintro vs H Q E ⟨c,rfl,q⟩;refine⟨J,λL A outer s t=>⟨_,(ai (psS 1 iI.nd<|bI ah)
   (ai (cO ajc J (eE J T.eN<|aa au ah) (pgN 2 iI.nd)
   (ai (psS 3 iI.nd<|pcS bz az t<|aa (pv 0)<|aa (pv 2) ah)
   (aq<|aV (aC bL (aB bW (aB gu (pv 0) au) au) au<|aH _) (aq<|aY<|cK ai4 aje ajf cC (pv 1)<|aa (aB bW (aB bf (aB fh (pv 3)<|iY (n:=1048576))<|pcS bz az t<|aa (pv 0)<|aa au ah)<|aB bf (iY (n:=1000000000000)) au) ah)<|aq<|aY<|cK ai4 aje ajf cC (pv 1)<|aa (aB bW (pv 3) au) ah)))
   (aq<|aJ<|pv 1))),?_⟩⟩
 dsimp only[aX];refine{ajb _,λl p=>?_};let u:aj H (Z9 H l (.lst [])):=aj.new p;let g0:Z9 H l (.lst []) l=some (.lst (([]:fy Z4).map Z8)):=af;refine aU [t9 c,t8 l,Z0,Z0] ?_;dsimp only;change nV _ _ _ _ (Z9 H l<|.lst []);generalize Z9 H l (.lst [])=H0 at u g0 ⊢;refine bR (λσ H'=>∃(g a:nt V)(ns:fy Z4),σ=[t9 c,t8 l,g,a]/\H' l=some (.lst<|ns.map Z8)/\ns.length=4/\(∀ x∈ns,0≤x/\x≤1000000000000)/\aj H H') (λN C=>?_) ?_
 .refine{(4),J,o7,o7,fL (lo:=0) (n:=4) (λi σ H'=>∃(g a:nt V)(ns:fy Z4),σ=[t9 c,t8 l,g,a]/\H' l=some (.lst<|ns.map Z8)/\ns.length=i/\(∀ x∈ns,0≤x/\x≤1000000000000)/\aj H H') {Z0,Z0,[],J,g0,J,o8,u} ?_ ?_}
  .rintro i σ H1 hi ⟨g,a,ns,rfl,h1,hn,h,s1⟩;refine aU [t9 c,t8 l,t9<|0 +↥i,a] ?_;dsimp only;exists 2,c,0 +↥i,J;let r:=Dp c<|0 +↥i;generalize fC c (0 +↥i)=n at r ⊢;refine aU [t9 c,t8 l,t9<|0 +↥i,t9 n] ?_;dsimp only;let app:∀x:Z4,0≤x/\x≤1000000000000->∃(g a:nt V)(j:fy Z4),[t9 c,t8 l,t9 (0 +↥i),t9 n]=[t9 c,t8 l,g,a]/\Z9 H1 l (.lst (ns.map Z8++[.int x])) l=some (.lst (j.map Z8))/\j.length=i+1/\(∀ x∈j,0≤x/\x≤1000000000000)/\aj H (Z9 H1 l (.lst (ns.map Z8++[.int x]))):=λx z=>⟨_,_,ns++[x],J,by rw[af,aja];rfl,by simp[hn],λy m=>by
    rcases aiX.mp m with m|m
    .exact h y m
    .rw[ai6.mp m];exact z,λb o e=>by rw[ak<|ao e p];exact s1 b o e⟩
   refine GG (λO v B=>{1,3,⟨o5,o5⟩,3,o5,J,1,Nz v B}) ?_ ?_
   .refine{1,.inl {J,_,X0.of h1},1,3,.inl ⟨o6,o6⟩,1,c,(9),J,3,3,3,o5,l,3,h1,aF (by rw[aiE];omega),app _ {?_,?_}}
    .exact aj3 _ o7
    .let:=ajO (n*1048576+fC c 9) (show↥0<1000000000000+1 by decide);omega
   .exact{1,.inl {J,_,X0.of h1},1,3,o5,l,3,h1,aF (by rw[aiE];omega),app _ ⟨o6,o6⟩}
  .rintro σ H1 ⟨g,a,ns,rfl,h1,hn,h,s1⟩;exact C _ _ ⟨g,a,ns,J,h1,hn,h,s1⟩
 rintro σ H1 ⟨g,a,ns,rfl,h1,hn,h,s1⟩
 match ns,hn,h1,h with
 |[r0,r1,r2,r3],_,h1,h=>exact{1,q l r0 r1 r2 r3 H1 h1 p h s1}
include T bz in
theorem vA{f:jl}{fd:q9}(F:Fun K "_law_weights" "_law_weights" jX f fd):⋯ 2 f fd ["_law_cell_here","_law_many"] (mW):=by
 refine F.okY gM ?_;rintro vs H Q E ⟨c,m,rfl,h7,q⟩;refine⟨J,λa0 A outer s hr=>⟨_,(ai (psS 2 gM.nd<|bI ah)
   (ai (cO ajc J (eE J T.eN<|aa (pv 1) ah) (pgN 3 gM.nd)
   (ai (psS 4 gM.nd<|pcS bz az hr<|aa (pv 0)<|aa (pv 3) ah)
   (ai (aY<|cK ai4 aje ajf cC (pv 2)<|aa (aQ aT (bI<|aa au<|aa (aB bf au<|aB bW (aB gu (pv 4) au) au)<|aa (aB lR (iY (n:=1000000000000))<|aB bW (aB gu (pv 4) au) au) ah) (aB bW (pv 4) au) λ_ _=>rfl) ah)
   (aq<|aV (PW.pt<|pw_and (aC jz (aB bW (pv 0) au) au<|aH _)<|pw_and1<|aC jz (aQ aT (pv 2) (pG lP au) λ_ _=>rfl) au<|aH _) (aq<|AI au<|Ax (pv 2) (pG lP au) set_list) aP))))
   (aq<|aJ<|pv 2))),?_⟩⟩
 dsimp only[aX];refine{ajb _,λl p=>?_};let O:aj H (Z9 H l (.lst [])):=aj.new p;let g0:Z9 H l (.lst []) l=some (.lst (([]:fy Z4).map Z8)):=af;refine aU [t9 c,t9 ↥m,t8 l,Z0,Z0] ?_;dsimp only;change nV _ _ _ _ (Z9 H l<|.lst []);generalize Z9 H l (.lst [])=H0 at O g0 ⊢;refine bR (λσ H'=>∃(h g:nt V)(ns:fy Z4),σ=[t9 c,t9 ↥m,t8 l,h,g]/\H' l=some (.lst<|ns.map Z8)/\ns.length=m/\(∀ x∈ns,0≤x/\x≤1000000000000)/\aj H H') (λN Y=>?_) ?_
 .refine{1,↥m,J,o6,o6,fL (lo:=0) (n:=(↥m).toNat) (λi σ H'=>∃(h g:nt V)(ns:fy Z4),σ=[t9 c,t9 ↥m,t8 l,h,g]/\H' l=some (.lst<|ns.map Z8)/\ns.length=i/\(∀ x∈ns,0≤x/\x≤1000000000000)/\aj H H') {Z0,Z0,[],J,g0,J,o8,O} ?_ ?_}
  .rintro i σ H1 hi ⟨h,g,ns,rfl,h1,hn,j,s1⟩;refine aU [t9 c,t9 ↥m,t8 l,t9<|0 +↥i,g] ?_;dsimp only;exists 2,c,0 +↥i,J;let v:=Dp c<|0 +↥i;generalize fC c (0 +↥i)=n at v ⊢;refine aU [t9 c,t9 ↥m,t8 l,t9<|0 +↥i,t9 n] ?_;dsimp only;let⟨z,hz,U⟩:=Ik (x:=0) (y:=1+n / 3 % 9) (w:=1000000000000-n / 3 % 2) (k:=n % 3) o6 o6;refine bR (λσ H'=>σ=[t9 c,t9 ↥m,t8 l,t9<|0 +↥i,t9 n]/\H' l=some (.lst<|(ns++[z]).map Z8)/\aj H H') (λN2 C=>?_) ?_
   .refine{1,.inl {J,_,X0.of h1},1,3,⟨o5,o5⟩,3,o5,3,1,3,⟨o5,o5⟩,3,o5,3,E1,λt S=>?_};let h2:=aj.new S (o:=.lst [.int 0,.int<|1+n / 3 % 9,.int<|1000000000000-n / 3 % 2]) _ _ h1;refine{1,3,o5,t,_,n % 3,.int z,J,J,X0.of af,hz,l,3,h2,aF (by rw[aiE];omega),C _ _ {J,by rw[af,aja];rfl,λb o e=>?_}};rw[ak<|ao e p];exact aj.new S _ _<|s1 b o e
   rintro σ H2 ⟨rfl,h2,s2⟩;let B:0≤z/\z≤1000000000000:=by omega
   let u:∀ x∈ns++[z],0≤x/\x≤1000000000000:=λy a=>by
    rcases aiX.mp a with a|a
    .exact j y a
    .rw[ai6.mp a];exact B
   let r:atI ((ns++[z]).map Z8) (-1)=some (.int z):=Fe o8;refine GG (λQb hT L=>{1,3,o5,3,1,?_}) ?_ ?_
   .by_cases h0:0<c % 4
    .exact dZ h0 {2,l,_,-1,.int z,J,J,X0.of h2,r,3,1,Nz hT L}
    .exact cS h0 L
   .exists 2,l,_,_,ns.length,J,J,h2,?_
    .simp[ixN];try omega
    .refine{_,_,ns++[1],J,by rw[af];simp[List.map_append],by simp[hn],λy a=>?_,λb o e=>by rw[ak<|ao e p];exact s2 b o e};rcases aiX.mp a with a|a
     .exact j y a
     .rw[ai6.mp a];omega
   .exact{_,_,ns++[z],J,h2,by simp[hn],u,s2}
  .rintro σ H1 ⟨h,g,ns,rfl,h1,hn,j,s1⟩;exact Y _ _ ⟨h,g,ns,J,h1,o6,j,s1⟩
 rintro σ H1 ⟨h,g,ns,rfl,h1,hn,j,s1⟩;exact{1,q l ns H1 h1 p hn j s1}
include T in
theorem wQ{f:jl}{fd:q9}(F:Fun K "_law_allowed" "_law_allowed" jQ f fd):⋯ 1 f fd ["_law_choices","_law_weights_here"] (mV K):=by
 refine F.okY jf ?_;rintro vs H Q E ⟨c,j,ws,C0,m,rfl,t,h10,p,y,r,q⟩;refine⟨J,λY A outer s hr=>⟨_,(ai (psS 2 jf.nd<|bI<|aa aN ah)
   (ai (aV (aC bL (aQ aT (pv 1) (aL aK o9 T.bE aiT<|aa (pv 0) ah) λ_ _=>rfl) au<|aH _) (aq<|psS 2 jf.nd<|bI<|aa aN<|aa aN ah) aP)
   (ai (aV (aC kC aN (pv 0) (by with_unfolding_all rfl)) (aq<|aY<|cK ai4 aje ajf cC (pv 2)<|aa aN ah) aP)
   (ai (aV (PW.pt<|pw_or (aC kC aN (pv 0) (by with_unfolding_all rfl))<|pw_or (aC kC aN (pv 0) (by with_unfolding_all rfl))<|pw_or1<|aC kC aN (pv 0) (by with_unfolding_all rfl)) (aq<|aY<|cK ai4 aje ajf cC (pv 2)<|aa aN ah) aP)
   (aq<|aJ<|pv 2))))),?_⟩⟩
 dsimp only[aX];let S:=(aiH.mp r).1;refine{v8,λl0 n=>?_};let i:aj H (Z9 H l0 (.lst [.str wW])):=aj.new n;let g0:Z9 H l0 (.lst [.str wW]) l0=some (.lst [.str wW]):=af;refine aU [t8 c,t8 j,t8 l0] ?_;dsimp only;change nV _ _ _ _ (Z9 H l0<|.lst [.str wW]);generalize Z9 H l0 (.lst [.str wW])=H0 at i g0 ⊢;refine bR (λσ H'=>∃l,σ=[t8 c,t8 j,t8 l]/\H' l=some (.lst<|(if m=0 then [wN,wW] else [wW]).map V.str)/\H l=Z0/\aj H H') (λN g=>?_) ?_
 .refine kO (decide (m=0)) (λH'=>H'=H0) (λC a=>?_) (λh H' e=>?_) (λh H' e=>?_)
  .exists 2,c,1,.inl<|i.seq t,j,_,_,.int m,J,J,X0.of<|i _ _ y,?_,J,1
   .rw[aiE];exact bx (by rw[aiR,r];rfl)
   .rw[show decide (V.int m=V.int 0)=decide (m=0) by simp];exact a _ J
  .subst e;refine{v9,λl B=>?_};refine aU [t8 c,t8 j,t8 l]<|g _ _ {l,J,by rw[aiN<|ajm h];exact af,i.free B,i.trans<|aj.new B}
  .subst e;exact g _ _ {l0,J,by rw[aiL<|akG h];exact g0,n,i}
 rintro σ H1 ⟨l,rfl,h1,u,s1⟩;generalize hxs:(if m=0 then [wN,wW] else [wW]:fy Z6)=xs at h1;let a0:xs.length≤2:=by rw[←hxs];split <;> decide
 let L:∀{O:Hp}{o:HO},aj H O->aj H (Z9 O l o):=λs b o e=>by rw[ak<|ao e u];exact s b o e
 refine bR (λσ H'=>σ=[t8 c,t8 j,t8 l]/\H' l=some (.lst<|(xs ++(if br isW ws=Z0 then [] else [wS])).map V.str)/\aj H H') (λN g=>?_) ?_
 .refine kO (decide (wW∈ws)) (λH'=>H'=H1) (λC a=>?_) (λh H' e=>?_) (λh H' e=>?_)
  .exact{1,c,1,.inl<|s1.seq t,J,kF ws,1,by rw[sI];exact a _ J}
  .subst e;refine{1,.inl {J,_,X0.of h1},l,3,h1,aF (by rw[aiE];omega),g _ _ {J,?_,L s1}};rw[af,aiL<|Dj.mp<|ajm h,aja];rfl
  .subst e;refine g _ _ {J,?_,s1};rwa[aiN (aj5 λz=>akG h<|Dj.mpr z),akq]
 rintro σ H2 ⟨rfl,h2,s2⟩;generalize hys:(xs ++(if br isW ws=Z0 then [] else [wS]):fy Z6)=ys at h2;let U:ys.length≤3:=by rw[←hys,ajj];split <;> simp <;> omega
 refine bR (λσ H'=>σ=[t8 c,t8 j,t8 l]/\H' l=some (.lst<|(ys ++(if br isK ws=Z0 then [] else [wL])).map V.str)/\aj H H') (λN g=>?_) ?_
 .refine kO (decide (wW∈ws∨wS∈ws∨wL∈ws)) (λH'=>H'=H2) (λC a=>?_) (λh H' e=>?_) (λh H' e=>?_)
  .exists 1,c,1,.inl<|s2.seq t,J,kF ws,1;rw[sI];by_cases v:wW∈ws
   .rw[aiS (show wW∈ws∨wS∈ws∨wL∈ws from .inl v)] at a;rw[aiS v];exact fQ<|a _ J
   rw[ai1 v];refine gb ?_;exists 1,c,1,.inl<|s2.seq t,J,kF ws,1;rw[sI];by_cases x:wS∈ws
   .rw[aiS (show wW∈ws∨wS∈ws∨wL∈ws from .inr<|.inl x)] at a;rw[aiS x];exact fQ<|a _ J
   rw[ai1 x];refine gb ?_;exists 1,c,1,.inl<|s2.seq t,J,kF ws,1;rw[sI,show decide (wL∈ws)=decide (wW∈ws∨wS∈ws∨wL∈ws) by simp[v,x]];exact a _ J
  .subst e;refine{1,.inl {J,_,X0.of h2},l,3,h2,aF (by rw[aiE];omega),g _ _ {J,?_,L s2}};rw[af,aiL<|(CZ p).mp<|ajm h,aja];rfl
  .subst e;refine g _ _ {J,?_,s2};rwa[aiN (aj5 λz=>akG h<|(CZ p).mpr z),akq]
 rintro σ H3 ⟨rfl,h3,s3⟩;refine{1,q l H3 ?_ u s3};rwa[←hys,←hxs,akL] at h3
variable(jj:bh "_law_block" 2 ["_law_cell_here","_law_k"] uc)
include T bz jj in
theorem wM{f:jl}{fd:q9}(F:Fun K "_law_changes" "_law_changes" j0 f fd):⋯ 3 f fd ["_law_cell_here","_law_wide"] (mh):=by
 refine F.okY wB ?_;rintro vs H Q E ⟨c,wd,rfl,L,O,q⟩;refine{J,λY A outer s r=>{_,(aq<|aJ<|dg (N:=["_law_k","_law_wide","_law_cell_here"]) (k:=1) (cap:=[1,0]) J J (eE J T.eN<|aa (aB bW (pcS bz az r<|aa (pv 0)<|aa au ah) au) ah) (λ_ _ _ _=>(pgN 0 (show(["_law_k","_law_wide","_law_cell_here"]:fy Z6).Nodup from by decide +kernel)<|.inr J)) (λ_ _ _ _=>cj) λ_ _ _ _=>(eW<|aa (aB bW (pcS bz az r<|aa (pv 2)<|aa (aB bf au<|pv 0) ah)<|pv 1)<|aa (pcS jj az r<|aa (pv 2)<|aa (pv 0) ah) ah)),?_}};obtain⟨m,B,C⟩:∃m:Z5,fC c 69 % 4 =↥m/\m≤3:={(fC c 69 % 4).toNat,o6,o6};refine{1,c,(69),J,3,o5,↥m,by rw[←B],o6,o6,λD u=>?_};rw[show(↥m).toNat=m by omega];refine lu (lo:=0) (n:=m) D (λi σ H2 ys=>∃(v:nt V)(a:fy (Z4×Z4)),σ=[v,t9 ↥wd,t9 c]/\aj H H2/\H2 D=some (.lst ys)/\fZ H2 ys a/\a.length=i/\∀ x∈a,0≤x.1/\x.1 <↥wd/\0≤x.2/\x.2<18446744073709551616) {Z0,[],J,aj.new u,af,fZ.nil,J,λx h=>by cases h} ?_ ?_
 .rintro i σ H2 ys hi ⟨v,a,rfl,s2,h2,g,hn,j⟩;refine{2,3,c,2,3,o6,2,c,1,v9,λt p=>?_};let U:=aj3 (fC c<|70 +(0 +↥i)) (show↥wd≠0 by omega);let S:=ajO (fC c<|70 +(0 +↥i)) (show↥0<wd by omega);let y:=HB c<|0 +↥i;let a0:=g.len;refine{aj.new p _ _ h2,aF o6,_,a++[(fC c (70 +(0 +↥i)) % ↥wd,fH c<|0 +↥i)],J,λb o e=>?_,af,(g.mono λt' xs e=>?_).snoc ?_,by simp[hn],λx l=>?_}
  .rw[ak<|ao e u];exact aj.new p _ _<|s2 b _ e
  .rw[ak<|bU e h2 nofun];exact aj.new p _ _ e
  .rw[ak (ao h2 p).symm,af]
  .rcases aiX.mp l with l|l
   .exact j x l
   .rw[ai6.mp l];exact{U,S,y.1,by let:=y.2;show fH c (0 +↥i)<_;omega}
 .rintro σ H2 ys ⟨v,a,rfl,s2,h2,g,hn,j⟩;exact q D ys a H2 h2 u g ⟨o6,j⟩ o6 s2
include T in
theorem Az{f:jl}{fd:q9}(F:Fun K "_law_size" "_law_size" nM f fd):⋯ 1 f fd ["_law_changes_here","_law_wide","_law_base_here","_law_day"] (rD):=by
 refine F.okY gV ?_;rintro vs H Q E ⟨cl,wd,bv,d,g,rfl,hC,a1,ar,hw,hq⟩;refine⟨J,λan A outer s hr=>⟨_,(ai (aV (aC oZ (pv 2) dO<|aH _) (aq<|aJ<|pv 1) aP)
   (ai (psS 4 gV.nd uR)
   (ai (cO ajc J (cg<|dY fY (pv 0) (dw<|pv 2)<|dw<|pv 3) (pgN 5 gV.nd)
   (aq (cO ajc J (cg<|pv 5) (mj J<|bS (pgN 6 gV.nd)<|bS (pgN 7 gV.nd) gD)
   (aq<|oY (ku hr) (pv 4) (pv 6) nh J))))
   (aq<|aJ<|aL EO o9 T.bE aiT<|aa (pv 4) ah)))),?_⟩⟩
 dsimp only[aX];rcases hq with⟨rfl,q⟩|⟨b,e,rfl,rfl,al,ag,q⟩
 .exact gB (λQb hq=>{1,J,1,by rwa[aiS rfl]}) {1,q}
 refine gK (λQb hq=>{1,J,1,hq}) ?_;unfold qk;dsimp only;let⟨p,ac,am,ab⟩:=hC.ex;intro he m;refine aU [t8 cl,t9 ↥wd,t9 ↥b,t9 ↥e,t8 he,Z0,Z0,Z0] ?_;dsimp only;refine bR (λσ' H'=>∃(C h l:nt V)(c:fy (Key×V)),σ'=[t8 cl,t9 ↥wd,t9 ↥b,t9 ↥e,t8 he,C,h,l]/\aj H H'/\H' he=some (.dK c)/\cz c (λk=>iF (cQ g) ↥b ↥e k)) (λN hN=>?_) ?_
 .let s0:aj H (Z9 H he<|.dK []):=aj.new m;let g0:Z9 H he (.dK []) he=some (.dK []):=af;generalize Z9 H he (.dK [])=H0 at s0 g0 ⊢;refine{2,2,1,cl,1,X0.of<|s0 _ _ ac,λU O=>?_};let a0:cT (p.map V.ref) (some ↥b) (some ↥e) =((p.drop b).take (e-b)).map V.ref:=by unfold cT;rw[HT.g8,HT.g8,aiE,show min b p.length=b by omega,show min e p.length=e by omega,ana,List.map_drop]
  rw[a0];let s1:aj H0 (Z9 H0 U (.lst (((p.drop b).take (e-b)).map V.ref))):=aj.new O;let g1:Z9 H0 U (.lst (((p.drop b).take (e-b)).map V.ref)) U=some (.lst (((p.drop b).take (e-b)).map V.ref)):=af;let a3:=s1 _ _ g0;let a8:U≠he:=λz=>by rw[z,g0] at O;cases O
  let n:=s0.trans s1;generalize Z9 H0 U (.lst (((p.drop b).take (e-b)).map V.ref))=H1 at s1 g1 a3 n ⊢;refine{U,J,{_,X0.of g1},gv (K:=K) (a:=U) (xs:=((p.drop b).take (e-b)).map V.ref) (λi σ' H'=>∃(C h l:nt V)(c:fy (Key×V)),σ'=[t8 cl,t9 ↥wd,t9 ↥b,t9 ↥e,t8 he,C,h,l]/\aW [he] H1 H'/\H' he=some (.dK c)/\cz c (λk=>iF (cQ g) ↥b ((b+i:Z5):Z4) k)) {Z0,Z0,Z0,[],J,aW.refl,a3,cz.iff cz.nil λk=>{λz=>z.elim,λ⟨dd,_,h1,h2,_⟩=>by omega}} (λ i σ' H' _ ⟨_,_,_,_,_,k,_⟩=>X0.of<|k _ _ g1 (⇑a8)) ?_ ?_}
  .rintro i v σ' H2 hi ⟨C,h,l,c,rfl,k2,h2,Y⟩;rw[aiR] at hi;let⟨pa,S,rfl⟩:=ai9.mp hi;let a9:i<e-b:=by let:=(aiH.mp S).1;rw[aiU] at this;omega
   rw[anA,aiN a9,ak7] at S;obtain⟨cs,B⟩:∃cs,g[b+i]?=some cs:={_,aiG o6};let⟨L,hL,a2⟩:=ab _ _ _ S B;let a7:=k2 _ _ (n _ _ hL) (λz=>by rw[ai6.mp z,m] at hL;cases hL);let y:=a1 cs<|aiQ B;let a4:(cQ g)[b+1+i]?=some (cs.map Prod.fst):=by unfold cQ;rw[show b+1+i =(b+i)+1 by omega,amx,aiR,B];rfl
   refine aU [t8 cl,t9 ↥wd,t9 ↥b,t9 ↥e,t8 he,t8 pa,h,l] ?_;dsimp only;refine{1,pa,J,{_,X0.of a7},gv (K:=K) (a:=pa) (xs:=L) (λj σ' H'=>∃(h l:nt V)(c:fy (Key×V)),σ'=[t8 cl,t9 ↥wd,t9 ↥b,t9 ↥e,t8 he,t8 pa,h,l]/\aW [he] H1 H'/\H' he=some (.dK c)/\cz c (λk=>iF (cQ g) ↥b ((b+i:Z5):Z4) k∨k∈(cs.take j).map Prod.fst)) {h,l,c,J,k2,h2,cz.iff Y λk=>by simp} (λ j σ' H' _ ⟨_,_,_,_,k,_⟩=>X0.of<|k _ _ (n _ _ hL) λz=>by rw[ai6.mp z,m] at hL;cases hL) ?_ ?_}
   .rintro j v σ' H3 hj ⟨h,l,c,rfl,k3,h3,SB⟩;let⟨t,r,rfl,e2,e3⟩:=a2.get j v hj;let a5:=k3 _ _ (n _ _ e3) (λz=>by rw[ai6.mp z,m] at e3;cases e3);let hr:=y.2 r<|aiQ e2;let ae:=Qs SB (wd:=wd) λx u=>by
     rcases u with u|u
     .exact CY (QW hw a1) u
     .let⟨r',h1,rfl⟩:=ajd.mp u;let:=y.2 r'<|am5 h1;exact⟨this.1,this.2.1⟩
    exists t,1,X3.of a5,J,_,1,3;exists 2,he,1,jP.k (k:=Sum.inl r.1) h3<|aF o6;refine{_,_,1,λx o ex u=>by rw[ak (⇑u)];exact k3 x o ex u,af,cz.iff (cz.put SB r.1<|.bl Z1) λk=>?_};rw[aiZ,e2];simp[or_assoc]
   .rintro σ' H3 ⟨h,l,c,rfl,k3,h3,SB⟩;refine{_,h,l,c,J,k3,h3,cz.iff SB λk=>?_};rw[a2.len,ai7,ID a4 k]
  .rintro σ' H2 ⟨C,h,l,c,rfl,k2,h2,Y⟩;rw[aiE,aiU,alx,show b+min (e-b) (p.length-b)=e by omega] at Y;refine hN _ _ {C,h,l,c,J,λx o ex=>k2 _ _ (n _ _ ex) (λz=>by rw[ai6.mp z,m] at ex;cases ex),h2,Y}
 rintro σ H1 ⟨C,h,l,c,rfl,s1,a6,Y⟩;exact{1,he,c,J,a6,q _ _ (cz.wr Y) s1}
include T in
theorem AX{f:jl}{fd:q9}(F:Fun K "_law_base" "_law_base" nQ f fd):⋯ 1 f fd ["_law_choices","_law_head"] (rT K):=by
 refine F.okY jA ?_;rintro vs H Q E ⟨c,ws,w,rfl,o,h10,q⟩;refine⟨J,λy A outer s L=>⟨_,(ai (psS 2 jA.nd dO)
   (ai (cO ajc J (eE J T.eN<|aa (aL aK o9 T.bE aiT<|aa (pv 0) ah) ah) (pgN 3 jA.nd)
   (aq<|aV (PW.pt<|pw_or (PW.pt<|pw_and (aC bL (pv 1) aN<|aH _)<|pw_and1<|aC bL (aQ aT (pv 0) (pv 3) λ_ _=>rfl) aN<|aH _)<|pw_or1<|PW.pt<|pw_and (aC bL (pv 1) aN<|aH _)<|pw_and1<|aC qb (aQ aT (pv 0) (pv 3) λ_ _=>rfl) aN<|aH _) (aq<|psS 2 jA.nd<|pv 3) aP))
   (aq<|aJ<|pv 2))),?_⟩⟩
 dsimp only[aX];refine aU [t8 c,some<|.str w,some .non,Z0] ?_;dsimp only;refine bR (λσ H'=>∃g,σ=[t8 c,some<|.str w,some<|gI ws w,g]/\H'=H) (λN v=>?_) ?_
 .refine{1,c,1,.inl o,↥ws.length,by rw[aiE],o6,o6,fL (lo:=0) (n:=(↥ws.length).toNat) (λi σ H'=>∃g,σ=[t8 c,some<|.str w,some<|gI (ws.take i) w,g]/\H'=H) {Z0,by unfold gI;split <;>(try split) <;> rfl,J} ?_ ?_}
  .rintro i σ H1 hi ⟨g,rfl,rfl⟩;let t:i<ws.length:=by omega
   let e:ws[i]?=some ws[i]:=aiG t;generalize ws[i]=x at e;refine aU [t8 c,some<|.str w,some<|gI (ws.take i) w,t9<|0 +↥i] ?_;rw[amu];dsimp only;let m:atI (ws.map V.str) ↥i=some (V.str x):=bx (by rw[aiR,e];rfl);let u:ws.take (i+1)=ws.take i++[x]:=by rw[aiZ,e];rfl
   let r:(ws.take i).length=i:=by rw[aiU];omega
   refine kO (decide ((w=wS/\x=wW)∨(w=wL/\x≠wN))) (λH'=>H'=H1) (λC j=>?_) (λh H' p=>?_) λh H' p=>?_
   .exists 1,J,1;let l:wS≠wL:=by decide +kernel
    by_cases b:w=wS
    .rw[aiS (show V.str w=V.str wS by rw[b])];refine fQ ?_;exists 2,c,_,↥i,.str x,J,J,o,m,J,1;by_cases a:x=wW
     .rw[aiS (show V.str x=V.str wW by rw[a])];rw[aiS<|.inl ⟨b,a⟩] at j;exact fQ<|j _ J
     .rw[ai1 (show ¬V.str x=V.str wW from λz=>a<|V.str.inj z)];rw[ai1 λz=>by rcases z with z|z;exact a z.2;exact l<|b.symm.trans z.1] at j;refine gb ?_;exists 1,J,1;rw[ai1 (show ¬V.str w=V.str wL from λz=>l<|b.symm.trans<|V.str.inj z)];exact gb<|j _ J
    .rw[ai1 (show ¬V.str w=V.str wS from λz=>b<|V.str.inj z)];refine gb ?_;show if Z2=Z1 then _ else _
     refine gb ?_;exists 1,J,1;by_cases a:w=wL
     .rw[aiS (show V.str w=V.str wL by rw[a])];refine fQ ?_;exists 2,c,_,↥i,.str x,J,J,o,m,J,1;let B:(!decide (V.str x=V.str wN))=decide ((w=wS/\x=wW)∨(w=wL/\x≠wN)):=by simp[b,a,l.symm]
      rw[B];exact j _ J
     .rw[ai1 (show ¬V.str w=V.str wL from λz=>a<|V.str.inj z)];rw[ai1 λz=>by rcases z with z|z;exact b z.1;exact a z.1] at j;exact gb<|j _ J
   .subst p;exists 1;refine aU [t8 c,some<|.str w,t9 ↥i,t9 ↥i] ?_;refine{some<|.int ↥i,?_,J};rw[u,vW,aiN<|ajm h,r]
   .subst p;refine{some<|.int ↥i,?_,J};rw[u,vW,aiL<|akG h]
  .rintro σ H1 ⟨g,rfl,rfl⟩;rw[show(↥ws.length).toNat=ws.length by omega,ai7];exact v _ _ ⟨g,J,J⟩
 rintro σ H1 ⟨g,rfl,rfl⟩;exact{1,q}
variable(j9:bh "_law_base" 1 ["_law_choices","_law_head"] (rT K))
variable(kq:bh "_law_size" 1 ["_law_changes_here","_law_wide","_law_base_here","_law_day"] rD)
include T j9 kq in
theorem Ar{f:jl}{fd:q9}(F:Fun K "_law_cost" "_law_cost" nE f fd):⋯ 2 f fd ["_law_changes_here","_law_wide","_law_begin","_law_choices","_law_weights_here","_law_rates_here"] (sF K):=by
 refine F.okY bY ?_;rintro vs H Q E ⟨cl,c,m,j,wd,C6,v,ws,C1,C0,r0,r1,r2,r3,rfl,hC,ae,al,hw,Y,hV,hl,hb,ag,r,L,hz,q⟩;refine⟨J,λaS A outer s hr=>⟨_,(ai (psS 6 bY.nd au)
   (ai (psS 7 bY.nd<|bI ah)
   (ai (cO ajc J (eE J T.eN<|aa (aL aK o9 T.bE aiT<|aa (pv 3) ah) ah) (pgN 8 bY.nd)
   (ai (psS 9 bY.nd au)
   (ai (aV (aC qb (aQ aT (pv 3) (pv 8) λ_ _=>rfl) aN<|aH _) (ai (psS 10 bY.nd<|pcS j9 az hr<|aa (dY fY (pv 3) ic<|dw<|pv 8)<|aa (aQ aT (pv 3) (pv 8) λ_ _=>rfl) ah)
   (ai (aV (aC oZ (pv 10) dO<|aH _) (aq<|psS 11 bY.nd<|pv 1) (ai (psS 11 bY.nd<|pcS kq az hr<|aa (pv 0)<|aa (pv 1)<|aa (aB bf (pv 2)<|pv 10)<|aa (aB bf (pv 2)<|pv 8) ah)
   (aq<|psS 9 bY.nd<|aQ aT (pv 7) (pv 10) λ_ _=>rfl)))
   (ai (psS 9 bY.nd<|aB bf (aB bf (pv 9)<|aQ aT (pv 5) au λ_ _=>rfl)<|aB fh (aQ aT (pv 5) au λ_ _=>rfl)<|pv 11)
   (ai (psS 6 bY.nd<|aB bf (pv 6)<|aB fh (aB bf (aQ aT (pv 5) au λ_ _=>rfl)<|aB fh (aQ aT (pv 5) au λ_ _=>rfl)<|aB lR (aL aK o9 T.bE aiT<|aa (pv 3) ah)<|pv 8)<|pv 11)
   (aq<|psS 6 bY.nd<|aB bf (pv 6)<|aB fh (aQ aT (pv 4) (pv 8) λ_ _=>rfl)<|pv 9))))) aP)
   (aq<|aY<|cK ai4 aje ajf cC (pv 7)<|aa (pv 9) ah))))
   (aq<|aJ<|pv 6)))),?_⟩⟩
 dsimp only[aX];let n7:=L.n7;let aw:=L.nw;refine aU [t8 cl,t9 ↥wd,t9 ↥C6,t8 c,t8 m,t8 j,t9 0,Z0,Z0,Z0,Z0,Z0] ?_;dsimp only;refine{ajb _,λl a2=>?_};let s0:aj H (Z9 H l (.lst [])):=aj.new a2;let g0:Z9 H l (.lst []) l=some (.lst []):=af;refine aU [t8 cl,t9 ↥wd,t9 ↥C6,t8 c,t8 m,t8 j,t9 0,t8 l,Z0,Z0,Z0,Z0] ?_;dsimp only;change nV _ _ _ _ (Z9 H l<|.lst []);generalize Z9 H l (.lst [])=H0 at s0 g0 ⊢;refine bR (λσ H'=>∃(a:Z4)(O u h g:nt V),σ=[t8 cl,t9 ↥wd,t9 ↥C6,t8 c,t8 m,t8 j,t9 a,t8 l,O,u,h,g]/\a=sumTo (bB C1 C0 r0 r1 r2 r3 ws) ws.length/\H' l=some (.lst<|((List.range ws.length).map<|wyC C1 r2 r3 ws).map Z8)/\aj H H') (λN hN=>?_) ?_
 .refine{1,c,1,.inl<|s0.seq Y,↥ws.length,by rw[aiE],o6,o6,fL (lo:=0) (n:=(↥ws.length).toNat) (λi σ H'=>∃(a:Z4)(O u h g:nt V),σ=[t8 cl,t9 ↥wd,t9 ↥C6,t8 c,t8 m,t8 j,t9 a,t8 l,O,u,h,g]/\a=sumTo (bB C1 C0 r0 r1 r2 r3 ws) i/\H' l=some (.lst<|((List.range i).map<|wyC C1 r2 r3 ws).map Z8)/\aj H H') {(0),Z0,Z0,Z0,Z0,J,J,g0,s0} ?_ ?_}
  .rintro i σ H1 hi ⟨a,O,u,h,g,rfl,a4,h1,s1⟩;let as:i<ws.length:=by omega
   let e:ws[i]?=some ws[i]:=aiG as;generalize ws[i]=x at e;let y:atI (ws.map V.str) ↥i=some (V.str x):=bx (by rw[aiR,e];rfl);refine aU [t8 cl,t9 ↥wd,t9 ↥C6,t8 c,t8 m,t8 j,t9 a,t8 l,t9<|0 +↥i,u,h,g] ?_;rw[amu];dsimp only;refine aU [t8 cl,t9 ↥wd,t9 ↥C6,t8 c,t8 m,t8 j,t9 a,t8 l,t9 ↥i,t9 0,h,g] ?_;dsimp only;refine bR (λσ H'=>∃(h g:nt V),σ=[t8 cl,t9 ↥wd,t9 ↥C6,t8 c,t8 m,t8 j,t9<|sumTo (bB C1 C0 r0 r1 r2 r3 ws) (i+1),t8 l,t9 ↥i,t9<|wyC C1 r2 r3 ws i,h,g]/\H' l=H1 l/\aj H H') (λN2 a6=>?_) ?_
   .by_cases B:x=wN
    .let w0:wyC C1 r2 r3 ws i=0:=by unfold wyC;rw[e,aiN (by rw[B])]
     let c0:bB C1 C0 r0 r1 r2 r3 ws i=0:=by unfold bB;rw[e,aiN (by rw[B])]
     refine gK (λQb C=>{2,c,_,↥i,.str x,J,J,s1.seq Y,y,J,1,by rw[aiS (show V.str x=V.str wN by rw[B])];exact C}) ?_;exact a6 _ _ {h,g,by rw[w0,show sumTo (bB C1 C0 r0 r1 r2 r3 ws) (i+1)=a by rw[a4];show _+bB _ _ _ _ _ _ _ i=_;rw[c0];omega],J,s1}
    .refine gB (λQb C=>{2,c,_,↥i,.str x,J,J,s1.seq Y,y,J,1,by rwa[ai1 (show ¬V.str x=V.str wN from λz=>B<|V.str.inj z)]}) ?_;refine{2,1,c,1,s1.seq Y,λt S=>?_};let a5:cT (ws.map V.str) Z0 (some ↥i) =(ws.take i).map V.str:=by unfold cT;simp[HT.g8,HT.jT,show min i ws.length=i by omega,List.map_take]
     rw[a5];let s2:=s1.trans<|aj.new S (o:=.lst<|(ws.take i).map V.str);let e2:Z9 H1 t (.lst ((ws.take i).map V.str)) t=some (.lst ((ws.take i).map V.str)):=af;let e3:=aj.new S (o:=.lst<|(ws.take i).map V.str) _ _ h1;generalize Z9 H1 t (.lst ((ws.take i).map V.str))=H2 at s2 e2 e3 ⊢;exists 2,c,_,↥i,.str x,J,J,s2.seq Y,y,t,ws.take i,x,J,X0.of e2,(by rw[aiU];omega);let a0:=Im hV e B;generalize gI (ws.take i) x=U at a0 ⊢;refine aU [t8 cl,t9 ↥wd,t9 ↥C6,t8 c,t8 m,t8 j,t9 a,t8 l,t9 ↥i,t9 0,some U,g] ?_;dsimp only;let hd:i<C1.length:=by omega
     refine bR (λσ H'=>σ=[t8 cl,t9 ↥wd,t9 ↥C6,t8 c,t8 m,t8 j,t9 a,t8 l,t9 ↥i,t9<|gk C1 r2 r3 ws<|bA ws i,some U,t9<|szD C1 ws i]/\aj H2 H') (λN3 a8=>?_) ?_
     .rcases a0 with⟨rfl,p⟩|⟨k,rfl,p,an⟩
      .refine gB (λQb C=>{1,J,1,by rwa[aiS rfl]}) ?_;refine{1,aU [t8 cl,t9 ↥wd,t9 ↥C6,t8 c,t8 m,t8 j,t9 a,t8 l,t9 ↥i,t9 0,some .non,t9 ↥wd]<|a8 _ _ {?_,aj.refl _}};rw[p,yP,OP hz hd (n:=wd) {λ_=>rfl,λz=>absurd p z}]
      .refine gK (λQb C=>{1,J,1,C}) ?_;let ac:Kept ws k:=by
        rcases iA ws i with z|⟨k',z1,_,z2⟩
        .omega
        .let:k'=k:=by omega
         rwa[←this]
       refine{2,2,3,2,3,cl,wd,_,_,v,J,hC.same s2,ae,al,hw,.inr {C6+k,C6+i,by rw[akH],by rw[akH],o6,o6,λn H3 hn s3=>?_}};refine aU [t8 cl,t9 ↥wd,t9 ↥C6,t8 c,t8 m,t8 j,t9 a,t8 l,t9 ↥i,t9 0,t9 ↥k,t9 ↥n] ?_;dsimp only;let a9:aao wd (cQ v) ↥C6 (bA ws i) i n:={λz=>by omega,λ_=>by rw[p];rwa[akH,akH] at hn};let hsz:=OP hz hd a9;exists 2,l,_,↥k,.int<|wyC C1 r2 r3 ws k,J,J,X0.of<|s3 _ _ e3,bx (by rw[aiR,aiR,anh an];rfl);refine aU [t8 cl,t9 ↥wd,t9 ↥C6,t8 c,t8 m,t8 j,t9 a,t8 l,t9 ↥i,t9<|wyC C1 r2 r3 ws k,t9 ↥k,t9 ↥n]<|a8 _ _ {?_,s3};let⟨w,w1,w2⟩:=ac;rw[hsz,p,nv,show wyC C1 r2 r3 ws k=cI C1 r2 r3 ws k by unfold wyC;rw[w1,aiL λz=>w2<|aiY z]]
     rintro σ H3 ⟨rfl,s3⟩;let s4:=s2.trans s3;let a1:=L.b3 r1 o8;let a3:=L.b3 r3 o8;let z0:=L.sz0 ws i;let z1:=L.sz1 ws i;let a7:C0[i]?=some (C0.getD i 0):=by rw[ai0,aiG o6];rfl
     let ax:=L.b2 _<|aiQ a7;exists 2,j,_,(2),.int r2,J,J,X0.of<|s4 _ _ r,J,3,1,j,_,(3),.int r3,J,J,X0.of<|s4 _ _ r,J,1,3,.inl ⟨o6,o6⟩,3;let ab:gk C1 r2 r3 ws (bA ws i)+r2+r3*szD C1 ws i=cI C1 r2 r3 ws i:=by rw[xE];omega
     rw[ab];refine aU [t8 cl,t9 ↥wd,t9 ↥C6,t8 c,t8 m,t8 j,t9 a,t8 l,t9 ↥i,t9<|cI C1 r2 r3 ws i,some U,t9<|szD C1 ws i] ?_;dsimp only;exists 2,j,_,(0),.int r0,J,J,X0.of<|s4 _ _ r,J,1,j,_,(1),.int r1,J,J,X0.of<|s4 _ _ r,J,1,c,1,.inl<|s4.seq Y,1,3,3,.inl ⟨o6,o6⟩,3,1,3,.inr ⟨o6,o6⟩,3;rw[aiE];refine aU [t8 cl,t9 ↥wd,t9 ↥C6,t8 c,t8 m,t8 j,some<|.int<|a +(r0+r1*(↥ws.length -↥i))*szD C1 ws i,t8 l,t9 ↥i,t9<|cI C1 r2 r3 ws i,some U,t9<|szD C1 ws i] ?_;dsimp only;exists 2,1,m,_,↥i,.int<|C0.getD i 0,J,J,X0.of<|s4 _ _ ag,bx (by rw[aiR,a7];rfl),1,3,.inl ⟨o6,o6⟩,3;refine aU [t8 cl,t9 ↥wd,t9 ↥C6,t8 c,t8 m,t8 j,some<|.int<|a +(r0+r1*(↥ws.length -↥i))*szD C1 ws i+C0.getD i 0*cI C1 r2 r3 ws i,t8 l,t9 ↥i,t9<|cI C1 r2 r3 ws i,some U,t9<|szD C1 ws i] ?_;let am:bB C1 C0 r0 r1 r2 r3 ws i =(r0+r1*(↥ws.length -↥i))*szD C1 ws i+C0.getD i 0*cI C1 r2 r3 ws i:=by unfold bB;rw[e,aiL λz=>B<|aiY z,hl]
     let ar:wyC C1 r2 r3 ws i=cI C1 r2 r3 ws i:=by unfold wyC;rw[e,aiL λz=>B<|aiY z]
     refine a6 _ _ {some U,t9<|szD C1 ws i,?_,?_,s4}
     .rw[ar,show sumTo (bB C1 C0 r0 r1 r2 r3 ws) (i+1)=a +(r0+r1*(↥ws.length -↥i))*szD C1 ws i+C0.getD i 0*cI C1 r2 r3 ws i by rw[a4];show _+bB _ _ _ _ _ _ _ i=_;rw[am];omega]
     .rw[s3 _ _ e3,h1]
   rintro σ H2 ⟨h,g,rfl,h2,s2⟩;rw[h1] at h2;exists 1,.inl {J,_,X0.of h2},1,l,3,h2,aF (by rw[aiE,aiE,ama];omega);refine{_,_,_,3,?_,λb o ex=>by rw[ak<|ao ex a2];exact s2 b o ex};rw[af,akF,aja,aja];rfl
  .rintro σ H1 ⟨a,O,u,h,g,rfl,S,h1,s1⟩;rw[show(↥ws.length).toNat=ws.length by omega] at S h1;exact hN _ _ ⟨a,O,u,h,g,J,S,h1,s1⟩
 rintro σ H1 ⟨a,O,u,h,g,rfl,S,h1,s1⟩;rw[S];exact{1,q _ s1}
variable(dj:bh "_law_allowed" 1 ["_law_choices","_law_weights_here"] (mV K))
include T dj in
theorem A7{f:jl}{fd:q9}(F:Fun K "_law_read" "_law_read" nW f fd):⋯ 2 f fd ["_law_told","_law_weights_here"] (sE):=by
 refine F.okY gU ?_;rintro vs H Q E ⟨a,C0,x,rfl,C,hl,n1,n7,hx,O,j,q⟩;refine⟨J,λa9 A outer s hr=>⟨_,(ai (aV (mX<|oV<|aL oh o9 T.AB PyProof.Rows.boot_isinstance<|aa (pv 0)<|aa (Qe (v:=.ty "str") J T.ny ajJ J) ah) (aq<|aJ dO) aP)
   (ai (psS 2 gU.nd<|cK ajG akh aki lY (pv 0)<|aa aN ah)
   (ai (psS 3 gU.nd<|aQ aT (pv 2) (pG lP au) λ_ _=>rfl)
   (ai (aV (PW.pt<|pw_or (aC qb (aL aK o9 T.bE aiT<|aa (pv 2) ah) (aB bf (aL aK o9 T.bE aiT<|aa (pv 1) ah) au)<|aH _)<|pw_or1<|mX<|GV vD vD au (aL lV o9 T.bE aiT<|aa (pv 3) ah) au) (aq<|aJ dO) aP)
   (ai (cO ajc J (F0<|pv 3) (pgN 4 gU.nd)
   (aq<|aV (aC zM (pv 4) aN (by with_unfolding_all rfl)) (aq<|aJ dO) aP))
   (ai (aV (aC qb (bF eX o9 T.ny ajJ<|aa (bF gS o9 T.wI aku<|aa (pv 3) ah) ah) (pv 3)<|aH _) (aq<|aJ dO) aP)
   (ai (cO ajc J (eE J T.eN<|aa (aL aK o9 T.bE aiT<|aa (pv 1) ah) ah) (pgN 5 gU.nd)
   (aq<|aV (aC A2 (aQ aT (pv 2) (pv 5) λ_ _=>rfl) (pcS dj az hr<|aa (dY fY (pv 2) ic<|dw<|pv 5)<|aa (pv 1) ah) (by with_unfolding_all rfl)) (aq<|aJ dO) aP))
   (aq<|aJ<|eW<|aa (dY fY (pv 2) ic<|dw<|pG lP au)<|aa (bF gS o9 T.wI aku<|aa (pv 3) ah) ah)))))))),?_⟩⟩
 dsimp only[aX];let B:=hx.wd;obtain⟨z,hz⟩:∃z,dH x=z:={1};obtain⟨f,S⟩:∃f,bH x.2=f:={1};let a8:Txt.split z (Str.ofString " ")=x.1++[f]:=by rw[←hz,←S];exact Eu B O
 let a6:z.length≤100000:=by rw[←hz];exact GU B o6 O j
 let ab:1≤f.length:=by rw[←S];exact qq O
 let a0:f.length≤60:=by rw[←S];exact aj6 O o7 j
 let a7:∀ c∈f.cps.toList,48≤c/\c≤57:=by rw[←S];exact ji O
 let a3:intText? f=some x.2:=by rw[←S];exact D0 O j
 rw[hz];refine gK (λQb g=>{1,_,_,_,_,Z1,J,J,.str _,J,1,g}) ?_;unfold qk;dsimp only;refine{1,J,z,Str.ofString " ",J,J,o4,a6,λp hp=>?_};rw[a8];let s0:aj H (Z9 H p (.lst ((x.1++[f]).map V.str))):=aj.new hp;let g0:Z9 H p (.lst ((x.1++[f]).map V.str)) p=some (.lst ((x.1++[f]).map V.str)):=af;generalize Z9 H p (.lst ((x.1++[f]).map V.str))=H0 at s0 g0 ⊢;refine aU [some<|.str z,t8 a,t8 p,Z0,Z0,Z0] ?_;dsimp only;exists 2,p,_,-1,.str f,J,J,X0.of g0,Fe o8;refine aU [some<|.str z,t8 a,t8 p,some<|.str f,Z0,Z0] ?_;dsimp only;refine bR (λσ H'=>σ=[some<|.str z,t8 a,t8 p,some<|.str f,Z0,Z0]/\H'=H0) (λN u=>?_) ?_
 .refine kO Z2 (λH'=>H'=H0) (λQb g=>?_) nofun (λ_ H' s=>u _ _ ⟨J,s⟩);exists 1,p,1,.inl<|X0.of g0,1,a,1,.inl<|X0.of<|s0 _ _ C,3,J,1;rw[aiS (show V.int (((x.1++[f]).map V.str).length:Z4)=V.int (((C0.map Z8).length:Z4)+1) by rw[aiE,aiE,ajj,hl];rfl)];refine gb ?_;refine{1,f,J,ai8 a0 o7,3,1,dZ o6 {3,1,?_}};rw[aiS (show↥f.length≤60 by omega)];exact g _ J
 rintro σ H1 ⟨rfl,rfl⟩;refine bR (λσ H'=>∃m,σ=[some<|.str z,t8 a,t8 p,some<|.str f,m,Z0]/\H'=H1) (λN u=>?_) ?_
 .refine{1,f,J,Qd (x:=f) (λi σ H'=>∃m,σ=[some<|.str z,t8 a,t8 p,some<|.str f,m,Z0]/\H'=H1) ⟨Z0,J,J⟩ ?_ ?_}
  .rintro i c σ H2 hi ⟨v,rfl,rfl⟩;let a5:f.cps.toList[i]?=some c:=⇑hi
   let hc:=a7 c<|aiQ a5;refine gK (λQb g=>{1,3,1,?_}) {1,J};show Qb (!nY c) H2;rwa[Dd hc]
  .rintro σ H2 ⟨v,rfl,rfl⟩;exact u _ _ ⟨v,J,J⟩
 rintro σ H2 ⟨m,rfl,rfl⟩;refine bR (λσ H'=>σ=[some<|.str z,t8 a,t8 p,some<|.str f,m,Z0]/\H'=H2) (λN u=>?_) ?_
 .refine kO Z2 (λH'=>H'=H2) (λQb g=>?_) nofun (λ_ H' s=>u _ _ ⟨J,s⟩);exists 1,f,x.2,J,a3,o6,x.2,J,LA O j,1,J,1;rw[aiS (show V.str (toString x.2)=V.str f by rw[←S];rfl)];exact g _ J
 rintro σ H3 ⟨rfl,rfl⟩;refine bR (λσ H'=>∃r,σ=[some<|.str z,t8 a,t8 p,some<|.str f,m,r]/\aj H3 H') (λN u=>?_) ?_
 .refine{1,a,1,.inl<|X0.of<|s0 _ _ C,↥C0.length,by rw[aiE],o6,o6,fL (lo:=0) (n:=(↥C0.length).toNat) (λi σ H'=>∃r,σ=[some<|.str z,t8 a,t8 p,some<|.str f,m,r]/\aj H3 H') {Z0,J,aj.refl _} ?_ ?_}
  .rintro i σ L hi ⟨r,rfl,s4⟩;let a2:i<x.1.length:=by omega
   let e:x.1[i]?=some x.1[i]:=aiG a2;generalize x.1[i]=w at e;let e2:(x.1++[f])[i]?=some w:=by rwa[aiM a2]
   let⟨wt,a1,hw⟩:=jD<|hx i w e;rw[aiU,show min i x.1.length=i by omega] at a1;refine aU [some<|.str z,t8 a,t8 p,some<|.str f,m,t9<|0 +↥i] ?_;rw[amu];dsimp only;refine kO Z2 (λH'=>aj L H') (λQb g=>?_) nofun λ_ H' s=>{1,s4.trans s};refine{2,p,_,↥i,.str w,J,J,X0.of<|s4 _ _ g0,bx (by rw[aiR,e2];rfl),2,1,p,1,X0.of<|s4 _ _ g0,λt ht=>?_};let b:cT ((x.1++[f]).map V.str) Z0 (some ↥i) =(x.1.take i).map V.str:=by unfold cT;simp[HT.g8,HT.jT,show min i (x.1.length+1)=i by omega,List.map_take];rw[ajX (by simp;omega)]
   rw[b];let s5:=aj.new ht (o:=.lst<|(x.1.take i).map V.str);let Y:Z9 L t (.lst ((x.1.take i).map V.str)) t=some (.lst ((x.1.take i).map V.str)):=af;generalize Z9 L t (.lst ((x.1.take i).map V.str))=H5 at s5 Y ⊢;refine{1,t,a,x.1.take i,C0,wt,J,X0.of Y,by rw[aiU];omega,λy hy=>B y<|am5 hy,s5 _ _<|s4 _ _<|s0 _ _ C,by rwa[aiU,show min i x.1.length=i by omega],λl H6 a4 _ s6=>?_};exists l,1,.inl<|X0.of a4,J,kF _,1;rw[aiN J,CU,aiS hw];exact g _<|s5.trans s6
  .rintro σ L ⟨r,rfl,s4⟩;exact u _ _ ⟨r,J,s4⟩
 rintro σ L ⟨r,rfl,s4⟩;refine{2,1,p,1,X0.of<|s4 _ _ g0,λt ht=>?_};let b:cT ((x.1++[f]).map V.str) Z0 (some (-1))=x.1.map V.str:=by unfold cT;simp[HT.sIx,HT.jT,List.map_append];rw[show(-1 +(↥x.1.length+1)).toNat =(x.1.map V.str).length by rw[aiE];omega,List.take_left]
 rw[b];let s5:=aj.new ht (o:=.lst<|x.1.map V.str);let Y:Z9 L t (.lst (x.1.map V.str)) t=some (.lst (x.1.map V.str)):=af;generalize Z9 L t (.lst (x.1.map V.str))=H5 at s5 Y ⊢;refine{1,f,x.2,J,a3,o6,v9,λt2 U=>?_};exact q t2 t _ af (aj.new U _ _ Y)<|s0.trans<|s4.trans<|s5.trans<|aj.new U
include T in
theorem zg{f:jl}{fd:q9}(F:Fun K "_law_ahead" "_law_ahead" lZ f fd):⋯ 1 f fd ["_law_choices","_law_others"] (pA K):=by
 refine F.okY iH ?_;rintro vs H Q E ⟨a,c,ws,us,rfl,S,U,Y,h10,hw,hu,q⟩;refine⟨J,λa0 A outer s hr=>⟨_,(ai (rQ (i:=2) iH.nd J (Or.inr J)<|bI<|aa aN<|aa aN<|aa aN<|aa aN ah)
   (ai (gY (i:=3) iH.nd J (Or.inl J) (N:=["_law_head","_law_order"]) (k:=1) (cap:=[2]) J J (cg<|pv 0) (λ_ _ _ _=>(pgN 0 (show(["_law_head","_law_order"]:fy Z6).Nodup from by decide +kernel)<|.inr J)) (λ_ _ _ _=>cj) λ_ _ _ _=>(FY (K:=K) J ai4 ali amy yT (pv 1)<|aa (pv 0) ah))
   (ai (gY (i:=4) iH.nd J (Or.inl J) (N:=["_law_head","_law_order"]) (k:=1) (cap:=[2]) J J (cg<|pv 1) (λ_ _ _ _=>(pgN 0 (show(["_law_head","_law_order"]:fy Z6).Nodup from by decide +kernel)<|.inr J)) (λ_ _ _ _=>cj) λ_ _ _ _=>(FY (K:=K) J ai4 ali amy yT (pv 1)<|aa (pv 0) ah))
   (aq<|aJ<|fz (RV<|akk (Nat.le_add_right _ 64) hr.units) (pv 3) (pv 4)<|aH _)))),?_⟩⟩
 dsimp only[aX];refine{(by show 4≤Z7;decide),λl r=>?_};let n:aj H (Z9 H l (.lst [.str wN,.str wW,.str wS,.str wL])):=aj.new r;let g0:Z9 H l (.lst [.str wN,.str wW,.str wS,.str wL]) l=some (.lst (([wN,wW,wS,wL]:fy Z6).map V.str)):=af;refine aU [t8 a,t8 c,t8 l,Z0,Z0] ?_;dsimp only;change nV _ _ _ _ (Z9 H l<|.lst [.str wN,.str wW,.str wS,.str wL]);generalize Z9 H l (.lst [.str wN,.str wW,.str wS,.str wL])=H0 at n g0 ⊢;refine bR (λσ H'=>∃d,σ=[t8 a,t8 c,t8 l,t8 d,Z0]/\H' d=some (.lst<|(ws.map rkW).map Z8)/\aj H0 H') (λN t=>?_) ?_
 .refine{1,a,J,{_,n.seq S},λD p=>?_};refine cR D (K:=K) (a:=a) (xs:=ws.map V.str) (λi σ h ys=>∃(v:nt V),σ=[v,t8 l]/\aj H0 h/\h D=some (.lst ys)/\ys =((ws.take i).map rkW).map Z8) {Z0,J,aj.new p,af,o8} (λi σ h ys _ u=>by let⟨_,_,s5,_⟩:=u;exact s5.seq<|n.seq S) ?_ ?_
  .rintro i x σ h ys hi ⟨v,rfl,s5,m,rfl⟩;obtain⟨y,g,rfl⟩:∃y,ws[i]?=some y/\V.str y=x:=by rw[aiR] at hi;let⟨c,h1,h2⟩:=ai9.mp hi;exact⟨c,h1,h2⟩
   let C:=(aiH.mp g).1;let⟨j,B,O,z⟩:=zQ<|hw y<|aiQ g;exists 1,.inl {J,_,X0.of<|s5 _ _ g0},1,l,_,y,j,J,J,s5 _ _ g0,B,O;exists m,by rw[aiE,aiE,aiU];exact aF o6,1,λb o e=>?_,af
   .rw[ak<|ao e p];exact s5 b _ e
   .rw[aiZ,g];simp[z]
  .rintro σ h ys ⟨v,rfl,s5,m,rfl⟩;rw[aiE,ai7] at m;exact aU [t8 a,t8 c,t8 l,t8 D,Z0]<|t _ _ ⟨D,J,m,s5⟩
 rintro σ H1 ⟨d,rfl,hd,s1⟩;refine bR (λσ H'=>∃d2,σ=[t8 a,t8 c,t8 l,t8 d,t8 d2]/\H' d2=some (.lst<|(us.map rkW).map Z8)/\aj H1 H') (λN t=>?_) ?_
 .refine{1,c,J,{_,s1.seq<|n.seq U},λD p=>?_};refine cR D (K:=K) (a:=c) (xs:=us.map V.str) (λi σ h ys=>∃(v:nt V),σ=[v,t8 l]/\aj H1 h/\h D=some (.lst ys)/\ys =((us.take i).map rkW).map Z8) {Z0,J,aj.new p,af,o8} (λi σ h ys _ u=>by let⟨_,_,s5,_⟩:=u;exact s5.seq<|s1.seq<|n.seq U) ?_ ?_
  .rintro i x σ h ys hi ⟨v,rfl,s5,m,rfl⟩;obtain⟨y,g,rfl⟩:∃y,us[i]?=some y/\V.str y=x:=by rw[aiR] at hi;let⟨c,h1,h2⟩:=ai9.mp hi;exact⟨c,h1,h2⟩
   let C:=(aiH.mp g).1;let⟨j,B,O,z⟩:=zQ<|hu y<|aiQ g;exists 1,.inl {J,_,X0.of<|s5 _ _<|s1 _ _ g0},1,l,_,y,j,J,J,s5 _ _<|s1 _ _ g0,B,O;exists m,by rw[aiE,aiE,aiU];exact aF o6,1,λb o e=>?_,af
   .rw[ak<|ao e p];exact s5 b _ e
   .rw[aiZ,g];simp[z]
  .rintro σ h ys ⟨v,rfl,s5,m,rfl⟩;rw[aiE,ai7] at m;exact aU [t8 a,t8 c,t8 l,t8 d,t8 D]<|t _ _ ⟨D,J,m,s5⟩
 rintro σ H2 ⟨d2,rfl,L,s2⟩;exact{2,d,d2,3,s2 _ _ hd,L,by rw[aiE,aiE,Y],q _<|n.trans<|s1.trans s2}
variable(cW:bh "_law_cell" 1 ["_law_script","_law_k"] (xo K))
variable(ia:bh "_law_changes" 3 ["_law_cell_here","_law_wide"] mh)
variable(vt:kG "Desk" bG 8 ["self","wide","seek","each","rules"] (sC bG av aA aD))
variable(er:dM bG "say" 12 ["self","row"] (jV bG av aA aD aG aI))
variable(jJ:bh "_law_rates" 2 ["_law_cell_here"] pJ)
variable(ie:bh "_law_weights" 2 ["_law_cell_here","_law_many"] mW)
variable(j7:bh "_law_read" 2 ["_law_told","_law_weights_here"] sE)
variable(iB:bh "_law_cost" 2 ["_law_changes_here","_law_wide","_law_begin","_law_choices","_law_weights_here","_law_rates_here"] (sF K))
variable(jb:bh "_law_ahead" 1 ["_law_choices","_law_others"] (pA K))
include T bz dj cW ia vt er jJ ie j7 iB jb in
theorem YQ{f:jl}{fd:q9}(F:Fun K "law" "law" kg f fd):⋯ 13 f fd ["_law_script"] (oE K):=by
 refine F.okY cG ?_;rintro vs H Q E ⟨a,ns,rfl,hS,ev,q⟩;refine⟨J,λeg A outer s U=>⟨_,(ai (psS 1 cG.nd<|pcS cW az U<|aa (pv 0)<|aa au ah)
   (ai (rQ (i:=2) cG.nd J (Or.inr J)<|aB bf au<|aB bW (aB gu (pv 1) au)<|aQ aT (bI<|aa au<|aa au ah) (aB bW (pv 1) au) λ_ _=>rfl)
   (ai (psS 3 cG.nd<|aL (m9 J) o9 T.wD akt<|aa au<|aa (aL (qK J) o9 T.zA akQ<|aa (aB lR (aL aK o9 T.bE aiT<|aa (pv 0) ah) au)<|aa au ah) ah)
   (ai (gY (i:=4) cG.nd J (Or.inl J) (N:=["_law_k","_law_wide","_law_script"]) (k:=1) (cap:=[2,0]) J J (eE J T.eN<|aa (pv 3) ah) (λ_ _ _ _=>(pgN 0 (show(["_law_k","_law_wide","_law_script"]:fy Z6).Nodup from by decide +kernel)<|.inr J)) (λ_ _ _ _=>cj) λ_ _ _ _=>(pcS ia az U<|aa (pcS cW az U<|aa (pv 2)<|aa (aB bf au<|pv 0) ah)<|aa (pv 1) ah))
   (ai (psS 5 cG.nd<|iR vt az (U.mono o7) J<|aa (pv 2)<|aa au<|aa au<|aa aN ah)
   (ai (cO ajc J (cg<|pv 4) (pgN 6 cG.nd)
   (ai (aY<|bM (pv 5) T.iZ er az (U.mono o7)<|aa (cK ajG alE alF xg aN<|aa (aB oA (bI<|aa aN ah)<|dg (N:=["_law_place","_law_block_here"]) (k:=2) (cap:=[]) J J (cg<|pv 6) (λ_ _ _ _=>(sM (K:=K) (n:=2) J J<|bS (pgN 0 (show(["_law_place","_law_block_here"]:fy Z6).Nodup from by decide +kernel)<|.inr J)<|bS (pgN 1 (show(["_law_place","_law_block_here"]:fy Z6).Nodup from by decide +kernel)<|.inr J) gD)) (λ_ _ _ _=>cj) λ_ _ _ _=>(aB wF (aB wF (bF eX o9 T.ny ajJ<|aa (pv 0) ah) aN)<|bF eX o9 T.ny ajJ<|aa (pv 1) ah)) ah) ah)
   (aq<|aV (aC bL (aB bW (aL aK o9 T.bE aiT<|aa (pv 6) ah) au) au<|aH _) (aq<|aY<|bM (pv 5) T.iZ er az (U.mono o7)<|aa aN ah) aP)))
   (ai (psS 7 cG.nd<|bM (pv 5) T.iZ er az (U.mono o7)<|aa aN ah)
   (ai (psS 8 cG.nd<|aB bf au<|aB bW (pcS cW az U<|aa (pv 0)<|aa au ah)<|aL (qK J) o9 T.zA akQ<|aa (aQ aT (bI<|aa au<|aa au<|aa au<|aa au ah) (aB bW (aB gu (pv 1) au) au) λ_ _=>rfl)<|aa (aB bf (pv 3) au) ah)
   (ai (psS 9 cG.nd<|aB bW (aB gu (pcS cW az U<|aa (pv 0)<|aa au ah) au)<|aB lR (aB bf (pv 3) au)<|pv 8)
   (ai (psS 10 cG.nd<|pcS jJ az U<|aa (pcS cW az U<|aa (pv 0)<|aa au ah) ah)
   (ai (psS 11 cG.nd<|pcS ie az U<|aa (pcS cW az U<|aa (pv 0)<|aa au ah)<|aa (pv 8) ah)
   (ai (aV (aC jz (pv 8) au<|aH _) (aq<|gY (i:=11) cG.nd J (Or.inl J) (N:=["_law_weight"]) (k:=1) (cap:=[]) J J (cg<|pv 11) (λ_ _ _ _=>(pgN 0 (show(["_law_weight"]:fy Z6).Nodup from by decide +kernel)<|.inr J)) (λ_ _ _ _=>cj) λ_ _ _ _=>(aL (m9 J) o9 T.wD akt<|aa au<|aa (pv 0) ah)) aP)
   (ai (psS 12 cG.nd<|aB oA (aB oA (bI<|aa (pv 9) ah)<|pv 10)<|pv 11)
   (ai (psS 13 cG.nd<|cK ajG alE alF xg aN<|aa (aB oA (bI<|aa aN ah)<|dg (N:=["_law_number"]) (k:=1) (cap:=[]) J J (cg<|pv 12) (λ_ _ _ _=>(pgN 0 (show(["_law_number"]:fy Z6).Nodup from by decide +kernel)<|.inr J)) (λ_ _ _ _=>cj) λ_ _ _ _=>(bF eX o9 T.ny ajJ<|aa (pv 0) ah)) ah)
   (ai (psS 14 cG.nd<|bM (pv 5) T.iZ er az (U.mono o7)<|aa (pv 13) ah)
   (ai (psS 15 cG.nd<|pcS j7 az U<|aa (pv 14)<|aa (pv 11) ah)
   (ai (aV (aC oZ (pv 15) dO<|aH _) (aq<|aJ nh) aP)
   (ai (psS 16 cG.nd<|pcS iB az U<|aa (pv 4)<|aa (pv 2)<|aa (pv 9)<|aa (aQ bX (pv 15) au λ_ _=>rfl)<|aa (pv 11)<|aa (pv 10) ah)
   (ai (aV (aC qb (aQ bX (pv 15) au λ_ _=>rfl) (pv 16)<|aH _) (aq<|aJ nh) aP)
   (ai (psS 17 cG.nd<|bI ah)
   (ai (cO ajc J (eE J T.eN<|aa (pv 8) ah) (pgN 18 cG.nd)
   (ai (psS 19 cG.nd<|pcS dj az U<|aa (pv 17)<|aa (pv 11) ah)
   (aq<|aY<|cK ai4 aje ajf cC (pv 17)<|aa (aQ aT (pv 19) (aB bW (pcS bz az U<|aa (pcS cW az U<|aa (pv 0)<|aa au ah)<|aa (pv 18) ah)<|aL aK o9 T.bE aiT<|aa (pv 19) ah) λ_ _=>rfl) ah)))
   (ai (psS 16 cG.nd<|pcS iB az U<|aa (pv 4)<|aa (pv 2)<|aa (pv 9)<|aa (pv 17)<|aa (pv 11)<|aa (pv 10) ah)
   (ai (aV (aC kh (pv 16) (aQ bX (pv 15) au λ_ _=>rfl)<|aH _) (aq<|aJ nh) aP)
   (ai (aV (PW.pt<|pw_and (aC bL (pv 16) (aQ bX (pv 15) au λ_ _=>rfl)<|aH _)<|pw_and1<|mX<|oV<|pcS jb az U<|aa (aQ bX (pv 15) au λ_ _=>rfl)<|aa (pv 17) ah) (aq<|aJ nh) aP)
   (aq<|aJ<|wR (fz bL (bM (pv 5) T.iZ er az (U.mono o7)<|aa (pv 13) ah) (pv 14)<|aH _)<|sG<|fz bL (bM (pv 5) T.iZ er az (U.mono o7)<|aa aN ah) (pv 7)<|aH _))))))))))))))))))))))))),?_⟩⟩
 dsimp only[aX];exists 1,a,ns,(0),J,hS;generalize hc0:gw ns ((0:Z5):Z4)=S;refine aU [t8 a,t9 S,Z0,Z0,Z0,Z0,Z0,Z0,Z0,Z0,Z0,Z0,Z0,Z0,Z0,Z0,Z0,Z0,Z0,Z0] ?_;dsimp only;refine bR (λσ H'=>∃wd:Z5,σ=[t8 a,t9 S,t9 ↥wd,Z0,Z0,Z0,Z0,Z0,Z0,Z0,Z0,Z0,Z0,Z0,Z0,Z0,Z0,Z0,Z0,Z0]/\aj H H'/\1≤wd/\wd≤40) (λN O=>?_) ?_
 .obtain⟨m,hm,dz⟩:∃m:Z4,atI [V.int 5,V.int 40] (S % 2)=some (.int m)/\(m=5∨m=40):=by
   rcases(show S % 2=0∨S % 2=1 by omega) with e|e
   .exact{(5),by rw[e];rfl,.inl J}
   .exact{(40),by rw[e];rfl,.inr J}
  obtain⟨wd,de,e0⟩:∃wd:Z5,1+S / 2 % m =↥wd/\1≤wd/\wd≤40:=by
   rcases dz with rfl|rfl
   .exact{(1+S / 2 % 5).toNat,o6,o6,o6}
   .exact{(1+S / 2 % 40).toNat,o6,o6,o6}
  refine{1,3,⟨o5,o5⟩,v9,λt ht=>?_};exact{1,3,o5,t,_,S % 2,.int m,J,J,X0.of af,hm,3,o6,3,O _ _ {wd,by rw[de];rfl,aj.new ht,e0}}
 rintro σ H1 ⟨wd,rfl,s1,ds,be⟩;refine bR (λσ H'=>∃n:Z5,σ=[t8 a,t9 S,t9 ↥wd,t9 ↥n,Z0,Z0,Z0,Z0,Z0,Z0,Z0,Z0,Z0,Z0,Z0,Z0,Z0,Z0,Z0,Z0]/\H1=H'/\2≤n/\n≤8) (λN O=>?_) ?_
 .obtain⟨n,en,hn⟩:∃n:Z5,(if (if ↥8 <((ns.map Z8).length:Z4)-5 then↥8 else((ns.map Z8).length:Z4)-5)>2 then(if ↥8 <((ns.map Z8).length:Z4)-5 then↥8 else((ns.map Z8).length:Z4)-5) else 2) =↥n/\2≤n/\n≤8:=by generalize ((ns.map Z8).length:Z4)-5=y;exists (if (if ↥8<y then↥8 else y)>2 then(if ↥8<y then↥8 else y) else 2).toNat;split <;> split <;> omega
  exact{1,a,1,.inl<|s1.seq hS,3,_,1,_,1,O _ _ {n,by rw[en];rfl,J,hn}}
 rintro σ _ ⟨n,rfl,rfl,dL,ef⟩;refine bR (λσ H'=>∃(cl:jl)(g:fy (fy (Z4×Z4))),σ=[t8 a,t9 S,t9 ↥wd,t9 ↥n,t8 cl,Z0,Z0,Z0,Z0,Z0,Z0,Z0,Z0,Z0,Z0,Z0,Z0,Z0,Z0,Z0]/\aj H1 H'/\xB H' cl g/\g.length=n/\∀ cs∈g,nG wd cs/\cs.length≤3) (λN O=>?_) ?_
 .refine{1,↥n,J,o6,o6,λD hD=>?_};rw[show(↥n).toNat=n by omega];refine lu (lo:=0) (n:=n) D (λi σ H2 ys=>∃(v:nt V)(PL:fy jl)(g:fy (fy (Z4×Z4))),σ=[v,t9 ↥wd,t8 a]/\aj H1 H2/\H2 D=some (.lst ys)/\ys=PL.map V.ref/\PL.length=g.length/\g.length=i/\(∀ cs∈g,nG wd cs/\cs.length≤3)/\D∉PL/\∀(j:Z5)b cs,PL[j]?=some b->g[j]?=some cs->∃L,H2 b=some (.lst L)/\fZ H2 L cs) {Z0,[],[],J,aj.new hD,af,J,J,J,o8,o8,o8} ?_ ?_
  .rintro i σ H2 ys hi ⟨v,PL,g,rfl,s2,h2,rfl,hpl,bb,al,cc,bw⟩;let e5:↥5 +(0 +↥i) =((5+i:Z5):Z4):=by omega
   refine{2,3,a,ns,5+i,by rw[←e5],s2.seq<|s1.seq hS,1,_,wd,J,ds,be,λl L cs H3 hl nl hc bj h3 s3=>?_};let cx:l≠D:=λz=>by rw[z,h2] at nl;cases nl
   let ch:=s3 _ _ h2;let kT:∀{b:jl}{L:fy V}{cs:fy (Z4×Z4)},b≠D->H3 b=some (.lst L)->fZ H3 L cs->∃L,(Z9 H3 D (.lst (PL.map V.ref++[.ref l]))) b=some (.lst L)/\fZ (Z9 H3 D (.lst (PL.map V.ref++[.ref l]))) L cs:=λhb hL hC=>{_,by rwa[ak hb],hC.mono λt' xs e=>by rwa[ak<|bU e ch nofun]}
   refine{ch,by rw[aiE];exact aF o6,_,PL++[l],g++[cs],J,λb o e=>?_,af,o8,by simp[hpl],by simp[bb],λc an=>?_,λz=>?_,λj b dK e1 e2=>?_}
   .rw[ak<|ao e hD];exact s3 _ _<|s2 b _ e
   .rcases aiX.mp an with an|an
    .exact al c an
    .rw[ai6.mp an];exact⟨bj,h3⟩
   .rcases aiX.mp z with z|z
    .exact cc z
    .exact cx (ai6.mp z).symm
   .rcases ams j PL.length with hj|hj
    .rw[aiM hj] at e1;rw[aiM o6] at e2;let⟨L',h4,h5⟩:=bw j b dK e1 e2;exact kT (λz=>cc<|z ▸ aiQ e1) (s3 _ _ h4) (h5.mono λt' xs e=>s3 _ _ e)
    .rw[aiP hj] at e1;rw[aiP o6,←hpl] at e2;let df:j-PL.length=0:=by let:=(aiH.mp e1).1;simp at this;omega
     rw[df] at e1 e2;cases e1;cases e2;exact kT cx hl hc
  .rintro σ H2 ys ⟨v,PL,g,rfl,s2,h2,rfl,hpl,bb,al,cc,bw⟩;exact O _ _ {D,g,J,s2,⟨⟨PL,h2,hpl,bw⟩⟩,bb,al}
 rintro σ B ⟨cl,g,rfl,s2,hC,bb,al⟩;let du:=s2.seq<|s1.seq hS;clear hS s1 s2 hc0;refine bR (λσ H'=>∃(k:jl)(A:SAd),σ=[t8 a,t9 S,t9 ↥wd,t9 ↥n,t8 cl,t8 k,Z0,Z0,Z0,Z0,Z0,Z0,Z0,Z0,Z0,Z0,Z0,Z0,Z0,Z0]/\Dy9 bG av aA aD aG B H' k A wd [List.replicate wd 0] (cQ []) [] (λ_ _=>Z0)) (λN O=>?_) ?_
 .refine{1,λk dx hx dC ep=>{k,dx,↥wd,.int 3,.int 5,J,af,⟨o6,o6⟩,λA H4 hk hn bp cd kk=>{J,O _ _ {k,A,J,?_}}}};let bp:=bp aG;rw[show(↥wd).toNat=wd by omega] at bp;refine{⟨dx,hk⟩,bp,hn 0,λz=>?_,eG hx dC kk,λx dc=>(aR (aR<|cd x dc).1).1};let:=cd k z;rw[af] at this;cases this
 rintro σ H4 ⟨k,A,rfl,hI⟩;refine bR (λσ H'=>∃(v6:nt V)(A:SAd)(C2:fy (fy Z4))(us:fy PcU)(M:Z5->cY),σ=[t8 a,t9 S,t9 ↥wd,t9 ↥n,t8 cl,t8 k,v6,Z0,Z0,Z0,Z0,Z0,Z0,Z0,Z0,Z0,Z0,Z0,Z0,Z0]/\Dy9 bG av aA aD aG B H' k A wd C2 (cQ g) us M/\C2.length=n+1) (λN O=>?_) ?_
 .let⟨PL,d6,e4,dq⟩:=hC.ex;refine{1,cl,J,{_,X0.of<|hI.sb _ _ d6},gv (K:=K) (a:=cl) (xs:=PL.map V.ref) (λi σ H'=>∃(v6:nt V)(A:SAd)(C2:fy (fy Z4))(us:fy PcU)(M:Z5->cY),σ=[t8 a,t9 S,t9 ↥wd,t9 ↥n,t8 cl,t8 k,v6,Z0,Z0,Z0,Z0,Z0,Z0,Z0,Z0,Z0,Z0,Z0,Z0,Z0]/\Dy9 bG av aA aD aG B H' k A wd C2 (cQ<|g.take i) us M/\C2.length=i+1/\us.length≤i) {Z0,A,_,[],1,hI,J,aiK _} (λi σ H' _ z0=>by let⟨_,_,_,_,_,_,i',_⟩:=z0;exact X0.of<|i'.sb _ _ d6) ?_ ?_}
  .rintro i v σ H5 hi ⟨v6,A5,C2,us,M,rfl,h5,cw,dS⟩;obtain⟨b,hb,rfl⟩:∃b,PL[i]?=some b/\V.ref b=v:=by rw[aiR] at hi;let⟨c,h1,h2⟩:=ai9.mp hi;exact⟨c,h1,h2⟩
   let c2:i<g.length:=by let:=(aiH.mp hb).1;omega
   obtain⟨cs,c3⟩:∃cs,g[i]?=some cs:={_,aiG c2};let⟨L,hL,ct⟩:=dq i b cs hb c3;let⟨bj,h3⟩:=al cs<|aiQ c3;let hg:∀ c∈cs,jF c:=λc hc=>CM be<|bj.2 c hc
   refine aU [t8 a,t9 S,t9 ↥wd,t9 ↥n,t8 cl,t8 k,t8 b,Z0,Z0,Z0,Z0,Z0,Z0,Z0,Z0,Z0,Z0,Z0,Z0,Z0] ?_;dsimp only;refine bR (λσ H'=>∃(A:SAd)(a0:fy (fy Z4)),σ=[t8 a,t9 S,t9 ↥wd,t9 ↥n,t8 cl,t8 k,t8 b,Z0,Z0,Z0,Z0,Z0,Z0,Z0,Z0,Z0,Z0,Z0,Z0,Z0]/\Dy9 bG av aA aD aG B H' k A wd a0 (cQ<|g.take (i+1)) us M/\a0.length=i+2) (λN2 dA=>?_) ?_
   .let⟨a6,g2⟩:=id h5.dk;refine{1,k,a6,1,g2,J,J,v8,λl1 ab=>?_};let s6:aj H5 (Z9 H5 l1 (.lst [.str "day"])):=aj.new ab;let g6:Z9 H5 l1 (.lst [.str "day"]) l1=some (.lst [.str "day"]):=af;let h6:=h5.same s6;generalize Z9 H5 l1 (.lst [.str "day"])=H6 at s6 g6 h6 ⊢;refine{1,b,J,{_,X0.of<|h6.sb _ _ hL},λD hD=>?_};refine cR D (K:=K) (a:=b) (xs:=L) (λj σ H7 ys=>∃(v0 v1:nt V),σ=[v0,v1]/\aj H6 H7/\H7 D=some (.lst ys)/\ys =((cs.take j).map wordOf).map V.str) {Z0,Z0,J,aj.new hD,af,o8} (λj σ H7 ys _ z0=>by let⟨_,_,_,s7,_⟩:=z0;exact X0.of<|s7 _ _<|h6.sb _ _ hL) ?_ ?_
    .rintro j v σ H7 ys hj ⟨v0,v1,rfl,s7,hy,rfl⟩;let⟨t,r,rfl,e2,e3⟩:=ct.get j v hj;let U:=hg r<|aiQ e2;let hwl:=lF U;let ej:=gp U.1.1 U.1.2;let dL:=gp U.2.1 U.2.2;exists t,1,X3.of<|s7 _ _<|h6.sb _ _ e3,J,_,1,3;exists 1,r.1,J,vN U.1.1 U.1.2,3,ai8 (show(bH r.1).length+1≤40 by omega) o7,1,r.2,J,vN U.2.1 U.2.2,3,ai8 (show(bH r.1++Str.ofString "=").length +(bH r.2).length≤80 by let e:(bH r.1++Str.ofString "=").length =(bH r.1).length+1:=(Str.length_append _ _);omega) o7;exists hy,by rw[aiE,aiE,aiU];exact aF o6,_,1,λb o e=>?_,af
     .rw[ak<|ao e hD];exact s7 b _ e
     .rw[aiZ,e2];simp[←afq]
    .rintro σ H7 ys ⟨v0,v1,rfl,s7,hy,rfl⟩;rw[ct.len,ai7] at hy;refine{l1,D,3,s7 _ _ g6,hy,ai8 (show 1 +((cs.map wordOf).map V.str).length≤40 by rw[aiE,aiE];omega) o7,λp hp=>?_};let h8:=(h6.same s7).same<|aj.new hp (o:=.lst<|(Str.ofString "day" :: cs.map wordOf).map V.str);exists Str.ofString " ",p,Str.ofString "day" :: cs.map wordOf,J,J,X0.of af,?_
     .let:=mG (ws:=Str.ofString "day" :: cs.map wordOf) (n:=41) λw hw=>by
       rcases aiV.mp hw with rfl|hw
       .decide +kernel
       .let⟨c,hc,rfl⟩:=ajd.mp hw;exact lF<|hg c hc
      let e:(Str.ofString " ":Str).length=1:=by decide +kernel
      rw[e];rw[ajE,aiE] at this ⊢;omega
     .refine Dy9.day h8 J bj h3 o6 λs A' a0 H' h9 ew=>dA _ _ {A',a0,J,?_,o6}
      rw[aiZ,c3];show Dy9 bG av aA aD aG B H' k A' wd a0 (cQ<|g.take i++[cs]) us M;rwa[FI]
   rintro σ H6 ⟨A6,ax,rfl,h6,ce⟩;refine kO (decide (V.int (↥L.length % 2)=V.int 1)) (λH'=>H'=H6) (λQb hq=>?_) (λ_ H' e=>?_) λ_ H' e=>?_
   .exact{1,b,1,.inl<|X0.of<|h6.sb _ _ hL,3,o5,J,1,hq _ J}
   .subst e;let⟨a6,g2⟩:=id h6.dk;exact{1,k,a6,1,g2,J,Dy9.keep h6 o6 λs A' u M' H' h9=>{_,A',ax,_,M',J,h9,ce,by simp;omega}}
   .subst e;exact{_,A6,ax,us,M,J,h6,ce,o6}
  .rintro σ H5 ⟨v6,A5,C2,us,M,rfl,h5,cw,dS⟩;rw[aiE,e4,ai7,bb] at *;exact O _ _ ⟨v6,A5,C2,us,M,J,h5,cw⟩
 clear hI;rintro σ H5 ⟨v6,A5,C2,us,M,rfl,hI,eh⟩;obtain⟨mk,cp⟩:∃mk,Str.join (Str.ofString " ") (((l3 λi=>(A5.n i:Z4)).map Z8).map shT)=mk:={1};refine bR (λσ H'=>σ=[t8 a,t9 S,t9 ↥wd,t9 ↥n,t8 cl,t8 k,v6,some<|.str mk,Z0,Z0,Z0,Z0,Z0,Z0,Z0,Z0,Z0,Z0,Z0,Z0]/\Dy9 bG av aA aD aG B H' k A5 wd C2 (cQ g) us M) (λN O=>?_) ?_
 .let⟨a6,g2⟩:=id hI.dk;exact{1,k,a6,1,g2,J,Dy9.marks hI λH6 s6=>O _ _ {by rw[←cp];rfl,hI.same s6}}
 clear hI;rintro σ H6 ⟨rfl,hI⟩;let bo:=hI.sb.seq du;refine bR (λσ H'=>∃m:Z5,σ=[t8 a,t9 S,t9 ↥wd,t9 ↥n,t8 cl,t8 k,v6,some<|.str mk,t9 ↥m,Z0,Z0,Z0,Z0,Z0,Z0,Z0,Z0,Z0,Z0,Z0]/\aj H6 H'/\1≤m/\m≤7/\m≤n+1) (λN O=>?_) ?_
 .obtain⟨q4,dr,ed⟩:∃q4:Z4,atI [V.int 4,V.int 4,V.int 4,V.int 7] (S / 160 % 4)=some (.int q4)/\(q4=4∨q4=7):=by
   rcases(show S / 160 % 4=0∨S / 160 % 4=1∨S / 160 % 4=2∨S / 160 % 4=3 by omega) with e|e|e|e
   .exact{(4),by rw[e];rfl,.inl J}
   .exact{(4),by rw[e];rfl,.inl J}
   .exact{(4),by rw[e];rfl,.inl J}
   .exact{(7),by rw[e];rfl,.inr J}
  obtain⟨y,hy,es⟩:∃y:Z4,(if ↥n+1<q4 then↥n+1 else q4)=y/\1≤y/\y≤7/\y≤n+1:={1,by split <;> omega};let z1:=aj3 (gw ns ((1:Z5):Z4)) (show y≠0 by omega);let z2:=ajO (gw ns ((1:Z5):Z4)) (show↥0<y by omega);obtain⟨m,em,hm⟩:∃m:Z5,1+gw ns ((1:Z5):Z4) % y =↥m/\1≤m/\m≤7/\m≤n+1:={(1+gw ns ((1:Z5):Z4) % y).toNat,o6,o6,o6,o6};refine{1,a,ns,(1),J,bo,(by show 4≤Z7;decide),λt ht=>?_};exists 1,3,⟨o5,o5⟩,3,o5,t,_,S / 160 % 4,.int q4,J,J,X0.of af,dr,1,3,_,1;rw[hy];exact{3,o6,3,O _ _ {m,by rw[em];rfl,aj.new ht,hm}}
 rintro σ H7 ⟨m,rfl,s7,eu,e7,et⟩;replace hI:=hI.same s7;refine bR (λσ H'=>∃bg:Z5,σ=[t8 a,t9 S,t9 ↥wd,t9 ↥n,t8 cl,t8 k,v6,some<|.str mk,t9 ↥m,t9 ↥bg,Z0,Z0,Z0,Z0,Z0,Z0,Z0,Z0,Z0,Z0]/\H7=H'/\bg+m≤n+1) (λN O=>?_) ?_
 .let z1:=aj3 (gw ns ((1:Z5):Z4) / 28) (show↥n+2 -↥m≠0 by omega);let z2:=ajO (gw ns ((1:Z5):Z4) / 28) (show↥0 <↥n+2 -↥m by omega);obtain⟨bg,eb,hb⟩:∃bg:Z5,gw ns ((1:Z5):Z4) / 28 % (↥n+2 -↥m) =↥bg/\bg+m≤n+1:={(gw ns ((1:Z5):Z4) / 28 % (↥n+2 -↥m)).toNat,o6,o6};exact{1,a,ns,(1),J,s7.seq bo,3,⟨o5,o5⟩,1,3,1,3,3,o6,O _ _ {bg,by rw[eb];rfl,J,hb}}
 rintro σ _ ⟨bg,rfl,rfl,e8⟩;let c8:=s7.seq bo;refine bR (λσ H'=>∃(rl:jl)(r0 r1 r2 r3:Z4),σ=[t8 a,t9 S,t9 ↥wd,t9 ↥n,t8 cl,t8 k,v6,some<|.str mk,t9 ↥m,t9 ↥bg,t8 rl,Z0,Z0,Z0,Z0,Z0,Z0,Z0,Z0,Z0]/\aj H7 H'/\H' rl=some (.lst [.int r0,.int r1,.int r2,.int r3])/\∀ x∈[r0,r1,r2,r3],0≤x/\x≤1000000000000) (λN O=>?_) ?_
 .exact{1,a,ns,(2),J,c8,1,λrl r0 r1 r2 r3 H8 hrl e9 U s8=>O _ _ ⟨rl,r0,r1,r2,r3,J,s8,hrl,U⟩}
 rintro σ H8 ⟨rl,r0,r1,r2,r3,rfl,s8,hrl,U⟩;replace hI:=hI.same s8;let c4:=s8.seq c8;refine bR (λσ H'=>∃(Y:jl)(ws:fy Z4),σ=[t8 a,t9 S,t9 ↥wd,t9 ↥n,t8 cl,t8 k,v6,some<|.str mk,t9 ↥m,t9 ↥bg,t8 rl,t8 Y,Z0,Z0,Z0,Z0,Z0,Z0,Z0,Z0]/\aj H8 H'/\H' Y=some (.lst<|ws.map Z8)/\ws.length=m/\∀ x∈ws,↥0≤x/\x≤1000000000000) (λN O=>?_) ?_
 .exact{1,a,ns,(3),J,c4,1,_,m,J,o6,λY ws H9 hwl ee c1 bd s9=>O _ _ ⟨Y,ws,J,s9,hwl,c1,bd⟩}
 rintro σ H9 ⟨Y,bl,rfl,s9,ae,bu,ar⟩;refine bR (λσ H'=>∃(Y:jl)(ws:fy Z4),σ=[t8 a,t9 S,t9 ↥wd,t9 ↥n,t8 cl,t8 k,v6,some<|.str mk,t9 ↥m,t9 ↥bg,t8 rl,t8 Y,Z0,Z0,Z0,Z0,Z0,Z0,Z0,Z0]/\aj H8 H'/\H' Y=some (.lst<|ws.map Z8)/\ws.length=m/\∀ x∈ws,↥0≤x/\x≤1000000000000) (λN O=>?_) ?_
 .refine kO (decide (↥4 <↥m)) (λH'=>H9=H') (λQb hq=>?_) (λ_ H' e=>?_) (λ_ H' e=>?_)
  .exact{1,3,1,hq _ J}
  .subst e;refine{1,Y,J,{_,X0.of ae},λD hD=>?_};refine cR D (K:=K) (a:=Y) (xs:=bl.map Z8) (λj σ a2 ys=>∃(v:nt V)(zs:fy Z4),σ=[v]/\aj H9 a2/\a2 D=some (.lst ys)/\ys=zs.map Z8/\zs.length=j/\∀ x∈zs,↥0≤x/\x≤1000000000000) {Z0,[],J,aj.new hD,af,J,J,o8} (λj σ a2 ys _ z0=>by let⟨_,_,_,a5,_⟩:=z0;exact X0.of<|a5 _ _ ae) ?_ ?_
   .rintro j v σ a2 ys hj ⟨v0,zs,rfl,a5,hy,rfl,c5,bQ⟩;obtain⟨w,hw,rfl⟩:∃w,bl[j]?=some w/\V.int w=v:=by rw[aiR] at hj;let⟨c,h1,h2⟩:=ai9.mp hj;exact⟨c,h1,h2⟩
    let ei:=(aiH.mp hw).1;let bd:=ar w<|aiQ hw;exists 1,(1),w,J;let hb:0≤(if w>1 then w else 1)/\(if w>1 then w else 1)≤1000000000000:=by split <;> omega
    generalize (if w>1 then w else 1)=y at hb ⊢;refine{hy,by rw[aiE];exact aF o6,_,zs++[y],J,λb o e=>?_,af,o8,by simp[c5],λx hx=>?_}
    .rw[ak<|ao e hD];exact a5 b _ e
    .rcases aiX.mp hx with hx|hx
     .exact bQ x hx
     .rw[ai6.mp hx];exact hb
   .rintro σ a2 ys ⟨v0,zs,rfl,a5,hy,rfl,c5,bQ⟩;rw[aiE] at c5;exact O _ _ {D,zs,J,s9.trans a5,hy,o6,bQ}
  .subst e;exact O _ _ ⟨Y,bl,J,s9,ae,bu,ar⟩
 clear ae bu ar s9 H9 Y bl;rintro σ H9 ⟨Y,ws,rfl,s9,hwl,c1,bd⟩;replace hI:=hI.same s9;let dp:=s9.seq c4;replace hrl:=s9 _ _ hrl;clear s7 s8 s9 bo c8 c4;let aS:∀ x∈r0::r1::r2::r3::ws,0≤x/\x≤1000000000000:=λx hx=>by
  simp only[List.mem_cons] at hx;rcases hx with h|h|h|h|h
  .exact U x (by simp[h])
  .exact U x (by simp[h])
  .exact U x (by simp[h])
  .exact U x (by simp[h])
  .exact bd x h
 let aw:∀ x∈(bg:Z4)::r0::r1::r2::r3::ws,0≤x/\x≤1000000000000:=λx hx=>by
  rcases aiV.mp hx with rfl|hx
  .omega
  .exact aS x hx
 obtain⟨nms,ac⟩:∃nms,↥bg::r0::r1::r2::r3::ws=nms:={1};rw[ac] at aw;let eo:nms.length=m+5:=by rw[←ac];simp[c1]
 refine bR (λσ H'=>∃nl:jl,σ=[t8 a,t9 S,t9 ↥wd,t9 ↥n,t8 cl,t8 k,v6,some<|.str mk,t9 ↥m,t9 ↥bg,t8 rl,t8 Y,t8 nl,Z0,Z0,Z0,Z0,Z0,Z0,Z0]/\aj H9 H'/\H' nl=some (.lst<|nms.map Z8)) (λN O=>?_) ?_
 .refine{1,v8,λl1 ab=>{1,l1,rl,3,af,aj.new ab _ _ hrl,(by show 5≤Z7;decide),λl2 cq=>{1,l2,Y,3,af,aj.new cq _ _<|aj.new ab _ _ hwl,ai8 (show 5 +(ws.map Z8).length≤12 by rw[aiE];omega) o7,λl3 dF=>O _ _ {l3,J,((aj.new ab).trans<|aj.new cq).trans<|aj.new dF,?_}}}};rw[af,←ac];rfl
 rintro σ a2 ⟨nl,rfl,a5,bv⟩;refine bR (λσ H'=>∃z:Z6,σ=[t8 a,t9 S,t9 ↥wd,t9 ↥n,t8 cl,t8 k,v6,some<|.str mk,t9 ↥m,t9 ↥bg,t8 rl,t8 Y,t8 nl,some<|.str z,Z0,Z0,Z0,Z0,Z0,Z0]/\aj a2 H'/\z=Str.join (Str.ofString " ") (Str.ofString "plan" :: nms.map bH)) (λN O=>?_) ?_
 .refine{J,v8,λl1 ab=>?_};let s6:aj a2 (Z9 a2 l1 (.lst [.str "plan"])):=aj.new ab;let g6:Z9 a2 l1 (.lst [.str "plan"]) l1=some (.lst [.str "plan"]):=af;generalize Z9 a2 l1 (.lst [.str "plan"])=G6 at s6 g6 ⊢;refine{1,nl,J,{_,X0.of<|s6 _ _ bv},λD hD=>?_};refine cR D (K:=K) (a:=nl) (xs:=nms.map Z8) (λj σ H7 ys=>∃(v0:nt V),σ=[v0]/\aj G6 H7/\H7 D=some (.lst ys)/\ys =((nms.take j).map bH).map V.str) {Z0,J,aj.new hD,af,o8} (λj σ H7 ys _ z0=>by let⟨_,_,s7,_⟩:=z0;exact X0.of<|s7 _ _<|s6 _ _ bv) ?_ ?_
  .rintro j v σ H7 ys hj ⟨v0,rfl,s7,hy,rfl⟩;obtain⟨w,hw,rfl⟩:∃w,nms[j]?=some w/\V.int w=v:=by rw[aiR] at hj;let⟨c,h1,h2⟩:=ai9.mp hj;exact⟨c,h1,h2⟩
   let hb:=aw w<|aiQ hw;exists 1,w,J,vN hb.1 o6;exists hy,by rw[aiE,aiE,aiU];exact aF o6,1,λb o e=>?_,af
   .rw[ak<|ao e hD];exact s7 b _ e
   .rw[aiZ,hw];simp;rfl
  .rintro σ H7 ys ⟨v0,rfl,s7,hy,rfl⟩;rw[aiE,ai7] at hy;refine{l1,D,3,s7 _ _ g6,hy,ai8 (show 1 +((nms.map bH).map V.str).length≤40 by rw[aiE,aiE];omega) o7,λp hp=>?_};refine{Str.ofString " ",p,Str.ofString "plan" :: nms.map bH,J,J,X0.of af,?_,O _ _ {1,s6.trans<|s7.trans<|aj.new hp,J}};let:=mG (ws:=Str.ofString "plan" :: nms.map bH) (n:=20) λw hw=>by
    rcases aiV.mp hw with rfl|hw
    .decide +kernel
    .let⟨c,hc,rfl⟩:=ajd.mp hw;let hb:=aw c hc;exact gp hb.1 o6
   let e:(Str.ofString " ":Str).length=1:=by decide +kernel
   rw[e];rw[ajE,aiE] at this ⊢;omega
 rintro σ dT ⟨z,rfl,bn,hz⟩;replace hI:=(hI.same a5).same bn;let cr:=bn.seq<|a5.seq dp;replace hrl:=bn _ _<|a5 _ _ hrl;replace hwl:=bn _ _<|a5 _ _ hwl;rw[←ac] at hz;refine bR (λσ H'=>∃x:Lf,σ=[t8 a,t9 S,t9 ↥wd,t9 ↥n,t8 cl,t8 k,v6,some<|.str mk,t9 ↥m,t9 ↥bg,t8 rl,t8 Y,t8 nl,some<|.str z,some<|.str<|dH x,Z0,Z0,Z0,Z0,Z0]/\aj dT H'/\vP wd (cQ g) ↥bg ws r0 r1 r2 r3 x) (λN O=>?_) ?_
 .let⟨a6,g2⟩:=id hI.dk;exact{1,k,a6,1,g2,J,1,Dy9.plan hI hz o6 o6 o6 o6 aS λx H' hp s=>O _ _ ⟨x,J,s,hp⟩}
 rintro σ dI ⟨x,rfl,bm,hP⟩;replace hI:=hI.same bm;let co:=bm.seq cr;replace hrl:=bm _ _ hrl;replace hwl:=bm _ _ hwl;let⟨C1,lv,F,ek,cn,hv⟩:=id hP;let hB:=Dc F hv;let el:=hB.len;let bt:∀ cs∈g,nG wd cs:=λcs h=>(al cs h).1
 refine bR (λσ H'=>∃pl pw:jl,σ=[t8 a,t9 S,t9 ↥wd,t9 ↥n,t8 cl,t8 k,v6,some<|.str mk,t9 ↥m,t9 ↥bg,t8 rl,t8 Y,t8 nl,some<|.str z,some<|.str<|dH x,t8 pl,Z0,Z0,Z0,Z0]/\aj dI H'/\H' pl=some (.tup [.ref pw,.int x.2])/\H' pw=some (.lst<|x.1.map V.str)) (λN O=>?_) ?_
 .exact{2,Y,ws,x,J,hwl,hB.len,o6,o6,hB.nx,hB.n0,hB.n60,λpl pw H' hpl hpw s=>O _ _ ⟨pl,pw,J,s,hpl,hpw⟩}
 rintro σ db ⟨pl,pw,rfl,bi,hpl,hpw⟩;replace hI:=hI.same bi;let da:=bi.seq co;replace hrl:=bi _ _ hrl;replace hwl:=bi _ _ hwl;refine bR (λσ H'=>σ=[t8 a,t9 S,t9 ↥wd,t9 ↥n,t8 cl,t8 k,v6,some<|.str mk,t9 ↥m,t9 ↥bg,t8 rl,t8 Y,t8 nl,some<|.str z,some<|.str<|dH x,t8 pl,Z0,Z0,Z0,Z0]/\db=H') (λN O=>?_) ?_
 .exact gK (λQb hq=>{1,J,1,hq}) (O _ _ ⟨J,J⟩)
 rintro σ _ ⟨rfl,rfl⟩;refine bR (λσ H'=>σ=[t8 a,t9 S,t9 ↥wd,t9 ↥n,t8 cl,t8 k,v6,some<|.str mk,t9 ↥m,t9 ↥bg,t8 rl,t8 Y,t8 nl,some<|.str z,some<|.str<|dH x,t8 pl,t9 x.2,Z0,Z0,Z0]/\aj db H') (λN O=>?_) ?_
 .refine{2,2,pl,_,(0),.ref pw,J,J,X3.of hpl,J,2,cl,pw,Y,rl,wd,bg,g,x.1,C1,ws,r0,r1,r2,r3,J,hC.same hI.sb,bt,o6,be,X0.of hpw,hB.nx.vw,o6,o6,hwl,hrl,F,cn,λH' s=>O _ _ {?_,s}};rw[←hB.val];rfl
 rintro σ a8 ⟨rfl,ag⟩;replace hI:=hI.same ag;let cf:=ag.seq da;replace hrl:=ag _ _ hrl;replace hwl:=ag _ _ hwl;replace hpl:=ag _ _ hpl;replace hpw:=ag _ _ hpw;refine bR (λσ H'=>σ=[t8 a,t9 S,t9 ↥wd,t9 ↥n,t8 cl,t8 k,v6,some<|.str mk,t9 ↥m,t9 ↥bg,t8 rl,t8 Y,t8 nl,some<|.str z,some<|.str<|dH x,t8 pl,t9 x.2,Z0,Z0,Z0]/\a8=H') (λN O=>?_) ?_
 .refine kO Z2 (λH'=>a8=H') (λQb hq=>?_) nofun (λ_ H' e=>O _ _ ⟨J,e⟩);exists 1,pl,_,(1),.int x.2,J,J,X3.of hpl,J,1,J,1;rw[aiS rfl];exact hq _ J
 rintro σ _ ⟨rfl,rfl⟩;refine{ajb _,λol d1=>?_};let s0:aj a8 (Z9 a8 ol (.lst [])):=aj.new d1;let g0:Z9 a8 ol (.lst []) ol=some (.lst (([]:fy Z6).map V.str)):=af;refine aU [t8 a,t9 S,t9 ↥wd,t9 ↥n,t8 cl,t8 k,v6,some<|.str mk,t9 ↥m,t9 ↥bg,t8 rl,t8 Y,t8 nl,some<|.str z,some<|.str<|dH x,t8 pl,t9 x.2,t8 ol,Z0,Z0] ?_;dsimp only;change nV _ _ _ _ (Z9 a8 ol<|.lst []);generalize Z9 a8 ol (.lst [])=cm at s0 g0 ⊢;refine bR (λσ H'=>∃(a3 a1:nt V)(us:fy Z6),σ=[t8 a,t9 S,t9 ↥wd,t9 ↥n,t8 cl,t8 k,v6,some<|.str mk,t9 ↥m,t9 ↥bg,t8 rl,t8 Y,t8 nl,some<|.str z,some<|.str<|dH x,t8 pl,t9 x.2,t8 ol,a3,a1]/\aj a8 H'/\H' ol=some (.lst<|us.map V.str)/\us.length=m/\gG ws us) (λN O=>?_) ?_
 .refine{1,↥m,J,o6,o6,fL (lo:=0) (n:=(↥m).toNat) (λi σ H'=>∃(a3 a1:nt V)(us:fy Z6),σ=[t8 a,t9 S,t9 ↥wd,t9 ↥n,t8 cl,t8 k,v6,some<|.str mk,t9 ↥m,t9 ↥bg,t8 rl,t8 Y,t8 nl,some<|.str z,some<|.str<|dH x,t8 pl,t9 x.2,t8 ol,a3,a1]/\aj a8 H'/\H' ol=some (.lst<|us.map V.str)/\us.length=i/\gG ws us) {Z0,Z0,[],J,s0,g0,J,λk w e=>by simp at e} ?_ ?_}
  .rintro i σ am hi ⟨a3,a1,us,rfl,a4,a7,bN,a9⟩;let c2:us.length<ws.length:=by omega
   let ca:ws[us.length]?=some ws[us.length]:=aiG c2;generalize ws[us.length]=wt at ca;refine aU [t8 a,t9 S,t9 ↥wd,t9 ↥n,t8 cl,t8 k,v6,some<|.str mk,t9 ↥m,t9 ↥bg,t8 rl,t8 Y,t8 nl,some<|.str z,some<|.str<|dH x,t8 pl,t9 x.2,t8 ol,t9<|0 +↥i,a1] ?_;dsimp only;refine{2,ol,Y,us,ws,wt,J,X0.of a7,o6,a9.wd,a4 _ _ hwl,ca,λl dy hl _ as=>?_};refine aU [t8 a,t9 S,t9 ↥wd,t9 ↥n,t8 cl,t8 k,v6,some<|.str mk,t9 ↥m,t9 ↥bg,t8 rl,t8 Y,t8 nl,some<|.str z,some<|.str<|dH x,t8 pl,t9 x.2,t8 ol,t9<|0 +↥i,t8 l] ?_;dsimp only;let bc:=as _ _ a7;let⟨h0,w,hw,dV⟩:=G4 wt us<|fC (gw ns ((4:Z5):Z4))<|0 +↥i;exists 1,.inl {J,_,X0.of bc},2,a,ns,(4),J,as.seq<|a4.seq cf,1,_,2,l,1,.inl<|X0.of hl,3,o6,l,_,_,.str w,J,J,X0.of hl,hw,ol,3,bc,aF (by rw[aiE];omega);refine{_,_,us++[w],J,λb o e=>by rw[ak<|ao e d1];exact as _ _<|a4 b o e,by rw[af,aja];rfl,by simp[bN],a9.snoc ?_};unfold bP;rwa[ca]
  .rintro σ am ⟨a3,a1,us,rfl,a4,a7,bN,a9⟩;exact O _ _ ⟨a3,a1,us,J,a4,a7,o6,a9⟩
 clear s0 g0;rintro σ cm ⟨a3,a1,us,rfl,ba,hol',bN,a9⟩;replace hI:=hI.same ba;replace hrl:=ba _ _ hrl;replace hwl:=ba _ _ hwl;replace hpl:=ba _ _ hpl;replace hpw:=ba _ _ hpw;obtain⟨C,cJ⟩:∃C,sumTo (bB C1 ws r0 r1 r2 r3 us) us.length=C:={1};let⟨dv,ci⟩:=hB.opt us a9 o6;rw[cJ] at dv ci;refine bR (λσ H'=>σ=[t8 a,t9 S,t9 ↥wd,t9 ↥n,t8 cl,t8 k,v6,some<|.str mk,t9 ↥m,t9 ↥bg,t8 rl,t8 Y,t8 nl,some<|.str z,some<|.str<|dH x,t8 pl,t9 C,t8 ol,a3,a1]/\aj cm H') (λN O=>?_) ?_
 .refine{2,2,2,cl,ol,Y,rl,wd,bg,g,us,C1,ws,r0,r1,r2,r3,J,hC.same hI.sb,bt,o6,be,X0.of hol',a9.vw,o6,o6,hwl,hrl,F,cn,λH' s=>O _ _ {?_,s}};rw[cJ];rfl
 rintro σ am ⟨rfl,a4⟩;replace hI:=hI.same a4;replace hpl:=a4 _ _ hpl;replace hpw:=a4 _ _ hpw;replace hol':=a4 _ _ hol';refine bR (λσ H'=>σ=[t8 a,t9 S,t9 ↥wd,t9 ↥n,t8 cl,t8 k,v6,some<|.str mk,t9 ↥m,t9 ↥bg,t8 rl,t8 Y,t8 nl,some<|.str z,some<|.str<|dH x,t8 pl,t9 C,t8 ol,a3,a1]/\am=H') (λN O=>?_) ?_
 .refine kO Z2 (λH'=>am=H') (λQb hq=>?_) nofun (λ_ H' e=>O _ _ ⟨J,e⟩);exists 2,pl,_,(1),.int x.2,J,J,X3.of hpl,J,3,1;rw[ai1 (show ¬C<x.2 by omega)];exact hq _ J
 rintro σ _ ⟨rfl,rfl⟩;refine bR (λσ H'=>σ=[t8 a,t9 S,t9 ↥wd,t9 ↥n,t8 cl,t8 k,v6,some<|.str mk,t9 ↥m,t9 ↥bg,t8 rl,t8 Y,t8 nl,some<|.str z,some<|.str<|dH x,t8 pl,t9 C,t8 ol,a3,a1]/\aj am H') (λN O=>?_) ?_
 .refine kO Z2 (λH'=>aj am H') (λQb hq=>?_) nofun (λ_ H' e=>O _ _ ⟨J,e⟩);exists 2,pl,_,(1),.int x.2,J,J,X3.of hpl,J,J,1;by_cases hE:C=x.2
  .rw[aiS (show V.int C=V.int x.2 by rw[hE])];refine fQ ?_;refine{1,pl,_,(0),.ref pw,J,J,X3.of hpl,J,1,pw,ol,x.1,us,J,X0.of hpw,X0.of hol',o6,o6,hB.nx.wd,a9.wd,λH' s=>{1,?_}};rw[show HT.lexLt (us.map rkW) (x.1.map rkW)=Z2 from ci hE.symm];exact hq _ s
  .rw[ai1 (show ¬V.int C=V.int x.2 by intro z;cases z;exact hE J)];exact gb<|hq _<|aj.refl _
 rintro σ dy ⟨rfl,as⟩;replace hI:=hI.same as;let⟨a6,g2⟩:=id hI.dk;refine{1,k,a6,1,g2,J,1,Dy9.plan hI hz o6 o6 o6 o6 aS λx' ez hp dm=>?_};let e6:=GZ hP hp;subst e6;replace hI:=hI.same dm;let⟨dt,g3⟩:=id hI.dk;refine{1,J,Z1,by rw[aiS rfl],fQ ?_};refine{1,k,dt,1,g3,J,Dy9.marks hI λey ea=>{1,J,?_}};rw[cp,aiS rfl];exact q _
end
def Qx:Go g0:=by
 rintro⟨X,G,de,ze,xX,xS,BZ,Gk,wV,Ft,CV,yg,CC,Gj,yI,B9,Dw,Gx,FF,Qh,e2,Dv,iE,dI,fB,ef,mQ,oj,mR,kJ,mZ,Ab,gX,c8,Cs,c5,eO,eY,vO,jY,Ad,kX,Ah,eV,mw,mH,m6,dS,gz,gc,kP,CL,jh,l0,l1,l2,l3,l4,l5,l6,l7,l8,a9,l9,da,d6,l10,eM,k10,db,l11,l12,l13,l14,l15,l16,l17,l18,l19,l20,eh,dC,dq,eP,eC,el,dm,df,e5,eb,e3,e6,ew,ez,dz,eD,dk,eu,e8,ed,eJ,dp,eo,ex,es,ee,ej,dK,e1,dy,ei,dT,dx,dc,e7,dv,du,eg,eH,e4,eA,e9,dV,en,ev,ep,dr,e0,eI,Hz,G9,sS,dL,dt,zW,Vr,Qu,Qp,dA,ey,IG,eQ,BV,et,eN,ea,ek,DJ,DS,bd,aS,a8,u,ag,ae,a5,U,a3,S,ar,ac,b,t,c,s,g,cs,ct,cr,cm,ci,bE,bt,cq,bN,bm,c3,ce,bj,ba,bi⟩ f fd F;rename_i f9 fk fc fa f4 eR f8 eS fb fg fe f3 fi f7 ff f5 a0 x B a1 a4 a7 a6 H al am o i l r j a2 as y C ab A v an O L m a p q e cx bu c4 co cl bl c0 cf bp bw ca bc bb aw cn bv bn bo ch cd c1 c2 cp cc bg be ax d1;let jd:GDF P w K mg cB gq:=UU [((PySem.Str.ofString "day"),a0,.ref a2),((PySem.Str.ofString "keep"),x,.ref as),((PySem.Str.ofString "seal"),B,.ref y),((PySem.Str.ofString "tidy"),a1,.ref C),((PySem.Str.ofString "carry"),a4,.ref ab),((PySem.Str.ofString "harm"),a7,.ref A),((PySem.Str.ofString "heal"),a6,.ref v),((PySem.Str.ofString "marks"),H,.ref an),((PySem.Str.ofString "lies"),al,.ref O),((PySem.Str.ofString "line"),am,.ref L),((PySem.Str.ofString "reach"),o,.ref m),((PySem.Str.ofString "fetch"),i,.ref a),((PySem.Str.ofString "price"),l,.ref p),((PySem.Str.ofString "way"),r,.ref q),((PySem.Str.ofString "plan"),j,.ref e)] _ bd aS J o4<|ajp.mpr {ai2 X G a8,ajp.mpr {ai2 X G u,ajp.mpr {ai2 X G ag,ajp.mpr {ai2 X G ae,ajp.mpr {ai2 X G a5,ajp.mpr {ai2 X G U,ajp.mpr {ai2 X G a3,ajp.mpr {ai2 X G S,ajp.mpr {ai2 X G ar,ajp.mpr {ai2 X G ac,ajp.mpr {ai2 X G b,ajp.mpr {ai2 X G t,ajp.mpr {ai2 X G c,ajp.mpr {ai2 X G s,ajp.mpr {ai2 X G g,J}}}}}}}}}}}}}}};let jG:GDT P w K c9 vF:=V1 [((PySem.Str.ofString "seal"),bu,.ref cn),((PySem.Str.ofString "tidy"),c4,.ref bv),((PySem.Str.ofString "carry"),co,.ref bn),((PySem.Str.ofString "harm"),cl,.ref bo),((PySem.Str.ofString "heal"),bl,.ref ch),((PySem.Str.ofString "marks"),c0,.ref cd),((PySem.Str.ofString "lies"),cf,.ref c1),((PySem.Str.ofString "line"),bp,.ref c2),((PySem.Str.ofString "reach"),bw,.ref cp),((PySem.Str.ofString "fetch"),ca,.ref cc),((PySem.Str.ofString "price"),bc,.ref bg),((PySem.Str.ofString "way"),bb,.ref be),((PySem.Str.ofString "plan"),aw,.ref ax)] _ cs ct J o4<|ajn.mpr {{1,cr},(ajn.mpr {{1,cm},(ajn.mpr {{1,ci},(ajn.mpr {{1,bE},(ajn.mpr {{1,bt},(ajn.mpr {{1,cq},(ajn.mpr {{1,bN},(ajn.mpr {{1,bm},(ajn.mpr {{1,c3},(ajn.mpr {{1,ce},(ajn.mpr {{1,bj},(ajn.mpr {{1,ba},(ajn.mpr {{1,bi},(λ_ h=>by cases h)})})})})})})})})})})})})};let T:Txt:={ai2 X G de,ai2 X G ze,ai2 X G xX,ai2 X G xS,ai2 X G BZ,ai2 X G Gk,ai2 X G wV,ai2 X G Ft,Dv.1,iE,dI,fB,ef,ai2 X G CV,ai2 X G yg,mQ.1,oj,mR,kJ,mZ,ai2 X G CC,Ab.1,gX,c8,ai2 X G Gj,Cs.1,c5,eO,eY,ai2 X G yI,vO.1,jY,ai2 X G B9,Ad.1,kX,ai2 X G Dw,Ah.1,eV,mw,mH,m6,dS,gz,gc,kP,ai2 X G Gx,CL.1,jh,ai2 X G FF,ai2 X G Qh,ai2 X G e2,ajk X G dL,ajk X G dt,ajk X G zW,ajk X G Vr,ajk X G Qu,ajk X G Qp,ajk X G dA,ajk X G ey,ajk X G IG,ajk X G eQ,ajk X G BV,ajk X G et,ajk X G eN,ajk X G ea,ajk X G ek,ajk X G DJ,DS};let cw:=Qi (st:=dG) l10 eM k10;let b10:=cw.binds (ps:=["self","day","rows","check"]) (ds:=[]) db J λ_ _ _ _ _ _ us hl=>ln4 us hl λ_ _ _ _=>{1,J}
 let qD:=cw.binds (ps:=["self","day","rows","check"]) (ds:=[Value.none]) db J λ_ _ _ _ _ _ us hl=>ln3 us (⇑hl) λ_ _ _=>{1,J}
 let Y:Bs P w K mg base:={_,X,G};let gx:=l6.d Y λF=>BN T F
 let vo:=l0.mk1 Ft Dv Y λF=>uo T gx F
 let fS:=l4.d Y λF=>rq T F
 let iN:=l1.d Y λF=>xO T fS F
 let bQ:=l5.d Y λF=>vG T F
 let i9:=l2.d Y λF=>zk T bQ F
 let gW:=l3.d Y λF=>wO T bQ F
 let qt:=l7.d Y λF=>Fx T F
 let lg:=l8.d Y λF=>Bx T qt F
 let eZ:LX "Piece" cP "__init__" 3 ["self","start","day","rows","check"] (pD K):=by let⟨_,_,F⟩:=l9;exact{_,_,Y.at_ CV,⟨Hz,G9,sS,F.kp⟩,sX T lg F,F.binds λ_ _ _ _ _ _ us hl=>ln5 us hl λ_ _ _ _ _=>rfl}
 let fm:kG "Whole" aG 4 ["self","day","rows","check"] (mF aG aG):={_,_,Y.at_ yg,⟨mQ.2.1,da,d6,mQ.2.2⟩,kZ T eZ cw,b10};let lK:Dg "Whole" aG 4 ["self","day","rows","check"] [Value.none] (mF aG aG):={_,_,Y.at_ yg,⟨mQ.2.1,da,d6,mQ.2.2⟩,kZ T eZ cw,qD};let lE:=l11.d Y λF=>BX T lK i9 F
 let cJ:=l12.d Y λF=>uG T F
 let fM:=l13.d Y λF=>zE T cJ F
 let j5:=l14.d Y λF=>Ak T cJ F
 let lM:=l15.mk1 CC Ab Y λF=>sV T F
 let kc:=l17.d Y λF=>Aw T F
 let kB:=l16.d Y λF=>Ao T kc F
 let fV:=l18.d Y λF=>qP T F
 let gy:=l20.d Y λF=>BD T F
 let vq:=l19.mk1 Gj Cs Y λF=>uY T gy F
 let dF:=dC.d Y λF=>we T F
 let m8:=eh.d Y λF=>Ea T dF F
 let lJ:=dq.d Y λF=>BA T dF F
 let gn:=el.d Y λF=>BO T F
 let gj:=dm.d Y λF=>BE T F
 let lA:=eC.d Y λF=>B7 T lJ gn gj F
 let ng:=eP.d Y λF=>Et T lA F
 let ly:=df.d Y λF=>Bq T gn gj ng F
 let kj:=e5.d Y λF=>Aa T ly m8 F
 let lD:=e3.d Y λF=>BK T gW F
 let m7:=eb.d Y λF=>DI T bQ gy vq lD F
 let gZ:=ez.d Y λF=>Bo T F
 let ju:=dz.d Y λF=>zc T F
 let ko:=eD.d Y λF=>zK T F
 let iK:=ew.d Y λF=>xM T j5 gZ ju jG fM ko F
 let lC:=e6.d Y λF=>Br T iK F
 let ni:=dk.mk1 yI vO Y λF=>qE T F
 let oW:=eu.mk1 B9 Ad Y λF=>tE T F
 let g7:=ed.d Y λF=>vI T fM ni F
 let nj:=e8.d Y λF=>EB T oW g7 F
 let sN:=eJ.mk1 Dw Ah Y λF=>sU T vo lM F
 let g9:=dp.d Y λF=>vE T iN F
 let iP:=eo.d Y λF=>xW T F
 let fU:=dK.d Y λF=>rP T lE iP F
 let fT:=ej.d Y λF=>qL T F
 let nc:=dy.d Y λF=>DO T kB F
 let iL:=es.d Y λF=>xq T fT nc F
 let jH:=e1.d Y λF=>zj T iL F
 let jC:=ex.d Y λF=>zd T fU fV jH F
 let iM:=ee.d Y λF=>xG T F
 let iX:=ei.d Y λF=>GH T F
 let HY:=dT.d Y λF=>F4 T g9 F
 let EV:=dx.d Y λF=>D6 T jC F
 let DV:=dc.d Y λF=>BH T iX iM F
 let FU:=e7.d Y λF=>DN T iX m7 kj F
 let vt:=dv.mk1 Gx CL Y λF=>uV T gx sN nj F
 let jv:∀z,KnR z->∃n ps,(z,n)∈gq/\bh n 11 ps (kW av aA aD aG aI z):=ZJ HY EV DV FU;let er:=du.d Y λF=>By T lC jd jv F
 let cW:=eg.d Y λF=>Bb T F
 let bz:=eH.d Y λF=>Ba T F
 let jj:=e4.d Y λF=>zm T bz F
 let ia:=eA.d Y λF=>wM T bz jj F
 let dj:=e9.d Y λF=>wQ T F
 let kq:=dV.d Y λF=>Az T F
 let j9:=en.d Y λF=>AX T F
 let iB:=ev.d Y λF=>Ar T j9 kq F
 let j7:=ep.d Y λF=>A7 T dj F
 let jb:=dr.d Y λF=>zg T F
 let jJ:=e0.d Y λF=>yZ T bz F
 let ie:=eI.d Y λF=>vA T bz F
 exact YQ T bz dj cW ia vt er jJ ie j7 iB jb F
def all(c:Gc):Go c:=aj5 λn=>Classical.epsilon_spec (p:=λc=>¬Go c) ⟨c,n⟩ Qx
def all_mk{l:OpenLaw}{w:t7}{K:Frag}{h:Heap}{mg:Z6->nt mu}{y:jl}(X:K.In h)(G:h.Ns mainGlobals mg)(x:mg "law" = some (.ref y)){t_W:Tok}{cD:Tok}{bZ:Tok}{ck:Tok}{cV:Tok}{eK:Tok}{bT:Tok}{aA:jl}{cP:jl}{aG:jl}{aD:jl}{aI:jl}{bO:jl}{cE:jl}{av:jl}{bG:jl}{cB:jl}{c9:jl}{fF:jl}{j:jl}{n b:nt jl}{o:sA (nt mu)}{m i g f a c:mu}(t:GA K "law" j)(p:K.lookup j=some {m,n,.func (fnOf "law" "law" (fu kg) (dB kg) (ay kg) .none i g f b a c),o})(r:codeIn K a "law" = Z1)(u:keepIn K (.ref j)=Z1)(z:Hy w K mg t_W cD bZ ck cV eK bT aA cP aG aD aI bO cE av bG cB c9 fF)
  :∃fd:q9,(∀(s:q8)(v:mu),BindsTo s fd {[v],[]} [("_law_script",v)])/\∀base:Heap,K.In base->base.Ns mainGlobals mg->aM l.prog w K mg base (CXx l.prog w) 13 y fd ["_law_script"] (oE K):=by
 let e:=x.symm.trans<|ai2 X G t;cases e;let q:=acw (st:=kg) p r u;refine{fnOf "law" "law" (fu kg) (dB kg) (ay kg) .none i g f b a c,λs v=>.of_eq J,λbase _ _=>all ⟨l.prog,w,K,mg,base,t_W,cD,bZ,ck,cV,eK,bT,aA,cP,aG,aD,aI,bO,cE,av,bG,cB,c9,fF⟩ z q}
def walk{l:OpenLaw}{q:t6}{b:fy Z6}{j:(Z6->nt mu)->Heap->Z3}{g:t7->Heap->Z3}{d:DefRec}{K:Params->Frag}(hn:l.most=some 63)(c:d.params.defaults=[])(m:∀(w:t7)(h:Heap),g w h->(K w.params).In h)(F:∀(w:t7)(mg:Z6->nt mu)(e:jl)(h:Heap),(K w.params).In h->h.Ns mainGlobals mg->mg d.name=some (.ref e) →
   ∃fd:q9,(∀(s:q8)(u:mu),BindsTo s fd {[u],[]} [("_law_script",u)])/\∀base:Heap,(K w.params).In base->base.Ns mainGlobals mg->aM l.prog w (K w.params) mg base (CXx l.prog w) 13 e fd ["_law_script"] (oE (K w.params))) :
  WalkO q b j g l.row.toRowW d [] (λf vs=>PySem.call f vs):=
 L2.Qq (n:=63) (k:=13) (x:="_law_script") (CX:=λw=>CXx l.prog w) (sp:=λw=>oE<|K w.params) hn o7 c ⟨J,o7,o7⟩ m F (λ_ _ a ns i _ o=>{a,ns,J,o,i,λ_=>rfl}) λ_ _ _ _ _ z=>L2.acS z
end Mine
open PySem PySem.W PyProof.Rows
noncomputable def PySem.W.Fast.tw16938663180696802899:PySem.Program:=PySem.Challenge.pw_keepsakes_k89_plans_at_the_desk
def PySem.W.Fast.te16938663180696802899:PySem.Challenge.pw_keepsakes_k89_plans_at_the_desk=PySem.W.Fast.tw16938663180696802899:=rfl
namespace Hd
noncomputable section
open PySem
structure Sc where
 (a b c d e f g h i j k l m n o p q r s t u v w x y:Str)
abbrev h0:Sc:=Sc.mk "<module>" "/claim/cut.py" "__main__" "__name__" "keepsakes.errors" "__doc__" "__package__" "__loader__" "__spec__" "__annotations__" "__builtins__" "__file__" "__cached__" "_wall" "W" "MOST_BLOCKS" "MOST_FIGURES" "MOST_PLANNED" "MOST_RATE" "KeepError" "k" "__module__" "__qualname__" "__firstlineno__" "__static_attributes__"
abbrev h1:Sc:=Sc.mk "__weakref__" "NoWord" "__init__" "self" "word" "NoWord.__init__" "NoTable" "wide" "NoTable.__init__" "NoPlace" "place" "NoPlace.__init__" "NoBlock" "block" "NoBlock.__init__" "NoDay" "day" "NoDay.__init__" "NoBase" "base" "NoBase.__init__" "NoPiece" "number" "NoPiece.__init__" "NoWay"
abbrev h2:Sc:=Sc.mk "at" "NoWay.__init__" "BadPiece" "BadPiece.__init__" "NoItem" "NoRule" "found" "NoRule.__init__" "NoMerge" "NoMerge.__init__" "Lost" "cuts" "Lost.__init__" "NoPlan" "many" "NoPlan.__init__" "NoShelf" "shelf" "NoShelf.__init__" "keepsakes.days" "NoRow" "line" "NoRow.__init__" "Days" "passes"
abbrev h3:Sc:=Sc.mk "table" "written" "ask_change" "ask_day" "Days.__init__" "Days.passes" "Days.table" "one" "other" "places" "Days.written" "Days.ask_change" "Days.ask_day" "last" "set_places" "tables" "__dict__" "keepsakes.heaps" "ask_wide" "Heap" "add" "least" "take" "size" "lying"
abbrev h4:Sc:=Sc.mk "lift" "sink" "lesser_below" "swap" "Heap.__init__" "item" "Heap.add" "Heap.least" "Heap.take" "Heap.size" "Heap.lying" "low" "Heap.lift" "high" "Heap.sink" "Heap.lesser_below" "Heap.swap" "row" "keepsakes.pieces" "rate" "legs_of" "prices" "last_legs" "way_of" "legs_by_start"
abbrev h5:Sc:=Sc.mk "price_at" "price_over" "turned" "check_of" "seek" "each" "cost" "keepsakes.least" "legs" "piece" "starting" "priced" "heap" "leg" "start" "price" "keepsakes.checks" "rows" "numbers" "check" "Piece" "is_good" "harmed" "Piece.__init__" "Piece.size"
abbrev h6:Sc:=Sc.mk "Piece.is_good" "bits" "Piece.harmed" "fits" "Whole" "kind" "laid" "with_rows" "Whole.__init__" "Whole.start" "Whole.kind" "Whole.laid" "Whole.with_rows" "Gain" "Gain.__init__" "Gain.start" "Gain.kind" "blocks" "Gain.laid" "Gain.with_rows" "keepsakes.shelves" "whole_of" "gain_of" "FIGURES" "0123456789"
abbrev h7:Sc:=Sc.mk "writes_number" "number_of" "change_of" "text_of" "CHECK_FIGURES" "line_of" "days" "keepsakes.words" "parts" "keepsakes.lines" "Shelf" "put" "lay" "drop" "following" "copied" "last_whole" "Shelf.__init__" "Shelf.put" "Shelf.lay" "Shelf.piece" "Shelf.drop" "Shelf.numbers" "Shelf.following" "Shelf.copied"
abbrev h8:Sc:=Sc.mk "Shelf.last_whole" "follows" "pieces" "keepsakes.tasks" "fetched" "reached" "last_pieces" "numbers_by_start" "cut_at" "answer" "joined" "healed" "has_good" "rescued" "way" "keepsakes.ways" "good" "met" "further" "keepsakes.mending" "shelves" "together" "mended" "replaced" "told"
abbrev h9:Sc:=Sc.mk "Task" "ask_many" "allowed" "bases_behind" "bases_of" "cost_of" "costs_of" "Task.__init__" "rates" "sizes" "weights" "choices" "bases" "task" "ways" "keepsakes.rows" "leg_cost" "day_cost" "bound_of" "best_plan" "task_of" "sizes_of" "held" "bound" "keepsakes.plans"
abbrev h10:Sc:=Sc.mk "FORMS" "KEPT" "read_row" "told_behind" "ask_form" "is_as_many" "is_within" "seal" "tidy" "carry" "harm" "heal" "marks" "lies" "reach" "fetch" "plan" "whole" "since" "words" "form" "keepsakes.rules" "Rule" "picks" "Rule.picks"
abbrev h11:Sc:=Sc.mk "LastFew" "LastFew.__init__" "LastFew.picks" "OneOfEach" "step" "OneOfEach.__init__" "firsts" "OneOfEach.picks" "Apart" "gap" "Apart.__init__" "picked" "Apart.picks" "Sealed" "Sealed.__init__" "Sealed.picks" "sealed_days" "keepsakes.merging" "AnyOf" "last_of" "rule_of" "rule_of_part" "merged" "rules" "AnyOf.__init__"
abbrev h12:Sc:=Sc.mk "AnyOf.picks" "keepsakes.ruletexts" "keepsakes.stores" "folded" "ready_days" "is_one_good" "fold_at" "needed" "tidied" "wanted" "left" "folds" "keepsakes.tidy" "rule" "staying" "thrown" "Store" "today" "keep" "deeds" "ask_shelf" "cost_of_pieces" "new_piece" "base_for" "note"
abbrev h13:Sc:=Sc.mk "fold" "Store.__init__" "changes" "Store.passes" "Store.today" "Store.keep" "Store.seal" "new" "Store.tidy" "mark" "next_ones" "deed" "Store.carry" "Store.deeds" "Store.marks" "Store.numbers" "Store.piece" "harmed_piece" "Store.harm" "Store.heal" "Store.reach" "some" "Store.legs" "Store.fetch" "Store.ask_shelf"
abbrev h14:Sc:=Sc.mk "Store.cost_of_pieces" "Store.new_piece" "Store.base_for" "Store.note" "Store.fold" "Store.together" "done" "noted" "seals" "keepsakes.desk" "do_deed" "listed" "some_of" "on_day" "on_keep" "on_seal" "on_tidy" "on_carry" "on_harm" "on_heal" "on_marks" "on_lies" "on_line" "store" "on_reach"
abbrev h15:Sc:=Sc.mk "on_fetch" "on_price" "on_way" "on_plan" "ANSWERS" "law_keepsakes_k89_plans_at_the_desk" "Desk" "_law_cell" "_law_stir" "_law_block" "_law_changes" "say" "Desk.__init__" "Desk.say" "_law_script" "_law_k" "_law_cell_here" "_law_number" "_law_allowed" "_law_size" "_law_base" "_law_cost" "_law_read" "_law_ahead" "_law_rates"
abbrev h16:Sc:=Sc.mk "_law_weights" "law" "_law_choices" "_law_weights_here" "_law_some" "_law_changes_here" "_law_wide" "_law_base_here" "_law_day" "_law_places" "_law_row" "_law_place" "_law_block_here" "_law_head" "_law_begin" "_law_rates_here" "_law_total" "_law_ways" "_law_way" "_law_size_here" "_law_told" "_law_words" "_law_figures" "_law_sign" "_law_many"
abbrev h17:=((((("tuple","code"),"frame"),(("dict","__main__.__loader__#opaque"),"function")),((("ValueError","builtin_function_or_method"),"type.__prepare__"),("type","Exception"))),(((("BaseException","object"),"ValueError.__new__"),("getset_descriptor","ExceptionGroup.__weakref__")),((("super","object.__init_subclass__"),"object.__new__"),("function.__dict__","function.__dict__#set"))))
abbrev X:Type:=(((((Sc×Sc)×Sc)×(Sc×Sc))×(((Sc×Sc)×Sc)×(Sc×Sc)))×((((Sc×Sc)×Sc)×(Sc×Sc))×((Sc×Sc)×((((((String×String)×String)×((String×String)×String))×(((String×String)×String)×(String×String)))×((((String×String)×String)×(String×String))×(((String×String)×String)×(String×String))))×Program))))×Params
noncomputable abbrev hs:=(((((h0,h1),h2),(h3,h4)),(((h5,h6),h7),(h8,h9))),((((h10,h11),h12),(h13,h14)),((h15,h16),(h17,PySem.Challenge.pw_keepsakes_k89_plans_at_the_desk))))
lay_quick h0 h1 h2 h3 h4 h5 h6 h7 h8 h9 h10 h11 h12 h13 h14 h15 h16 h17 PySem.Challenge.pw_keepsakes_k89_plans_at_the_desk
lay_quick hs
abbrev X.l0(x:X):=x.1.2.2.2.1.1.1.1.1.1
abbrev X.l1(x:X):=x.1.2.2.2.1.1.1.1.1.2
abbrev X.l2(x:X):=x.1.2.2.2.1.1.1.1.2
abbrev X.l3(x:X):=x.1.2.2.2.1.1.1.2.1.1
abbrev X.l4(x:X):=x.1.2.2.2.1.1.1.2.1.2
abbrev X.l5(x:X):=x.1.2.2.2.1.1.1.2.2
abbrev X.l6(x:X):=x.1.2.2.2.1.1.2.1.1.1
abbrev X.l7(x:X):=x.1.2.2.2.1.1.2.1.1.2
abbrev X.l8(x:X):=x.1.2.2.2.1.1.2.1.2
abbrev X.l9(x:X):=x.1.2.2.2.1.1.2.2.1
abbrev X.l10(x:X):=x.1.2.2.2.1.1.2.2.2
abbrev X.l11(x:X):=x.1.2.2.2.1.2.1.1.1.1
abbrev X.l12(x:X):=x.1.2.2.2.1.2.1.1.1.2
abbrev X.l13(x:X):=x.1.2.2.2.1.2.1.1.2
abbrev X.l14(x:X):=x.1.2.2.2.1.2.1.2.1
abbrev X.l15(x:X):=x.1.2.2.2.1.2.1.2.2
abbrev X.l16(x:X):=x.1.2.2.2.1.2.2.1.1.1
abbrev X.l17(x:X):=x.1.2.2.2.1.2.2.1.1.2
abbrev X.l18(x:X):=x.1.2.2.2.1.2.2.1.2
abbrev X.l19(x:X):=x.1.2.2.2.1.2.2.2.1
abbrev X.l20(x:X):=x.1.2.2.2.1.2.2.2.2
abbrev X.a(x:X):=x.1.1.1.1.1.1
abbrev X.b(x:X):=x.1.1.1.1.1.2
abbrev X.c(x:X):=x.1.1.1.1.2
abbrev X.d(x:X):=x.1.1.1.2.1
abbrev X.e(x:X):=x.1.1.1.2.2
abbrev X.f(x:X):=x.1.1.2.1.1.1
abbrev X.g(x:X):=x.1.1.2.1.1.2
abbrev X.h(x:X):=x.1.1.2.1.2
abbrev X.i(x:X):=x.1.1.2.2.1
abbrev X.j(x:X):=x.1.1.2.2.2
abbrev X.k(x:X):=x.1.2.1.1.1.1
abbrev X.l(x:X):=x.1.2.1.1.1.2
abbrev X.m(x:X):=x.1.2.1.1.2
abbrev X.n(x:X):=x.1.2.1.2.1
abbrev X.o(x:X):=x.1.2.1.2.2
abbrev X.p(x:X):=x.1.2.2.1.1
abbrev X.q(x:X):=x.1.2.2.1.2
abbrev b0(x:X):=PySem.W.boot_o_0 x.2
abbrev b1(x:X):=PySem.W.boot_o_1 x.2
abbrev b2(x:X):=PySem.W.boot_o_2 x.2
abbrev b3(x:X):=PySem.W.boot_o_3 x.2
abbrev b4(x:X):=PySem.W.boot_o_4 x.2
abbrev b5(x:X):=PySem.W.boot_o_5 x.2
abbrev b6(x:X):=PySem.W.boot_o_6 x.2
abbrev b7(x:X):=PySem.W.boot_o_7 x.2
abbrev b8(x:X):=PySem.W.boot_o_8 x.2
abbrev b9(x:X):=PySem.W.boot_o_9 x.2
abbrev b10(x:X):=PySem.W.boot_o_10 x.2
abbrev pg(x:X):Program:=x.1.2.2.2.2
def nth:List Stmt->Nat->Stmt:=λl=>@List.rec Stmt (λ_=>Nat->Stmt) (λ_=>.Pass ⟨0,0,0,0⟩) (λa _ ih n=>@Nat.rec (λ_=>Stmt) a (λm _=>ih m) n) l
abbrev st(x:X)(k:Nat):Stmt:=nth (pg x).main.body k
def cb:Stmt->List Stmt|.ClassDef _ _ _ y _ _ _ _ _ _ _=>y|_=>[]
abbrev sm(x:X)(k m:Nat):Stmt:=nth (cb (st x k)) m
def f0:Stmt->Str|.FunctionDef y _ _ _ _ _ _ _ _ _=>y|_=>default
def f1:Stmt->Arguments|.FunctionDef _ y _ _ _ _ _ _ _ _=>y|_=>default
def f2:Stmt->List Stmt|.FunctionDef _ _ y _ _ _ _ _ _ _=>y|_=>[]
def f6:Stmt->Scope|.FunctionDef _ _ _ _ _ _ y _ _ _=>y|_=>default
noncomputable abbrev u0:=@Obj.mk
abbrev u1:=@Value.type
abbrev u2:=@Option.none.{0} (@Nat)
abbrev u3:=@Data.seq
abbrev u4:=@List.toArray.{0} Value
abbrev u5:=@List.nil.{0} Value
abbrev u6:=@List.toArray.{0} (Option Value)
abbrev u7:=@List.nil.{0} (Option Value)
abbrev u8:=@Value.none
abbrev u9:=@Data.fields
abbrev u10:=@List.cons.{0} Value
noncomputable abbrev u11:=@Value.str
noncomputable abbrev u12:=@Value.int
noncomputable abbrev u13:=@Value.ref
abbrev u14:=@Value.bool
abbrev u15:=@Bool.false
abbrev u16:=@Data.plain
abbrev u17:=@List.cons.{0} (Option Value)
noncomputable abbrev u18:=@Option.some.{0} Value
abbrev u19:=@Option.none.{0} Value
abbrev u20:=@Data.dict
abbrev u21:=@List.toArray.{0} DictEntry
abbrev u22:=@List.cons.{0} DictEntry
abbrev u23:=@DictEntry.mk
abbrev u24:=@PyData.keyHash
abbrev u25:=@Value.builtin
abbrev u26:=@List.nil.{0} DictEntry
abbrev u27:=@Data.func
abbrev u28:=@FuncData.mk
abbrev u29:=@FuncBody.stmts
abbrev u30:=@List.nil.{0} (@Prod.{0,0} (@Str) (@Nat))
abbrev u31:=@Bool.true
abbrev u32:=@Data.cls
abbrev u33:=@ClassData.mk
abbrev u34:=@List.nil.{0} (@Str)
abbrev u35:=@Option.none.{0} (@Bool)
abbrev u36:=@List.cons.{0} (@Prod.{0,0} (@Nat) (@Obj))
abbrev u37:=@Prod.mk.{0,0} (@Nat) (@Obj)
abbrev u38:=@List.nil.{0} (@Prod.{0,0} (@Nat) (@Obj))
abbrev u39:=@Heap.mk
abbrev u40:=@Array.mk.{0} (@Obj)
abbrev u41:=@List.cons.{0} (@Obj)
abbrev u42:=@List.nil.{0} (@Obj)
abbrev u43:=@Life.mk
abbrev u44:=@List.nil.{0} (@Nat)
abbrev u45:=@List.nil.{0} (@Prod.{0,0} (@Nat) (@Nat))
abbrev u46:=@List.toArray.{0} (@Nat)
abbrev u47:=@List.cons.{0} (@Int)
abbrev u48:=@List.nil.{0} (@Int)
abbrev u49:=@PySem.W.BT.node
abbrev u50:=@PySem.W.BT.nil
noncomputable abbrev M(c:Value)(d:Data):Obj:=Obj.mk c none d #[]
noncomputable abbrev E(x:X)(s:Str)(n:Nat)(v:Value):DictEntry:=⟨PyData.keyHash x.2 s,.str s n,v⟩
abbrev N(o:X->Obj)(l r:X->PySem.W.BT):X->PySem.W.BT:=λx=>.node (o x) (l x) (r x)
abbrev Z:X->PySem.W.BT:=λ_=>.nil
abbrev Q(o:X->Obj)(l:X->List Obj):X->List Obj:=λx=>o x::l x
abbrev R:X->List Obj:=λ_=>[]
abbrev J(k:Nat)(o:X->Obj)(l:X->List (Nat×Obj)):X->List (Nat×Obj):=λx=>(k,o x)::l x
abbrev I:X->List (Nat×Obj):=λ_=>[]
def inz:PySem.W.BT->Nat->Obj->PySem.W.BT
 |.nil,_,o=>.node o .nil .nil
 |.node v l r,i,o=>if i=0 then .node o l r else if i % 2=1 then .node v (inz l (i / 2) o) r else .node v l (inz r (i / 2-1) o)
def gi:List (X->Obj)->Nat->X->PySem.W.BT->PySem.W.BT
 |[],_,_,t=>t
 |o::l,k,x,t=>gi l (k+1) x (inz t k (o x))
def G(t:X->PySem.W.BT)(k:Nat)(l:List (X->Obj)):X->PySem.W.BT:=λx=>gi l k x (t x)
def ap{α:Type}:List α->List α->List α
 |[],l=>l
 |a::k,l=>a::ap k l
def sz{α:Type}:List α->Nat->α->List α
 |[],_,_=>[]
 |_::l,0,b=>b::l
 |a::l,i+1,b=>a::sz l i b
def mp(x:X):List (X->Obj)->List Obj
 |[]=>[]
 |o::l=>o x::mp x l
def il{α:Type}:List α->List α->List α
 |[],l=>l
 |a::k,[]=>a::k
 |a::k,b::m=>a::b::il k m
def fl:PySem.W.BT->List Obj
 |.nil=>[]
 |.node o l r=>o::il (fl l) (fl r)
def pj:List Obj->Nat->List Nat->List (Nat×Obj)
 |o::l,k,a::m=>if k=a then(a,o)::pj l (k+1) m else pj l (k+1) (a::m)
 |_,_,_=>[]
structure Nf{α:Type}(e:α) where
 v:α
 h:v=e
noncomputable abbrev nf{α:Type}(e:α)(t:Nf e:=by refine' ⟨_,?_⟩;rotate_left;dsimp[G,gi,inz,ap,sz,mp,il,fl,pj];rfl):α:=t.v
def k0(x:X):Obj:=M (u1 x.l0) (u3 (u4 u5) 0)
def k1(x:X)(a0:Str)(a1 a2 a3:Nat)(a4:Int)(a5 a6:Nat)(a7:Int)(a8:Nat):Obj:=M (u1 x.l1) (u9 (u4 [u11 a0 a1,u11 a0 a2,u11 x.a.b a3,u12 a4 0,u12 0 0,u12 0 0,u12 0 0,u12 0 0,u13 a5,u14 u15,u12 181 0,u13 a6,u8,u8,u8,u8,u12 a7 0,u12 a4 0,u11 x.a.b a8]))
def k2(x:X)(a0 a1:Nat)(a2:Str)(a3:Nat):Obj:=u0 (u1 x.l2) u2 u16 (u6 [u18 (u13 a0),u18 (u13 3),u18 (u13 a1),u19,u18 (u11 a2 a3),u19,u18 (u13 0)])
def k3(x:X)(a0 a1:Int)(a2:Nat)(a3:Int)(a4:Nat):Obj:=M u8 (u9 (u4 [u12 a0 0,u12 a1 0,u13 a2,u12 a3 0,u12 a1 0,u13 a4]))
def k4(x:X)(a0:Str)(a1:Nat):Obj:=M (u1 x.l0) (u3 (u4 [u11 a0 a1]) 0)
def k5(x:X)(a0:Str)(a1 a2:Stmt):Obj:=M u8 (u27 (u28 a0 a0 (f1 a1) (u29 (f2 a1)) (f6 a2) 0 u30 u8 u8 u8 u8 u2 u8 u8 0))
def k6(x:X)(a0:Str)(a1:Nat)(a2:Str)(a3 a4:Nat)(a5 a6:Int)(a7 a8 a9 a10 a11:Nat)(a12:Int)(a13:Nat):Obj:=M (u1 x.l1) (u9 (u4 [u11 a0 a1,u11 a2 a3,u11 x.a.b a4,u12 a5 0,u12 a6 0,u12 0 0,u12 0 0,u12 3 0,u13 a7,u14 u31,u12 181 0,u13 a8,u8,u13 a9,u13 a10,u13 a11,u12 a12 0,u12 a5 0,u11 x.a.b a13]))
def k7(x:X)(a0:Str)(a1 a2:Stmt)(a3:Str)(a4 a5:Nat):Obj:=M (u1 x.l5) (u27 (u28 a0 a0 (f1 a1) (u29 (f2 a1)) (f6 a2) 3 u30 u8 u8 u8 (u11 a3 a4) u2 (u13 a5) u8 0))
def k8(x:X):Obj:=M (u1 x.l7) (u9 (u4 [u25 x.l8,u1 x.l9]))
def k9(x:X)(a0 a1:Nat)(a2:Int)(a3:Nat)(a4:Str)(a5 a6:Nat)(a7:Str)(a8 a9 a10 a11:Nat):Obj:=M (u1 x.l3) (u20 (u21 [E x x.a.v a0 (u11 x.a.e 204),E x x.a.x a1 (u12 a2 a3),E x a4 a5 (u13 a6),E x a7 a8 (u13 a9),E x x.a.f a10 u8]) a11)
def k10(x:X)(a0 a1:Nat):Obj:=M (u1 x.l14) (u9 (u4 [u11 x.b.a a0,u13 a1,u25 x.l15,u8]))
def k11(x:X)(a0:Nat):Obj:=M (u1 x.l16) (u9 (u4 [u13 a0,u13 a0,u13 a0]))
def k12(x:X)(a0:Nat):Obj:=M (u1 x.l7) (u9 (u4 [u25 x.l17,u13 a0]))
def k13(x:X)(a0:Nat):Obj:=M (u1 x.l0) (u3 (u4 [u13 a0]) 0)
def k14(x:X)(a0:Nat)(a1:Str)(a2 a3:Nat)(a4:Str)(a5 a6:Nat)(a7:Int)(a8:Nat)(a9:Str)(a10 a11 a12 a13:Nat):Obj:=M (u1 x.l3) (u20 (u21 [E x x.a.v a0 (u11 a1 a2),E x x.a.w a3 (u11 a4 a5),E x x.a.x a6 (u12 a7 a8),E x a9 a10 (u13 a11),E x x.a.y a12 (u13 a13)]) 5)
def k15(x:X)(a0:Int)(a1:Nat):Obj:=M u8 (u9 (u4 [u12 a0 0,u12 4 0,u13 a1]))
def k16(x:X)(a0:Str)(a1:Nat)(a2:Str)(a3:Nat):Obj:=M (u1 x.l0) (u3 (u4 [u11 a0 a1,u11 a2 a3]) 0)
def k17(x:X)(a0 a1:Str)(a2 a3:Stmt):Obj:=M u8 (u27 (u28 a0 a1 (f1 a2) (u29 (f2 a2)) (f6 a3) 0 u30 u8 u8 u8 u8 u2 u8 u8 0))
def k18(x:X)(a0 a1:Str)(a2 a3:Stmt)(a4:Str)(a5 a6:Nat):Obj:=M (u1 x.l5) (u27 (u28 a0 a1 (f1 a2) (u29 (f2 a2)) (f6 a3) 3 u30 u8 u8 u8 (u11 a4 a5) u2 (u13 a6) u8 0))
def k19(x:X)(a0:Str)(a1 a2 a3 a4 a5:Nat):Obj:=u0 (u1 x.l9) u2 (u32 (u33 a0 [u13 31] [u13 a1,u13 31,u1 x.l6,u1 x.l10,u1 x.l11,u1 x.l12] a2 a0 u31 u34 u5 u15 u35 u15)) (u6 [u18 (u13 a3),u19,u18 (u11 a0 a4),u18 (u11 a0 a5),u18 (u25 x.l13),u18 (u14 u31)])
def k20(x:X)(a0 a1:Int)(a2:Nat)(a3:Int)(a4:Nat)(a5:Int)(a6:Nat)(a7:Int)(a8:Nat)(a9:Int)(a10:Nat):Obj:=M u8 (u9 (u4 [u12 a0 0,u12 a1 0,u13 a2,u12 a3 0,u12 a1 0,u13 a4,u12 a5 0,u12 a1 0,u13 a6,u12 a7 0,u12 a1 0,u13 a8,u12 a9 0,u12 a1 0,u13 a10]))
def k21(x:X)(a0:Str)(a1:Nat)(a2:Str)(a3:Nat)(a4:Str)(a5:Nat):Obj:=M (u1 x.l0) (u3 (u4 [u11 a0 a1,u11 a2 a3,u11 a4 a5]) 0)
def k22(x:X)(a0:Str)(a1:Nat)(a2:Str)(a3 a4:Nat)(a5 a6:Int)(a7 a8 a9:Nat)(a10:Int)(a11:Nat):Obj:=M (u1 x.l1) (u9 (u4 [u11 a0 a1,u11 a2 a3,u11 x.a.b a4,u12 a5 0,u12 a6 0,u12 0 0,u12 0 0,u12 3 0,u13 a7,u14 u31,u12 181 0,u13 a8,u8,u8,u8,u13 a9,u12 a10 0,u12 a5 0,u11 x.a.b a11]))
def k23(x:X)(a0:Str)(a1:Nat)(a2:Str)(a3:Nat)(a4:Str)(a5:Nat)(a6:Str)(a7:Nat)(a8:Str)(a9:Nat):Obj:=M (u1 x.l0) (u3 (u4 [u11 a0 a1,u11 a2 a3,u11 a4 a5,u11 a6 a7,u11 a8 a9]) 0)
def k24(x:X)(a0:Str)(a1:Nat)(a2:Str)(a3:Nat)(a4:Str)(a5:Nat)(a6:Str)(a7:Nat):Obj:=M (u1 x.l0) (u3 (u4 [u11 a0 a1,u11 a2 a3,u11 a4 a5,u11 a6 a7]) 0)
def k25(x:X)(a0:Str)(a1 a2 a3 a4:Nat):Obj:=u0 (u1 x.l9) u2 (u32 (u33 a0 [u1 x.l12] [u13 a1,u1 x.l12] a2 a0 u31 u34 u5 u15 u35 u15)) (u6 [u19,u19,u18 (u11 a0 a3),u18 (u11 a0 a4),u18 (u25 x.l18),u18 (u14 u31)])
def k26(x:X)(a0 a1:Nat):Obj:=M (u1 x.l14) (u9 (u4 [u11 x.d.q a0,u13 a1,u25 x.l19,u25 x.l20]))
def k27(x:X)(a0:Str)(a1:Nat)(a2:Str)(a3:Nat)(a4:Str)(a5:Nat)(a6:Str)(a7:Nat)(a8:Str)(a9:Nat)(a10:Str)(a11:Nat):Obj:=M (u1 x.l0) (u3 (u4 [u11 a0 a1,u11 a2 a3,u11 a4 a5,u11 a6 a7,u11 a8 a9,u11 a10 a11]) 0)
def k28(x:X)(a0:Stmt):Obj:=M u8 (u27 (u28 (f0 a0) (f0 a0) (f1 a0) (u29 (f2 a0)) (f6 a0) 0 u30 u8 u8 u8 u8 u2 u8 u8 0))
def k29(x:X)(a0:Stmt)(a1:Str)(a2 a3:Nat):Obj:=M (u1 x.l5) (u27 (u28 (f0 a0) (f0 a0) (f1 a0) (u29 (f2 a0)) (f6 a0) 3 u30 u8 u8 u8 (u11 a1 a2) u2 (u13 a3) u8 0))
def k30(x:X)(a0:Str)(a1:Nat)(a2:Str)(a3:Nat)(a4:Str)(a5:Nat)(a6:Str)(a7:Nat)(a8:Str)(a9:Nat)(a10:Str)(a11:Nat)(a12:Str)(a13:Nat)(a14:Str)(a15:Nat):Obj:=M (u1 x.l0) (u3 (u4 [u11 a0 a1,u11 a2 a3,u11 a4 a5,u11 a6 a7,u11 a8 a9,u11 a10 a11,u11 a12 a13,u11 a14 a15]) 0)
def k31(x:X):Obj:=M (u1 x.l0) (u3 (u4 [u8]) 0)
def k32(x:X)(a0 a1:Str)(a2:Stmt)(a3:Nat)(a4:Str)(a5 a6:Nat):Obj:=M (u1 x.l5) (u27 (u28 a0 a1 (f1 a2) (u29 (f2 a2)) (f6 a2) 3 u30 (u13 a3) u8 u8 (u11 a4 a5) u2 (u13 a6) u8 0))
def k33(x:X)(a0:Str)(a1 a2 a3 a4 a5 a6:Nat):Obj:=u0 (u1 x.l9) u2 (u32 (u33 a0 [u13 a1] [u13 a2,u13 a1,u1 x.l12] a3 a0 u31 u34 u5 u15 u35 u15)) (u6 [u18 (u13 a4),u19,u18 (u11 a0 a5),u18 (u11 a0 a6),u18 (u25 x.l18),u18 (u14 u31)])
def k34(x:X)(a0:Int)(a1 a2:Nat):Obj:=M (u1 x.l0) (u3 (u4 [u12 a0 a1,u12 a0 a2]) 0)
def k35(x:X)(a0:Int)(a1:Nat):Obj:=M (u1 x.l0) (u3 (u4 [u12 a0 a1,u8]) 0)
def k36(x:X)(a0:Nat)(a1:Str)(a2 a3:Nat)(a4:Str)(a5 a6:Nat)(a7:Int)(a8 a9 a10:Nat)(a11:Str)(a12 a13 a14 a15:Nat):Obj:=M (u1 x.l3) (u20 (u21 [E x x.a.v a0 (u11 a1 a2),E x x.a.w a3 (u11 a4 a5),E x x.a.x a6 (u12 a7 a8),E x x.b.c a9 (u13 a10),E x a11 a12 (u13 a13),E x x.a.y a14 (u13 a15)]) 6)
def k37(x:X)(a0 a1:Nat)(a2:Int)(a3 a4 a5 a6 a7 a8 a9 a10:Nat):Obj:=M (u1 x.l3) (u20 (u21 [E x x.a.v a0 (u11 x.k.v 1574),E x x.a.x a1 (u12 a2 a3),E x x.b.c a4 (u13 a5),E x x.k.x a6 (u13 a7),E x x.a.y a8 (u13 a9),E x x.a.f a10 u8]) 2)
variable(x:X)
def o43:=k0 x
def o44(x:X):Obj:=M u8 (u9 (u4 u5))
def o45:=k1 x x.a.a 182 183 184 1 11 12 185 186
def o46:=k2 x 13 3 x.a.c 164
abbrev d0:List DictEntry:=[E x x.a.d 165 (u11 x.a.e 204),E x x.a.f 166 u8,E x x.a.g 167 u8,E x x.a.h 168 (u25 x.l4),E x x.a.i 169 u8,E x x.a.j 170 (u13 6),E x x.a.k 171 (u13 4),E x x.a.l 173 (u11 x.a.b 172),E x x.a.m 174 u8,E x x.a.n 193 (u13 21),E x x.a.o 195 (u12 18446744073709551615 194),E x x.a.p 197 (u12 40 196),E x x.a.q 199 (u12 20 198),E x x.a.r 201 (u12 7 200),E x x.a.s 203 (u12 1000000000000 202),E x x.a.t 223 (u13 31)]
def o49:=M (u1 x.l3) (u20 (u21 (d0 x)) 16)
def o50:=k3 x 1 0 20 10 27
def o53:=k4 x x.a.u 190
def o55:=k5 x x.a.n (st x 0) (st x 0)
def o56:=k6 x x.a.n 187 x.a.n 188 189 1 1 15 16 17 18 19 191 192
def o57:=k7 x x.a.n (st x 0) (st x 0) x.a.c 164 20
def o58:=M (u1 x.l0) (u3 (u4 [u1 x.l6]) 0)
def o59:=k8 x
def o60:=M (u1 x.l3) (u20 (u21 [E x x.a.v 213 (u11 x.a.e 204),E x x.a.w 215 (u11 x.a.t 214),E x x.a.x 217 (u12 10 216),E x x.a.y 218 (u13 29)]) 4)
def o63:=k1 x x.a.t 208 209 210 10 25 26 211 212
def o64:=k2 x 27 24 x.a.e 204
def o66:=k9 x 213 217 10 216 x.a.y 218 29 x.b.a 220 32 221 3
abbrev d2:List Value:=[u13 31,u1 x.l6,u1 x.l10,u1 x.l11,u1 x.l12]
abbrev d3:List (Option Value):=[u18 (u13 22),u19,u18 (u11 x.a.t 206),u18 (u11 x.a.t 214),u18 (u25 x.l13),u18 (u14 u31)]
def o67:=u0 (u1 x.l9) u2 (u32 (u33 x.a.t [u1 x.l6] (d2 x) 30 x.a.t u31 u34 u5 u15 u35 u15)) (u6 (d3 x))
def o68:=k10 x 219 31
def o69:=k11 x 31
def o70:=k12 x 31
abbrev d4:List DictEntry:=nf (ap (d0 x) [E x x.b.b 248 (u13 51)])
def o71:=M (u1 x.l3) (u20 (u21 (d4 x)) 17)
abbrev d5(x:X):List Value:=[u12 1 0,u12 0 0,u13 20,u12 10 0,u12 0 0,u13 27,u12 12 0,u12 0 0,u13 40]
def o72:=M u8 (u9 (u4 (d5 x)))
def o73:=u0 (u1 x.l9) u2 (u32 (u33 x.a.t [u1 x.l6] (d2 x) 30 x.a.t u31 u34 [u13 51] u15 u35 u15)) (u6 (d3 x))
def o74:=k13 x 31
def o76:=k14 x 231 x.a.e 204 233 x.b.b 232 235 12 234 x.b.c 243 48 245 49
def o78:=k15 x 14 47
def o79:=k1 x x.b.b 226 227 228 12 38 39 229 230
def o80:=k2 x 40 37 x.a.e 204
def o83:=k16 x x.b.d 239 x.b.e 240
def o85:=k17 x x.b.c x.b.f (sm x 8 0) (sm x 8 0)
def o86:=k6 x x.b.c 236 x.b.f 237 238 14 2 42 43 44 45 46 241 242
def o87:=k18 x x.b.c x.b.f (sm x 8 0) (sm x 8 0) x.a.e 204 47
def o88:=k4 x x.b.e 244
def o89:=k9 x 231 235 12 234 x.b.c 243 48 x.a.y 245 49 246 2
def o90:=k19 x x.b.b 51 50 35 224 232
def o91:=k11 x 51
def o92:=k12 x 51
abbrev d8:List DictEntry:=nf (ap (d4 x) [E x x.b.g 273 (u13 70)])
def o93:=M (u1 x.l3) (u20 (u21 (d8 x)) 18)
abbrev d9:List Value:=nf (ap (d5 x) [u12 16 0,u12 0 0,u13 59])
def o94:=M u8 (u9 (u4 (d9 x)))
def o95:=u0 (u1 x.l9) u2 (u32 (u33 x.a.t [u1 x.l6] (d2 x) 30 x.a.t u31 u34 [u13 51,u13 70] u15 u35 u15)) (u6 (d3 x))
def o98:=k14 x 256 x.a.e 204 258 x.b.g 257 260 16 259 x.b.c 268 67 270 68
def ac5:=k15 x 18 66
def S4:=k1 x x.b.g 251 252 253 16 57 58 254 255
def XW:=k2 x 59 56 x.a.e 204
def aai:=k16 x x.b.d 264 x.b.h 265
def Yx:=k17 x x.b.c x.b.i (sm x 9 0) (sm x 9 0)
def UQ:=k6 x x.b.c 261 x.b.i 262 263 18 2 61 62 63 64 65 266 267
def ac1:=k18 x x.b.c x.b.i (sm x 9 0) (sm x 9 0) x.a.e 204 66
def Zg:=k4 x x.b.h 269
def WL:=k9 x 256 260 16 259 x.b.c 268 67 x.a.y 270 68 271 2
def XI:=k19 x x.b.g 70 69 54 249 257
def Tt:=k11 x 70
def aaw:=k12 x 70
abbrev d12:List DictEntry:=nf (ap (d8 x) [E x x.b.j 298 (u13 89)])
def agV:=M (u1 x.l3) (u20 (u21 (d12 x)) 19)
def ahc:=k20 x 1 0 20 10 27 12 40 16 59 20 78
def ahl:=u0 (u1 x.l9) u2 (u32 (u33 x.a.t [u1 x.l6] (d2 x) 30 x.a.t u31 u34 [u13 51,u13 70,u13 89] u15 u35 u15)) (u6 (d3 x))
def adk:=k14 x 281 x.a.e 204 283 x.b.j 282 285 20 284 x.b.c 293 86 295 87
def UT:=k15 x 22 85
def UH:=k1 x x.b.j 276 277 278 20 76 77 279 280
def XO:=k2 x 78 75 x.a.e 204
def YE:=k16 x x.b.d 289 x.b.k 290
def RM:=k17 x x.b.c x.b.l (sm x 10 0) (sm x 10 0)
def acL:=k6 x x.b.c 286 x.b.l 287 288 22 2 80 81 82 83 84 291 292
def WX:=k18 x x.b.c x.b.l (sm x 10 0) (sm x 10 0) x.a.e 204 85
def UZ:=k4 x x.b.k 294
def abh:=k9 x 281 285 20 284 x.b.c 293 86 x.a.y 295 87 296 2
def YO:=k19 x x.b.j 89 88 73 274 282
def RH:=k11 x 89
def Wr:=k12 x 89
abbrev d15:List DictEntry:=nf (ap (d12 x) [E x x.b.m 323 (u13 108)])
def ahA:=M (u1 x.l3) (u20 (u21 (d15 x)) 20)
abbrev d16:List Value:=nf (ap (d9 x) [u12 20 0,u12 0 0,u13 78,u12 24 0,u12 0 0,u13 97])
def ahC:=M u8 (u9 (u4 (d16 x)))
abbrev d18(x:X):List Value:=[u13 51,u13 70,u13 89,u13 108]
def agW:=u0 (u1 x.l9) u2 (u32 (u33 x.a.t [u1 x.l6] (d2 x) 30 x.a.t u31 u34 (d18 x) u15 u35 u15)) (u6 (d3 x))
def YL:=k14 x 306 x.a.e 204 308 x.b.m 307 310 24 309 x.b.c 318 105 320 106
def ZM:=k15 x 26 104
def Tn:=k1 x x.b.m 301 302 303 24 95 96 304 305
def WW:=k2 x 97 94 x.a.e 204
def We:=k16 x x.b.d 314 x.b.n 315
def Se:=k17 x x.b.c x.b.o (sm x 11 0) (sm x 11 0)
def Wb:=k6 x x.b.c 311 x.b.o 312 313 26 2 99 100 101 102 103 316 317
def WG:=k18 x x.b.c x.b.o (sm x 11 0) (sm x 11 0) x.a.e 204 104
def UJ:=k4 x x.b.n 319
def adb:=k9 x 306 310 24 309 x.b.c 318 105 x.a.y 320 106 321 2
def ZL:=k19 x x.b.m 108 107 92 299 307
def UK:=k11 x 108
def R8:=k12 x 108
abbrev d20:List DictEntry:=nf (ap (d15 x) [E x x.b.p 348 (u13 127)])
def ahE:=M (u1 x.l3) (u20 (u21 (d20 x)) 21)
abbrev d21:List Value:=nf (ap (d16 x) [u12 28 0,u12 0 0,u13 116])
def ahW:=M u8 (u9 (u4 (d21 x)))
abbrev d23:List Value:=nf (ap (d18 x) [u13 127])
def aia:=u0 (u1 x.l9) u2 (u32 (u33 x.a.t [u1 x.l6] (d2 x) 30 x.a.t u31 u34 (d23 x) u15 u35 u15)) (u6 (d3 x))
def Tc:=k14 x 331 x.a.e 204 333 x.b.p 332 335 28 334 x.b.c 343 124 345 125
def VY:=k15 x 30 123
def Wg:=k1 x x.b.p 326 327 328 28 114 115 329 330
def abd:=k2 x 116 113 x.a.e 204
def Vf:=k16 x x.b.d 339 x.b.q 340
def abY:=k17 x x.b.c x.b.r (sm x 12 0) (sm x 12 0)
def ZP:=k6 x x.b.c 336 x.b.r 337 338 30 2 118 119 120 121 122 341 342
def Tg:=k18 x x.b.c x.b.r (sm x 12 0) (sm x 12 0) x.a.e 204 123
def Tr:=k4 x x.b.q 344
def Vs:=k9 x 331 335 28 334 x.b.c 343 124 x.a.y 345 125 346 2
def Zj:=k19 x x.b.p 127 126 111 324 332
def Xi:=k11 x 127
def W9:=k12 x 127
abbrev d25:List DictEntry:=nf (ap (d20 x) [E x x.b.s 375 (u13 146)])
def ahZ:=M (u1 x.l3) (u20 (u21 (d25 x)) 22)
abbrev d26:List Value:=nf (ap (d21 x) [u12 32 0,u12 0 0,u13 135])
def aic:=M u8 (u9 (u4 (d26 x)))
abbrev d28:List Value:=nf (ap (d23 x) [u13 146])
def ahi:=u0 (u1 x.l9) u2 (u32 (u33 x.a.t [u1 x.l6] (d2 x) 30 x.a.t u31 u34 (d28 x) u15 u35 u15)) (u6 (d3 x))
def SV:=k14 x 356 x.a.e 204 358 x.b.s 357 360 32 359 x.b.c 369 143 372 144
def RC:=k15 x 34 142
def VA:=k1 x x.b.s 351 352 353 32 133 134 354 355
def S9:=k2 x 135 132 x.a.e 204
def Wi:=k21 x x.b.d 364 x.b.t 365 x.b.q 366
def V2:=k17 x x.b.c x.b.u (sm x 13 0) (sm x 13 0)
def RD:=k6 x x.b.c 361 x.b.u 362 363 34 3 137 138 139 140 141 367 368
def ZC:=k18 x x.b.c x.b.u (sm x 13 0) (sm x 13 0) x.a.e 204 142
def TJ:=k16 x x.b.t 370 x.b.q 371
def UG:=k9 x 356 360 32 359 x.b.c 369 143 x.a.y 372 144 373 2
def ace:=k19 x x.b.s 146 145 130 349 357
def aaD:=k11 x 146
def ZW:=k12 x 146
abbrev d30:List DictEntry:=nf (ap (d25 x) [E x x.b.v 400 (u13 165)])
def ahf:=M (u1 x.l3) (u20 (u21 (d30 x)) 23)
abbrev d31:List Value:=nf (ap (d26 x) [u12 37 0,u12 0 0,u13 154])
def ahX:=M u8 (u9 (u4 (d31 x)))
abbrev d33:List Value:=nf (ap (d28 x) [u13 165])
def ahy:=u0 (u1 x.l9) u2 (u32 (u33 x.a.t [u1 x.l6] (d2 x) 30 x.a.t u31 u34 (d33 x) u15 u35 u15)) (u6 (d3 x))
def Y6:=k14 x 383 x.a.e 204 385 x.b.v 384 387 37 386 x.b.c 395 162 397 163
def RG:=k15 x 39 161
def WD:=k1 x x.b.v 378 379 380 37 152 153 381 382
def Sd:=k2 x 154 151 x.a.e 204
def Wf:=k16 x x.b.d 391 x.b.w 392
def RQ:=k17 x x.b.c x.b.x (sm x 14 0) (sm x 14 0)
def S7:=k6 x x.b.c 388 x.b.x 389 390 39 2 156 157 158 159 160 393 394
def UX:=k18 x x.b.c x.b.x (sm x 14 0) (sm x 14 0) x.a.e 204 161
def aaI:=k4 x x.b.w 396
def VJ:=k9 x 383 387 37 386 x.b.c 395 162 x.a.y 397 163 398 2
def Tf:=k19 x x.b.v 165 164 149 376 384
def Uk:=k11 x 165
def SW:=k12 x 165
abbrev d35:List DictEntry:=nf (ap (d30 x) [E x x.b.y 425 (u13 184)])
def ahH:=M (u1 x.l3) (u20 (u21 (d35 x)) 24)
abbrev d36:List Value:=nf (ap (d31 x) [u12 41 0,u12 0 0,u13 173])
def ahF:=M u8 (u9 (u4 (d36 x)))
abbrev d38:List Value:=nf (ap (d33 x) [u13 184])
def aht:=u0 (u1 x.l9) u2 (u32 (u33 x.a.t [u1 x.l6] (d2 x) 30 x.a.t u31 u34 (d38 x) u15 u35 u15)) (u6 (d3 x))
def Td:=k14 x 408 x.a.e 204 410 x.b.y 409 412 41 411 x.b.c 420 181 422 182
def Y7:=k15 x 43 180
def acH:=k1 x x.b.y 403 404 405 41 171 172 406 407
def RY:=k2 x 173 170 x.a.e 204
def Wy:=k16 x x.b.d 416 x.c.a 417
def Ze:=k17 x x.b.c x.c.b (sm x 15 0) (sm x 15 0)
def Xa:=k6 x x.b.c 413 x.c.b 414 415 43 2 175 176 177 178 179 418 419
def WQ:=k18 x x.b.c x.c.b (sm x 15 0) (sm x 15 0) x.a.e 204 180
def ZG:=k4 x x.c.a 421
def XR:=k9 x 408 412 41 411 x.b.c 420 181 x.a.y 422 182 423 2
def Zh:=k19 x x.b.y 184 183 168 401 409
def adf:=k11 x 184
def Yn:=k12 x 184
abbrev d40:List DictEntry:=nf (ap (d35 x) [E x x.c.c 450 (u13 203)])
def ah4:=M (u1 x.l3) (u20 (u21 (d40 x)) 25)
abbrev d41:List Value:=nf (ap (d36 x) [u12 45 0,u12 0 0,u13 192])
def ahe:=M u8 (u9 (u4 (d41 x)))
abbrev d43:List Value:=nf (ap (d38 x) [u13 203])
def aih:=u0 (u1 x.l9) u2 (u32 (u33 x.a.t [u1 x.l6] (d2 x) 30 x.a.t u31 u34 (d43 x) u15 u35 u15)) (u6 (d3 x))
def aaT:=k14 x 433 x.a.e 204 435 x.c.c 434 437 45 436 x.b.c 445 200 447 201
def Ub:=k15 x 47 199
def ab4:=k1 x x.c.c 428 429 430 45 190 191 431 432
def YN:=k2 x 192 189 x.a.e 204
def RX:=k16 x x.b.d 441 x.b.q 442
def acz:=k17 x x.b.c x.c.d (sm x 16 0) (sm x 12 0)
def RA:=k6 x x.b.c 438 x.c.d 439 440 47 2 194 195 196 197 198 443 444
def Zc:=k18 x x.b.c x.c.d (sm x 16 0) (sm x 12 0) x.a.e 204 199
def aaF:=k4 x x.b.q 446
def UM:=k9 x 433 437 45 436 x.b.c 445 200 x.a.y 447 201 448 2
def Zw:=k19 x x.c.c 203 202 187 426 434
def XU:=k11 x 203
def Sn:=k12 x 203
abbrev d45:List DictEntry:=nf (ap (d40 x) [E x x.c.e 466 (u13 215)])
def ag5:=M (u1 x.l3) (u20 (u21 (d45 x)) 26)
abbrev d46:List Value:=nf (ap (d41 x) [u12 49 0,u12 0 0,u13 211])
def ag7:=M u8 (u9 (u4 (d46 x)))
abbrev d48:List Value:=nf (ap (d43 x) [u13 215])
def ahM:=u0 (u1 x.l9) u2 (u32 (u33 x.a.t [u1 x.l6] (d2 x) 30 x.a.t u31 u34 (d48 x) u15 u35 u15)) (u6 (d3 x))
def Zl:=M (u1 x.l3) (u20 (u21 [E x x.a.v 458 (u11 x.a.e 204),E x x.a.w 460 (u11 x.c.e 459),E x x.a.x 462 (u12 49 461),E x x.a.y 463 (u13 213)]) 4)
def ac9:=k1 x x.c.e 453 454 455 49 209 210 456 457
def acn:=k2 x 211 208 x.a.e 204
def WB:=M (u1 x.l3) (u20 (u21 [E x x.a.v 458 (u11 x.a.e 204),E x x.a.x 462 (u12 49 461),E x x.a.y 463 (u13 213),E x x.a.f 464 u8]) 2)
def Wl:=k19 x x.c.e 215 214 206 451 459
def RZ:=k11 x 215
def abB:=k12 x 215
abbrev d52:List DictEntry:=nf (ap (d45 x) [E x x.c.f 491 (u13 234)])
def ahR:=M (u1 x.l3) (u20 (u21 (d52 x)) 27)
abbrev d53:List Value:=nf (ap (d46 x) [u12 51 0,u12 0 0,u13 223])
def ahg:=M u8 (u9 (u4 (d53 x)))
abbrev d55:List Value:=nf (ap (d48 x) [u13 234])
def ag6:=u0 (u1 x.l9) u2 (u32 (u33 x.a.t [u1 x.l6] (d2 x) 30 x.a.t u31 u34 (d55 x) u15 u35 u15)) (u6 (d3 x))
def abi:=k14 x 474 x.a.e 204 476 x.c.f 475 478 51 477 x.b.c 486 231 488 232
def XZ:=k15 x 53 230
def Wk:=k1 x x.c.f 469 470 471 51 221 222 472 473
def YC:=k2 x 223 220 x.a.e 204
def SY:=k16 x x.b.d 482 x.c.g 483
def Yj:=k17 x x.b.c x.c.h (sm x 18 0) (sm x 18 0)
def WV:=k6 x x.b.c 479 x.c.h 480 481 53 2 225 226 227 228 229 484 485
def ZX:=k18 x x.b.c x.c.h (sm x 18 0) (sm x 18 0) x.a.e 204 230
def Ws:=k4 x x.c.g 487
def aac:=k9 x 474 478 51 477 x.b.c 486 231 x.a.y 488 232 489 2
def Y5:=k19 x x.c.f 234 233 218 467 475
def ac6:=k11 x 234
def Uo:=k12 x 234
abbrev d57:List DictEntry:=nf (ap (d52 x) [E x x.c.i 518 (u13 253)])
def agY:=M (u1 x.l3) (u20 (u21 (d57 x)) 28)
abbrev d58:List Value:=nf (ap (d53 x) [u12 55 0,u12 0 0,u13 242])
def ahs:=M u8 (u9 (u4 (d58 x)))
abbrev d60:List Value:=nf (ap (d55 x) [u13 253])
def ah0:=u0 (u1 x.l9) u2 (u32 (u33 x.a.t [u1 x.l6] (d2 x) 30 x.a.t u31 u34 (d60 x) u15 u35 u15)) (u6 (d3 x))
def Yi:=k14 x 499 x.a.e 204 501 x.c.i 500 503 55 502 x.b.c 512 250 515 251
def SR:=k15 x 57 249
def aap:=k1 x x.c.i 494 495 496 55 240 241 497 498
def abG:=k2 x 242 239 x.a.e 204
def ZD:=k21 x x.b.d 507 x.b.q 508 x.b.t 509
def US:=k17 x x.b.c x.c.j (sm x 19 0) (sm x 19 0)
def abb:=k6 x x.b.c 504 x.c.j 505 506 57 3 244 245 246 247 248 510 511
def Y8:=k18 x x.b.c x.c.j (sm x 19 0) (sm x 19 0) x.a.e 204 249
def aar:=k16 x x.b.t 513 x.b.q 514
def aa4:=k9 x 499 503 55 502 x.b.c 512 250 x.a.y 515 251 516 2
def aaV:=k19 x x.c.i 253 252 237 492 500
def abZ:=k11 x 253
def SH:=k12 x 253
abbrev d62:List DictEntry:=nf (ap (d57 x) [E x x.c.k 545 (u13 272)])
def ah6:=M (u1 x.l3) (u20 (u21 (d62 x)) 29)
abbrev d63:List Value:=nf (ap (d58 x) [u12 60 0,u12 0 0,u13 261])
def ahx:=M u8 (u9 (u4 (d63 x)))
abbrev d65:List Value:=nf (ap (d60 x) [u13 272])
def aif:=u0 (u1 x.l9) u2 (u32 (u33 x.a.t [u1 x.l6] (d2 x) 30 x.a.t u31 u34 (d65 x) u15 u35 u15)) (u6 (d3 x))
def Xg:=k14 x 526 x.a.e 204 528 x.c.k 527 530 60 529 x.b.c 539 269 542 270
def adg:=k15 x 62 268
def TX:=k1 x x.c.k 521 522 523 60 259 260 524 525
def U3:=k2 x 261 258 x.a.e 204
def abJ:=k21 x x.b.d 534 x.b.q 535 x.c.l 536
def T6:=k17 x x.b.c x.c.m (sm x 20 0) (sm x 20 0)
def Xf:=k6 x x.b.c 531 x.c.m 532 533 62 3 263 264 265 266 267 537 538
def Va:=k18 x x.b.c x.c.m (sm x 20 0) (sm x 20 0) x.a.e 204 268
def aay:=k16 x x.c.l 540 x.b.q 541
def V6:=k9 x 526 530 60 529 x.b.c 539 269 x.a.y 542 270 543 2
def SK:=k19 x x.c.k 272 271 256 519 527
def acv:=k11 x 272
def W2:=k12 x 272
abbrev d67:List DictEntry:=nf (ap (d62 x) [E x x.c.n 570 (u13 291)])
def aha:=M (u1 x.l3) (u20 (u21 (d67 x)) 30)
abbrev d68:List Value:=nf (ap (d63 x) [u12 65 0,u12 0 0,u13 280])
def aie:=M u8 (u9 (u4 (d68 x)))
abbrev d70:List Value:=nf (ap (d65 x) [u13 291])
def aiq:=u0 (u1 x.l9) u2 (u32 (u33 x.a.t [u1 x.l6] (d2 x) 30 x.a.t u31 u34 (d70 x) u15 u35 u15)) (u6 (d3 x))
def VL:=k14 x 553 x.a.e 204 555 x.c.n 554 557 65 556 x.b.c 565 288 567 289
def Sz:=k15 x 67 287
def abv:=k1 x x.c.n 548 549 550 65 278 279 551 552
def abq:=k2 x 280 277 x.a.e 204
def ac4:=k16 x x.b.d 561 x.c.o 562
def ZV:=k17 x x.b.c x.c.p (sm x 21 0) (sm x 21 0)
def Ug:=k6 x x.b.c 558 x.c.p 559 560 67 2 282 283 284 285 286 563 564
def Uu:=k18 x x.b.c x.c.p (sm x 21 0) (sm x 21 0) x.a.e 204 287
def adi:=k4 x x.c.o 566
def Wc:=k9 x 553 557 65 556 x.b.c 565 288 x.a.y 567 289 568 2
def acT:=k19 x x.c.n 291 290 275 546 554
def aaJ:=k11 x 291
def Ux:=k12 x 291
abbrev d72:List DictEntry:=nf (ap (d67 x) [E x x.c.q 595 (u13 310)])
def ag8:=M (u1 x.l3) (u20 (u21 (d72 x)) 31)
abbrev d73:List Value:=nf (ap (d68 x) [u12 69 0,u12 0 0,u13 299])
def ahK:=M u8 (u9 (u4 (d73 x)))
abbrev d75:List Value:=nf (ap (d70 x) [u13 310])
def aiw:=u0 (u1 x.l9) u2 (u32 (u33 x.a.t [u1 x.l6] (d2 x) 30 x.a.t u31 u34 (d75 x) u15 u35 u15)) (u6 (d3 x))
def WZ:=k14 x 578 x.a.e 204 580 x.c.q 579 582 69 581 x.b.c 590 307 592 308
def Vv:=k15 x 71 306
def ZY:=k1 x x.c.q 573 574 575 69 297 298 576 577
def W5:=k2 x 299 296 x.a.e 204
def ac3:=k16 x x.b.d 586 x.c.r 587
def Zi:=k17 x x.b.c x.c.s (sm x 22 0) (sm x 22 0)
def ZR:=k6 x x.b.c 583 x.c.s 584 585 71 2 301 302 303 304 305 588 589
def aaE:=k18 x x.b.c x.c.s (sm x 22 0) (sm x 22 0) x.a.e 204 306
def Yg:=k4 x x.c.r 591
def Ut:=k9 x 578 582 69 581 x.b.c 590 307 x.a.y 592 308 593 2
def aaQ:=k19 x x.c.q 310 309 294 571 579
def acJ:=k11 x 310
def aam:=k12 x 310
abbrev d77:List DictEntry:=nf (ap (sz (d72 x) 0 (E x x.a.d 165 (u11 x.c.t 621))) [E x x.c.u 620 (u13 329)])
def ahn:=M (u1 x.l3) (u20 (u21 (d77 x)) 32)
abbrev d78:List Value:=nf (ap (d73 x) [u12 73 0,u12 0 0,u13 318])
def aiu:=M u8 (u9 (u4 (d78 x)))
def W6:=u0 (u1 x.l9) u2 (u32 (u33 x.a.t [u1 x.l6] (d2 x) 30 x.a.t u31 u34 ((nf (ap (d75 x) [u13 329]))) u15 u35 u15)) (u6 (d3 x))
def Wa:=k14 x 603 x.a.e 204 605 x.c.u 604 607 73 606 x.b.c 615 326 617 327
def acU:=k15 x 75 325
def VM:=k1 x x.c.u 598 599 600 73 316 317 601 602
def U9:=k2 x 318 315 x.a.e 204
def To:=k16 x x.b.d 611 x.c.v 612
def VX:=k17 x x.b.c x.c.w (sm x 23 0) (sm x 23 0)
def Sj:=k6 x x.b.c 608 x.c.w 609 610 75 2 320 321 322 323 324 613 614
def aby:=k18 x x.b.c x.c.w (sm x 23 0) (sm x 23 0) x.a.e 204 325
def XG:=k4 x x.c.v 616
def Tj:=k9 x 603 607 73 606 x.b.c 615 326 x.a.y 617 327 618 2
def aak:=k19 x x.c.u 329 328 313 596 604
def YZ:=k11 x 329
def acE:=k12 x 329
abbrev d82:List DictEntry:=nf (ap (d77 x) [E x x.c.x 696 (u13 381)])
def agX:=M (u1 x.l3) (u20 (u21 (d82 x)) 33)
abbrev d83:List Value:=nf (ap (d78 x) [u12 78 0,u12 0 0,u13 337])
def ah9:=M u8 (u9 (u4 (d83 x)))
def Rf:=M (u1 x.l3) (u20 (u21 [E x x.a.v 630 (u11 x.c.t 621),E x x.a.w 632 (u11 x.c.x 631),E x x.a.x 634 (u12 78 633),E x x.b.c 642 (u13 345),E x x.c.y 648 (u13 350),E x x.d.a 656 (u13 357),E x x.d.b 667 (u13 364),E x x.d.c 676 (u13 371),E x x.d.d 684 (u13 378),E x x.a.y 689 (u13 379)]) 10)
def abW(x:X):Obj:=M u8 (u9 (u4 [u12 80 0,u12 4 0,u13 344,u12 87 0,u12 4 0,u13 349,u12 98 0,u12 4 0,u13 356,u12 102 0,u12 4 0,u13 363,u12 110 0,u12 4 0,u13 370,u12 116 0,u12 4 0,u13 377]))
def abS:=k1 x x.c.x 625 626 627 78 335 336 628 629
def aaC:=k2 x 337 334 x.c.t 621
def Sm:=k16 x x.b.d 638 x.b.h 639
def YY:=k17 x x.b.c x.d.e (sm x 25 0) (sm x 25 0)
def W3:=k6 x x.b.c 635 x.d.e 636 637 80 2 339 340 341 342 343 640 641
def Zt:=k18 x x.b.c x.d.e (sm x 25 0) (sm x 25 0) x.c.t 621 344
def Vz:=k17 x x.c.y x.d.f (sm x 25 1) (sm x 25 1)
def WM:=k22 x x.c.y 643 x.d.f 644 645 87 2 346 347 348 646 647
def Yh:=k18 x x.c.y x.d.f (sm x 25 1) (sm x 25 1) x.c.t 621 349
def aas:=k16 x x.b.d 652 x.b.q 653
def TQ:=k17 x x.d.a x.d.g (sm x 25 2) (sm x 25 2)
def TN:=k6 x x.d.a 649 x.d.g 650 651 98 2 351 352 353 354 355 654 655
def adl:=k18 x x.d.a x.d.g (sm x 25 2) (sm x 25 2) x.c.t 621 356
def ab8:=k23 x x.b.d 660 x.d.h 661 x.d.i 662 x.d.j 663 x.b.q 664
def abx:=k17 x x.d.b x.d.k (sm x 25 3) (sm x 25 3)
def Zs:=k6 x x.d.b 657 x.d.k 658 659 102 3 358 359 360 361 362 665 666
def aaX:=k18 x x.d.b x.d.k (sm x 25 3) (sm x 25 3) x.c.t 621 363
def abK:=k21 x x.b.d 671 x.b.k 672 x.b.n 673
def SD:=k17 x x.d.c x.d.l (sm x 25 4) (sm x 25 4)
def ZZ:=k6 x x.d.c 668 x.d.l 669 670 110 3 365 366 367 368 369 674 675
def V8:=k18 x x.d.c x.d.l (sm x 25 4) (sm x 25 4) x.c.t 621 370
def aax:=k16 x x.b.d 680 x.b.q 681
def acI:=k17 x x.d.d x.d.m (sm x 25 5) (sm x 25 5)
def YK:=k6 x x.d.d 677 x.d.m 678 679 116 2 372 373 374 375 376 682 683
def Yp:=k18 x x.d.d x.d.m (sm x 25 5) (sm x 25 5) x.c.t 621 377
def aan:=k24 x x.d.n 685 x.d.o 686 x.d.p 687 x.b.h 688
def Rg:=M (u1 x.l3) (u20 (u21 [E x x.a.v 630 (u11 x.c.t 621),E x x.a.x 634 (u12 78 633),E x x.b.c 642 (u13 345),E x x.c.y 648 (u13 350),E x x.d.a 656 (u13 357),E x x.d.b 667 (u13 364),E x x.d.c 676 (u13 371),E x x.d.d 684 (u13 378),E x x.a.y 689 (u13 379),E x x.d.q 691 (u13 382),E x x.b.a 693 (u13 383),E x x.a.f 694 u8]) 4)
def YU:=k25 x x.c.x 381 380 623 631
def Rw:=k26 x 690 381
def abT:=k10 x 692 381
def YT:=k11 x 381
def adj:=k12 x 381
abbrev d87:List DictEntry:=nf (ap (sz (d82 x) 0 (E x x.a.d 165 (u11 x.d.r 704))) [E x x.d.s 703 (u13 392)])
def ag1:=M (u1 x.l3) (u20 (u21 (d87 x)) 34)
abbrev d88:List Value:=nf (ap (d83 x) [u12 119 0,u12 0 0,u13 391])
def ahT:=M u8 (u9 (u4 (d88 x)))
def U1:=k4 x x.b.h 700
def Ul:=k5 x x.d.s (st x 26) (st x 26)
def Zd:=k6 x x.d.s 697 x.d.s 698 699 119 1 386 387 388 389 390 701 702
def Y4:=k7 x x.d.s (st x 26) (st x 26) x.c.t 621 391
abbrev d89:List DictEntry:=nf (ap (d87 x) [E x x.d.t 809 (u13 472)])
def ahr:=M (u1 x.l3) (u20 (u21 (d89 x)) 35)
abbrev d90:List Value:=nf (ap (d88 x) [u12 123 0,u12 0 0,u13 398])
def ahw:=M u8 (u9 (u4 (d90 x)))
def abE:=M (u1 x.l3) (u20 (u21 [E x x.a.v 713 (u11 x.d.r 704),E x x.a.w 715 (u11 x.d.t 714),E x x.a.x 717 (u12 123 716),E x x.b.c 724 (u13 406),E x x.d.u 732 (u13 413),E x x.d.v 739 (u13 420),E x x.d.w 748 (u13 427),E x x.d.x 755 (u13 434),E x x.d.y 762 (u13 441),E x x.e.a 771 (u13 448),E x x.e.b 781 (u13 455),E x x.e.c 790 (u13 462),E x x.e.d 800 (u13 469),E x x.a.y 802 (u13 470)]) 14)
def aa8(x:X):Obj:=M u8 (u9 (u4 [u12 125 0,u12 4 0,u13 405,u12 128 0,u12 4 0,u13 412,u12 132 0,u12 4 0,u13 419,u12 137 0,u12 4 0,u13 426,u12 145 0,u12 4 0,u13 433,u12 148 0,u12 4 0,u13 440,u12 151 0,u12 4 0,u13 447,u12 157 0,u12 4 0,u13 454,u12 165 0,u12 4 0,u13 461,u12 171 0,u12 4 0,u13 468]))
def Te:=k1 x x.d.t 708 709 710 123 396 397 711 712
def Xm:=k2 x 398 395 x.d.r 704
def Zq:=k4 x x.b.d 721
def abj:=k17 x x.b.c x.e.e (sm x 28 0) (sm x 28 0)
def YJ:=k6 x x.b.c 718 x.e.e 719 720 125 1 400 401 402 403 404 722 723
def RO:=k18 x x.b.c x.e.e (sm x 28 0) (sm x 28 0) x.d.r 704 405
def ZN:=k16 x x.b.d 728 x.e.f 729
def Zk:=k17 x x.d.u x.e.g (sm x 28 1) (sm x 28 1)
def WO:=k6 x x.d.u 725 x.e.g 726 727 128 2 407 408 409 410 411 730 731
def YM:=k18 x x.d.u x.e.g (sm x 28 1) (sm x 28 1) x.d.r 704 412
def UA:=k4 x x.b.d 736
def Yo:=k17 x x.d.v x.e.h (sm x 28 2) (sm x 28 2)
def Up:=k6 x x.d.v 733 x.e.h 734 735 132 1 414 415 416 417 418 737 738
def Wv:=k18 x x.d.v x.e.h (sm x 28 2) (sm x 28 2) x.d.r 704 419
def Yt:=k21 x x.b.d 743 x.e.f 744 x.d.n 745
def Zz:=k17 x x.d.w x.e.i (sm x 28 3) (sm x 28 3)
def RU:=k6 x x.d.w 740 x.e.i 741 742 137 1 421 422 423 424 425 746 747
def ab1:=k18 x x.d.w x.e.i (sm x 28 3) (sm x 28 3) x.d.r 704 426
def V3:=k4 x x.b.d 752
def Xw:=k17 x x.d.x x.e.j (sm x 28 4) (sm x 28 4)
def ada:=k6 x x.d.x 749 x.e.j 750 751 145 1 428 429 430 431 432 753 754
def TV:=k18 x x.d.x x.e.j (sm x 28 4) (sm x 28 4) x.d.r 704 433
def YI:=k4 x x.b.d 759
def acZ:=k17 x x.d.y x.e.k (sm x 28 5) (sm x 28 5)
def Zu:=k6 x x.d.y 756 x.e.k 757 758 148 1 435 436 437 438 439 760 761
def WU:=k18 x x.d.y x.e.k (sm x 28 5) (sm x 28 5) x.d.r 704 440
def UB:=k21 x x.b.d 766 x.b.k 767 x.e.l 768
def Rc:=k17 x x.e.a x.e.m (sm x 28 6) (sm x 28 6)
def Wq:=k6 x x.e.a 763 x.e.m 764 765 151 2 442 443 444 445 446 769 770
def U8:=k18 x x.e.a x.e.m (sm x 28 6) (sm x 28 6) x.d.r 704 447
def WA:=k24 x x.b.d 775 x.b.k 776 x.e.n 777 x.e.l 778
def Yb:=k17 x x.e.b x.e.o (sm x 28 7) (sm x 28 7)
def SJ:=k6 x x.e.b 772 x.e.o 773 774 157 2 449 450 451 452 453 779 780
def TU:=k18 x x.e.b x.e.o (sm x 28 7) (sm x 28 7) x.d.r 704 454
def Uh:=k21 x x.b.d 785 x.b.k 786 x.e.l 787
def WK:=M u8 (u27 (u28 (f0 (sm x 28 8)) x.e.p (f1 (sm x 28 8)) (u29 (f2 (sm x 28 8))) (f6 (sm x 28 8)) 0 u30 u8 u8 u8 u8 u2 u8 u8 0))
def ZU:=k6 x x.e.c 782 x.e.p 783 784 165 2 456 457 458 459 460 788 789
def aa2:=M (u1 x.l5) (u27 (u28 (f0 (sm x 28 8)) x.e.p (f1 (sm x 28 8)) (u29 (f2 (sm x 28 8))) (f6 (sm x 28 8)) 3 u30 u8 u8 u8 (u11 x.d.r 704) u2 (u13 461) u8 0))
def acM:=k24 x x.b.d 794 x.d.h 795 x.d.i 796 x.e.f 797
def acf:=k17 x x.e.d x.e.q (sm x 28 9) (sm x 28 9)
def aa0:=k6 x x.e.d 791 x.e.q 792 793 171 3 463 464 465 466 467 798 799
def Ur:=k18 x x.e.d x.e.q (sm x 28 9) (sm x 28 9) x.d.r 704 468
def Ua:=k4 x x.e.r 801
def Xh:=M (u1 x.l3) (u20 (u21 [E x x.a.v 713 (u11 x.d.r 704),E x x.a.x 717 (u12 123 716),E x x.b.c 724 (u13 406),E x x.d.u 732 (u13 413),E x x.d.v 739 (u13 420),E x x.d.w 748 (u13 427),E x x.d.x 755 (u13 434),E x x.d.y 762 (u13 441),E x x.e.a 771 (u13 448),E x x.e.b 781 (u13 455),E x x.e.c 790 (u13 462),E x x.e.d 800 (u13 469),E x x.a.y 802 (u13 470),E x x.d.q 804 (u13 473),E x x.b.a 806 (u13 474),E x x.a.f 807 u8]) 4)
def UO:=k25 x x.d.t 472 471 706 714
def acR:=k26 x 803 472
def Wx:=k10 x 805 472
def abH:=k11 x 472
def Sk:=k12 x 472
abbrev d94:List DictEntry:=nf (ap (sz (d89 x) 0 (E x x.a.d 165 (u11 x.e.s 911))) [E x x.e.t 822 (u13 483),E x x.e.u 833 (u13 490),E x x.e.v 845 (u13 497),E x x.e.w 856 (u13 504),E x x.e.x 862 (u13 509),E x x.e.y 871 (u13 516),E x x.f.a 879 (u13 523),E x x.f.b 887 (u13 530),E x x.f.c 896 (u13 537),E x x.f.d 910 (u13 544)])
def ah3:=M (u1 x.l3) (u20 (u21 (d94 x)) 45)
abbrev d95:List Value:=nf (ap (d90 x) [u12 176 0,u12 0 0,u13 482,u12 181 0,u12 0 0,u13 489,u12 187 0,u12 0 0,u13 496,u12 200 0,u12 0 0,u13 503,u12 208 0,u12 0 0,u13 508,u12 219 0,u12 0 0,u13 515,u12 224 0,u12 0 0,u13 522,u12 226 0,u12 0 0,u13 529,u12 229 0,u12 0 0,u13 536,u12 231 0,u12 0 0,u13 543])
def ahz:=M u8 (u9 (u4 (d95 x)))
def Rk:=k21 x x.f.e 815 x.f.f 816 x.f.g 817
def acC:=k16 x x.f.e 818 x.f.f 819
def TY:=k5 x x.e.t (st x 30) (st x 30)
def V7:=k6 x x.e.t 812 x.e.t 813 814 176 2 477 478 479 480 481 820 821
def acK:=k7 x x.e.t (st x 30) (st x 30) x.f.h 810 482
def abC:=k23 x x.c.r 826 x.f.g 827 x.f.i 828 x.b.w 829 x.f.j 830
def TR:=k5 x x.e.u (st x 31) (st x 31)
def ZH:=k6 x x.e.u 823 x.e.u 824 825 181 2 484 485 486 487 488 831 832
def Vk:=k7 x x.e.u (st x 31) (st x 31) x.f.h 810 489
def aaR:=k27 x x.f.i 837 x.f.k 838 x.f.l 839 x.f.m 840 x.e.f 841 x.f.n 842
def aaA:=k5 x x.e.v (st x 32) (st x 32)
def Tw:=k6 x x.e.v 834 x.e.v 835 836 187 1 491 492 493 494 495 843 844
def acq:=k7 x x.e.v (st x 32) (st x 32) x.f.h 810 496
def Sw:=k23 x x.f.i 849 x.f.l 850 x.d.n 851 x.f.n 852 x.f.o 853
def U5:=k5 x x.e.w (st x 33) (st x 33)
def abU:=k6 x x.e.w 846 x.e.w 847 848 200 1 498 499 500 501 502 854 855
def Rq:=k7 x x.e.w (st x 33) (st x 33) x.f.h 810 503
def Wn:=k5 x x.e.x (st x 34) (st x 34)
def acO:=k22 x x.e.x 857 x.e.x 858 859 208 2 505 506 507 860 861
def ab3:=k7 x x.e.x (st x 34) (st x 34) x.f.h 810 508
def Xe:=k21 x x.f.i 866 x.f.k 867 x.f.n 868
def acQ:=k28 x (st x 35)
def SX:=k6 x x.e.y 863 x.e.y 864 865 219 1 510 511 512 513 514 869 870
def aaK:=k29 x (st x 35) x.f.h 810 515
def TF:=k16 x x.f.l 875 x.f.o 876
def Zb:=k5 x x.f.a (st x 36) (st x 36)
def Ve:=k6 x x.f.a 872 x.f.a 873 874 224 2 517 518 519 520 521 877 878
def aaz:=k7 x x.f.a (st x 36) (st x 36) x.f.h 810 522
def Ro:=k16 x x.f.p 883 x.f.n 884
def Zm:=k5 x x.f.b (st x 37) (st x 37)
def ZK:=k6 x x.f.b 880 x.f.b 881 882 226 2 524 525 526 527 528 885 886
def abu:=k7 x x.f.b (st x 37) (st x 37) x.f.h 810 529
def XY:=k4 x x.b.w 893
def aaP:=k5 x x.f.c (st x 39) (st x 39)
def Th:=k6 x x.f.c 890 x.f.c 891 892 229 1 531 532 533 534 535 894 895
def YV:=k7 x x.f.c (st x 39) (st x 39) x.f.q 888 536
def Tu:=k30 x x.f.o 900 x.b.q 901 x.f.r 902 x.f.s 903 x.b.k 904 x.b.n 905 x.f.t 906 x.b.w 907
def Wh:=k5 x x.f.d (st x 40) (st x 40)
def acy:=k6 x x.f.d 897 x.f.d 898 899 231 3 538 539 540 541 542 908 909
def acD:=k7 x x.f.d (st x 40) (st x 40) x.f.q 888 543
abbrev d96:List DictEntry:=nf (ap (d94 x) [E x x.f.u 967 (u13 580)])
def ag3:=M (u1 x.l3) (u20 (u21 (d96 x)) 46)
abbrev d97:List Value:=nf (ap (d95 x) [u12 240 0,u12 0 0,u13 550])
def ahd:=M u8 (u9 (u4 (d97 x)))
def SI:=M (u1 x.l3) (u20 (u21 [E x x.a.v 920 (u11 x.e.s 911),E x x.a.w 922 (u11 x.f.u 921),E x x.a.x 924 (u12 240 923),E x x.b.c 930 (u13 556),E x x.d.x 937 (u13 563),E x x.f.v 944 (u13 570),E x x.f.w 955 (u13 577),E x x.a.y 960 (u13 578)]) 8)
def abQ(x:X):Obj:=M u8 (u9 (u4 [u12 242 0,u12 4 0,u13 555,u12 249 0,u12 4 0,u13 562,u12 252 0,u12 4 0,u13 569,u12 255 0,u12 4 0,u13 576]))
def R0:=k1 x x.f.u 915 916 917 240 548 549 918 919
def W7:=k2 x 550 547 x.e.s 911
def Xb:=k17 x x.b.c x.f.x (sm x 42 0) (sm x 42 0)
def WJ:=k22 x x.b.c 925 x.f.x 926 927 242 5 552 553 554 928 929
def ab9:=k18 x x.b.c x.f.x (sm x 42 0) (sm x 42 0) x.e.s 911 555
def YX:=k4 x x.b.d 934
def W0:=k17 x x.d.x x.f.y (sm x 42 1) (sm x 28 4)
def Yc:=k6 x x.d.x 931 x.f.y 932 933 249 1 557 558 559 560 561 935 936
def aah:=k18 x x.d.x x.f.y (sm x 42 1) (sm x 28 4) x.e.s 911 562
def UC:=k4 x x.b.d 941
def UL:=k17 x x.f.v x.g.a (sm x 42 2) (sm x 28 0)
def ZA:=k6 x x.f.v 938 x.g.a 939 940 252 1 564 565 566 567 568 942 943
def Yw:=k18 x x.f.v x.g.a (sm x 42 2) (sm x 28 0) x.e.s 911 569
def XT:=k23 x x.b.d 948 x.c.a 949 x.g.b 950 x.f.r 951 x.e.r 952
def Zp:=k17 x x.f.w x.g.c (sm x 42 3) (sm x 42 3)
def ab0:=k6 x x.f.w 945 x.g.c 946 947 255 3 571 572 573 574 575 953 954
def aa3:=k18 x x.f.w x.g.c (sm x 42 3) (sm x 42 3) x.e.s 911 576
def UD:=k24 x x.f.t 956 x.b.q 957 x.g.d 958 x.f.r 959
def T7:=M (u1 x.l3) (u20 (u21 [E x x.a.v 920 (u11 x.e.s 911),E x x.a.x 924 (u12 240 923),E x x.b.c 930 (u13 556),E x x.d.x 937 (u13 563),E x x.f.v 944 (u13 570),E x x.f.w 955 (u13 577),E x x.a.y 960 (u13 578),E x x.d.q 962 (u13 581),E x x.b.a 964 (u13 582),E x x.a.f 965 u8]) 4)
def ahP:=k25 x x.f.u 580 579 913 921
def Vg:=k26 x 961 580
def Sv:=k10 x 963 580
def aag:=k11 x 580
def adn:=k12 x 580
abbrev WR:List DictEntry:=nf (ap (d96 x) [E x x.g.e 1021 (u13 628)])
def aio:=M (u1 x.l3) (u20 (u21 (WR x)) 47)
abbrev aa7:List Value:=nf (ap (d97 x) [u12 262 0,u12 0 0,u13 590])
def ah7:=M u8 (u9 (u4 (aa7 x)))
abbrev HP:List (Option Value):=[u19,u19,u18 (u11 x.f.u 913),u18 (u11 x.f.u 921),u18 (u25 x.l18),u18 (u14 u31)]
def ah2:=u0 (u1 x.l9) u2 (u32 (u33 x.f.u [u1 x.l12] [u13 580,u1 x.l12] 579 x.f.u u31 u34 [u13 628] u15 u35 u15)) (u6 (HP x))
def ED:=k13 x 580
def R7:=M (u1 x.l3) (u20 (u21 [E x x.a.v 975 (u11 x.e.s 911),E x x.a.w 977 (u11 x.g.e 976),E x x.a.x 979 (u12 262 978),E x x.b.c 989 (u13 599),E x x.f.o 996 (u13 606),E x x.g.f 1003 (u13 613),E x x.g.g 1009 (u13 618),E x x.g.h 1017 (u13 625),E x x.a.y 1018 (u13 626)]) 9)
def Uq:=k20 x 264 4 598 267 605 270 612 273 617 276 624
def UP:=k1 x x.g.e 970 971 972 262 588 589 973 974
def Vi:=k2 x 590 587 x.e.s 911
def nH:=k31 x
def Sf:=k24 x x.b.d 983 x.b.q 984 x.f.r 985 x.f.t 986
def VO:=k17 x x.b.c x.g.i (sm x 43 0) (sm x 43 0)
def ach:=k6 x x.b.c 980 x.g.i 981 982 264 4 593 594 595 596 597 987 988
def TZ:=k32 x x.b.c x.g.i (sm x 43 0) 592 x.e.s 911 598
def Rx:=k4 x x.b.d 993
def Yr:=k17 x x.f.o x.g.j (sm x 43 1) (sm x 28 0)
def UR:=k6 x x.f.o 990 x.g.j 991 992 267 1 600 601 602 603 604 994 995
def VT:=k18 x x.f.o x.g.j (sm x 43 1) (sm x 28 0) x.e.s 911 605
def Xk:=k4 x x.b.d 1000
def Y0:=k17 x x.g.f x.g.k (sm x 43 2) (sm x 28 0)
def SM:=k6 x x.g.f 997 x.g.k 998 999 270 1 607 608 609 610 611 1001 1002
def VQ:=k18 x x.g.f x.g.k (sm x 43 2) (sm x 28 0) x.e.s 911 612
def Ys:=k17 x x.g.g x.g.l (sm x 43 3) (sm x 43 3)
def Zx:=k22 x x.g.g 1004 x.g.l 1005 1006 273 2 614 615 616 1007 1008
def Vn:=k18 x x.g.g x.g.l (sm x 43 3) (sm x 43 3) x.e.s 911 617
def abp:=k16 x x.b.d 1013 x.f.r 1014
def WS:=k17 x x.g.h x.g.m (sm x 43 4) (sm x 43 4)
def W4:=k6 x x.g.h 1010 x.g.m 1011 1012 276 2 619 620 621 622 623 1015 1016
def VR:=k18 x x.g.h x.g.m (sm x 43 4) (sm x 43 4) x.e.s 911 624
def RL:=M (u1 x.l3) (u20 (u21 [E x x.a.v 975 (u11 x.e.s 911),E x x.a.x 979 (u12 262 978),E x x.b.c 989 (u13 599),E x x.f.o 996 (u13 606),E x x.g.f 1003 (u13 613),E x x.g.g 1009 (u13 618),E x x.g.h 1017 (u13 625),E x x.a.y 1018 (u13 626),E x x.a.f 1019 u8]) 2)
def VS:=k33 x x.g.e 580 628 627 585 968 976
def VZ:=k11 x 628
def ac7:=k12 x 628
abbrev Vj:List DictEntry:=nf (ap (WR x) [E x x.g.n 1082 (u13 676)])
def aip:=M (u1 x.l3) (u20 (u21 (Vj x)) 48)
abbrev RS:List Value:=nf (ap (aa7 x) [u12 278 0,u12 0 0,u13 636])
def aiv:=M u8 (u9 (u4 (RS x)))
def abA:=u0 (u1 x.l9) u2 (u32 (u33 x.f.u [u1 x.l12] [u13 580,u1 x.l12] 579 x.f.u u31 u34 [u13 628,u13 676] u15 u35 u15)) (u6 (HP x))
def abM:=M (u1 x.l3) (u20 (u21 [E x x.a.v 1029 (u11 x.e.s 911),E x x.a.w 1031 (u11 x.g.n 1030),E x x.a.x 1033 (u12 278 1032),E x x.b.c 1044 (u13 645),E x x.f.o 1051 (u13 652),E x x.g.f 1058 (u13 659),E x x.g.g 1069 (u13 666),E x x.g.h 1077 (u13 673),E x x.a.y 1079 (u13 674)]) 9)
def Vx:=k20 x 280 4 644 284 651 287 658 290 665 296 672
def Xx:=k1 x x.g.n 1024 1025 1026 278 634 635 1027 1028
def Uj:=k2 x 636 633 x.e.s 911
def aaW:=k23 x x.b.d 1037 x.b.t 1038 x.b.q 1039 x.f.r 1040 x.f.t 1041
def Sh:=k17 x x.b.c x.g.o (sm x 44 0) (sm x 44 0)
def U6:=k6 x x.b.c 1034 x.g.o 1035 1036 280 5 639 640 641 642 643 1042 1043
def Sa:=k32 x x.b.c x.g.o (sm x 44 0) 638 x.e.s 911 644
def Ti:=k4 x x.b.d 1048
def Wm:=k17 x x.f.o x.g.p (sm x 44 1) (sm x 28 0)
def acB:=k6 x x.f.o 1045 x.g.p 1046 1047 284 1 646 647 648 649 650 1049 1050
def aat:=k18 x x.f.o x.g.p (sm x 44 1) (sm x 28 0) x.e.s 911 651
def abr:=k4 x x.b.d 1055
def Uy:=k17 x x.g.f x.g.q (sm x 44 2) (sm x 28 0)
def aaH:=k6 x x.g.f 1052 x.g.q 1053 1054 287 1 653 654 655 656 657 1056 1057
def VU:=k18 x x.g.f x.g.q (sm x 44 2) (sm x 28 0) x.e.s 911 658
def abc:=k23 x x.b.d 1062 x.d.a 1063 x.g.r 1064 x.b.k 1065 x.b.n 1066
def acj:=k17 x x.g.g x.g.s (sm x 44 3) (sm x 44 3)
def Xd:=k6 x x.g.g 1059 x.g.s 1060 1061 290 2 660 661 662 663 664 1067 1068
def XA:=k18 x x.g.g x.g.s (sm x 44 3) (sm x 44 3) x.e.s 911 665
def UN:=k16 x x.b.d 1073 x.f.r 1074
def Tv:=k17 x x.g.h x.g.t (sm x 44 4) (sm x 44 4)
def Zr:=k6 x x.g.h 1070 x.g.t 1071 1072 296 2 667 668 669 670 671 1075 1076
def abF:=k18 x x.g.h x.g.t (sm x 44 4) (sm x 44 4) x.e.s 911 672
def WY:=k4 x x.b.t 1078
def RI:=M (u1 x.l3) (u20 (u21 [E x x.a.v 1029 (u11 x.e.s 911),E x x.a.x 1033 (u12 278 1032),E x x.b.c 1044 (u13 645),E x x.f.o 1051 (u13 652),E x x.g.f 1058 (u13 659),E x x.g.g 1069 (u13 666),E x x.g.h 1077 (u13 673),E x x.a.y 1079 (u13 674),E x x.a.f 1080 u8]) 2)
def Rt:=k33 x x.g.n 580 676 675 631 1022 1030
def acW:=k11 x 676
def Vh:=k12 x 676
abbrev Wo:List DictEntry:=nf (ap (sz (Vj x) 0 (E x x.a.d 165 (u11 x.g.u 1138))) [E x x.g.v 1090 (u13 685),E x x.g.w 1096 (u13 690),E x x.g.x 1100 (u11 x.g.y 1099),E x x.h.a 1106 (u13 695),E x x.h.b 1113 (u13 702),E x x.h.c 1121 (u13 709),E x x.h.d 1127 (u13 714),E x x.h.e 1131 (u12 20 1130),E x x.h.f 1137 (u13 719)])
def ahm:=M (u1 x.l3) (u20 (u21 (Wo x)) 57)
abbrev RK:List Value:=nf (ap (RS x) [u12 298 0,u12 0 0,u13 684,u12 300 0,u12 0 0,u13 689,u12 308 0,u12 0 0,u13 694,u12 314 0,u12 0 0,u13 701,u12 318 0,u12 0 0,u13 708,u12 323 0,u12 0 0,u13 713,u12 327 0,u12 0 0,u13 718])
def ag0:=M u8 (u9 (u4 (RK x)))
def V0:=k16 x x.h.g 1086 x.b.q 1087
def acF:=k5 x x.g.v (st x 45) (st x 45)
def ac8:=k6 x x.g.v 1083 x.g.v 1084 1085 298 2 679 680 681 682 683 1088 1089
def VI:=k7 x x.g.v (st x 45) (st x 45) x.e.s 911 684
def Xn:=k5 x x.g.w (st x 46) (st x 46)
def Wt:=k22 x x.g.w 1091 x.g.w 1092 1093 300 3 686 687 688 1094 1095
def SG:=k7 x x.g.w (st x 46) (st x 46) x.e.s 911 689
def aa9:=k28 x (st x 49)
def Sg:=k22 x x.h.a 1101 x.h.a 1102 1103 308 1 691 692 693 1104 1105
def aa5:=k29 x (st x 49) x.h.h 1097 694
def Yq:=k4 x x.b.e 1110
def Rm:=k5 x x.h.b (st x 50) (st x 50)
def Xj:=k6 x x.h.b 1107 x.h.b 1108 1109 314 1 696 697 698 699 700 1111 1112
def ab7:=k7 x x.h.b (st x 50) (st x 50) x.h.h 1097 701
def TM:=k16 x x.b.e 1117 x.h.i 1118
def U4:=k5 x x.h.c (st x 51) (st x 51)
def S0:=k6 x x.h.c 1114 x.h.c 1115 1116 318 1 703 704 705 706 707 1119 1120
def aa6:=k7 x x.h.c (st x 51) (st x 51) x.h.h 1097 708
def V9:=k5 x x.h.d (st x 52) (st x 52)
def acg:=k22 x x.h.d 1122 x.h.d 1123 1124 323 1 710 711 712 1125 1126
def aaj:=k7 x x.h.d (st x 52) (st x 52) x.h.h 1097 713
def Wu:=k5 x x.h.f (st x 55) (st x 55)
def abe:=k22 x x.h.f 1132 x.h.f 1133 1134 327 1 715 716 717 1135 1136
def Uc:=k7 x x.h.f (st x 55) (st x 55) x.h.j 1128 718
abbrev aau:List DictEntry:=nf (ap (Wo x) [E x x.h.k 1231 (u13 790)])
def ag9:=M (u1 x.l3) (u20 (u21 (aau x)) 58)
abbrev S6:List Value:=nf (ap (RK x) [u12 336 0,u12 0 0,u13 725])
def ahq:=M u8 (u9 (u4 (S6 x)))
def Rn:=M (u1 x.l3) (u20 (u21 [E x x.a.v 1147 (u11 x.g.u 1138),E x x.a.w 1149 (u11 x.h.k 1148),E x x.a.x 1151 (u12 336 1150),E x x.b.c 1158 (u13 733),E x x.h.l 1167 (u13 740),E x x.h.m 1176 (u13 747),E x x.f.j 1184 (u13 754),E x x.h.n 1193 (u13 761),E x x.f.s 1200 (u13 768),E x x.h.o 1207 (u13 775),E x x.h.p 1215 (u13 782),E x x.h.q 1221 (u13 787),E x x.a.y 1224 (u13 788)]) 13)
def Rh(x:X):Obj:=M u8 (u9 (u4 [u12 338 0,u12 4 0,u13 732,u12 342 0,u12 4 0,u13 739,u12 347 0,u12 4 0,u13 746,u12 351 0,u12 4 0,u13 753,u12 356 0,u12 4 0,u13 760,u12 361 0,u12 4 0,u13 767,u12 364 0,u12 4 0,u13 774,u12 367 0,u12 4 0,u13 781,u12 373 0,u12 4 0,u13 786]))
def Zo:=k1 x x.h.k 1142 1143 1144 336 723 724 1145 1146
def abw:=k2 x 725 722 x.g.u 1138
def aaL:=k4 x x.b.d 1155
def ZQ:=k17 x x.b.c x.h.r (sm x 57 0) (sm x 28 0)
def UE:=k6 x x.b.c 1152 x.h.r 1153 1154 338 1 727 728 729 730 731 1156 1157
def aae:=k18 x x.b.c x.h.r (sm x 57 0) (sm x 28 0) x.g.u 1138 732
def abt:=k21 x x.b.d 1162 x.f.j 1163 x.b.w 1164
def Sq:=k17 x x.h.l x.h.s (sm x 57 1) (sm x 57 1)
def VB:=k6 x x.h.l 1159 x.h.s 1160 1161 342 2 734 735 736 737 738 1165 1166
def acp:=k18 x x.h.l x.h.s (sm x 57 1) (sm x 57 1) x.g.u 1138 739
def RN:=k21 x x.b.d 1171 x.b.w 1172 x.f.j 1173
def Yy:=k17 x x.h.m x.h.t (sm x 57 2) (sm x 57 2)
def ade:=k6 x x.h.m 1168 x.h.t 1169 1170 347 3 741 742 743 744 745 1174 1175
def Rp:=k18 x x.h.m x.h.t (sm x 57 2) (sm x 57 2) x.g.u 1138 746
def aaS:=k16 x x.b.d 1180 x.b.w 1181
def Xz:=k17 x x.f.j x.h.u (sm x 57 3) (sm x 57 3)
def Vo:=k6 x x.f.j 1177 x.h.u 1178 1179 351 2 748 749 750 751 752 1182 1183
def abl:=k18 x x.f.j x.h.u (sm x 57 3) (sm x 57 3) x.g.u 1138 753
def aab:=k21 x x.b.d 1188 x.b.w 1189 x.f.j 1190
def ZI:=k17 x x.h.n x.h.v (sm x 57 4) (sm x 57 4)
def abI:=k6 x x.h.n 1185 x.h.v 1186 1187 356 2 755 756 757 758 759 1191 1192
def So:=k18 x x.h.n x.h.v (sm x 57 4) (sm x 57 4) x.g.u 1138 760
def Xv:=k4 x x.b.d 1197
def Sx:=k17 x x.f.s x.h.w (sm x 57 5) (sm x 57 5)
def ZF:=k6 x x.f.s 1194 x.h.w 1195 1196 361 1 762 763 764 765 766 1198 1199
def SE:=k18 x x.f.s x.h.w (sm x 57 5) (sm x 57 5) x.g.u 1138 767
def ab6:=k4 x x.b.d 1204
def WH:=k17 x x.h.o x.h.x (sm x 57 6) (sm x 28 0)
def acX:=k6 x x.h.o 1201 x.h.x 1202 1203 364 1 769 770 771 772 773 1205 1206
def Xp:=k18 x x.h.o x.h.x (sm x 57 6) (sm x 28 0) x.g.u 1138 774
def WN:=k16 x x.b.d 1211 x.d.i 1212
def Su:=k17 x x.h.p x.h.y (sm x 57 7) (sm x 57 7)
def Ss:=k6 x x.h.p 1208 x.h.y 1209 1210 367 1 776 777 778 779 780 1213 1214
def Vl:=k18 x x.h.p x.h.y (sm x 57 7) (sm x 57 7) x.g.u 1138 781
def Um:=k17 x x.h.q x.i.a (sm x 57 8) (sm x 57 8)
def Ui:=k22 x x.h.q 1216 x.i.a 1217 1218 373 1 783 784 785 1219 1220
def VG:=k18 x x.h.q x.i.a (sm x 57 8) (sm x 57 8) x.g.u 1138 786
def Ye:=k16 x x.i.b 1222 x.i.c 1223
def ZE:=M (u1 x.l3) (u20 (u21 [E x x.a.v 1147 (u11 x.g.u 1138),E x x.a.x 1151 (u12 336 1150),E x x.b.c 1158 (u13 733),E x x.h.l 1167 (u13 740),E x x.h.m 1176 (u13 747),E x x.f.j 1184 (u13 754),E x x.h.n 1193 (u13 761),E x x.f.s 1200 (u13 768),E x x.h.o 1207 (u13 775),E x x.h.p 1215 (u13 782),E x x.h.q 1221 (u13 787),E x x.a.y 1224 (u13 788),E x x.d.q 1226 (u13 791),E x x.b.a 1228 (u13 792),E x x.a.f 1229 u8]) 4)
def Yd:=k25 x x.h.k 790 789 1140 1148
def Yk:=k26 x 1225 790
def Rv:=k10 x 1227 790
def YD:=k11 x 790
def aal:=k12 x 790
abbrev VF:List DictEntry:=nf (ap (sz (aau x) 0 (E x x.a.d 165 (u11 x.i.d 1351))) [E x x.i.e 1246 (u13 801),E x x.i.f 1254 (u13 809),E x x.i.g 1269 (u13 816),E x x.i.h 1280 (u13 823),E x x.c.l 1288 (u13 828),E x x.i.i 1300 (u13 835),E x x.i.j 1309 (u13 842),E x x.i.k 1321 (u13 849),E x x.i.l 1332 (u13 856),E x x.i.m 1340 (u13 863),E x x.i.n 1350 (u13 870)])
def ait:=M (u1 x.l3) (u20 (u21 (VF x)) 69)
abbrev Xy:List Value:=nf (ap (S6 x) [u12 377 0,u12 0 0,u13 800,u12 391 0,u12 0 0,u13 808,u12 393 0,u12 0 0,u13 815,u12 407 0,u12 0 0,u13 822,u12 415 0,u12 0 0,u13 827,u12 420 0,u12 0 0,u13 834,u12 427 0,u12 0 0,u13 841,u12 434 0,u12 0 0,u13 848,u12 445 0,u12 0 0,u13 855,u12 453 0,u12 0 0,u13 862,u12 458 0,u12 0 0,u13 869])
def aho:=M u8 (u9 (u4 (Xy x)))
def WC:=M (u1 x.l0) (u3 (u4 [u11 x.c.r 1237,u11 x.i.o 1238,u11 x.d.a 1239,u11 x.b.q 1240,u11 x.c.a 1241,u11 x.b.w 1242,u11 x.f.j 1243]) 0)
def Wz:=k5 x x.i.e (st x 59) (st x 59)
def aaM:=k6 x x.i.e 1234 x.i.e 1235 1236 377 2 795 796 797 798 799 1244 1245
def V4:=k7 x x.i.e (st x 59) (st x 59) x.i.p 1232 800
def abf:=M (u1 x.l0) (u3 (u4 [u14 u15]) 0)
def Rj:=k16 x x.c.r 1250 x.i.q 1251
def RW:=k5 x x.i.f (st x 60) (st x 60)
def abo:=k6 x x.i.f 1247 x.i.f 1248 1249 391 2 803 804 805 806 807 1252 1253
def acm:=M (u1 x.l5) (u27 (u28 x.i.f x.i.f (f1 (st x 60)) (u29 (f2 (st x 60))) (f6 (st x 60)) 3 u30 (u13 802) u8 u8 (u11 x.i.p 1232) u2 (u13 808) u8 0))
def VC:=M (u1 x.l0) (u3 (u4 [u11 x.c.r 1258,u11 x.i.q 1259,u11 x.f.k 1260,u11 x.d.n 1261,u11 x.i.r 1262,u11 x.i.s 1263,u11 x.f.o 1264,u11 x.b.w 1265,u11 x.b.q 1266]) 0)
def T8:=k28 x (st x 61)
def Tq:=k6 x x.i.g 1255 x.i.g 1256 1257 393 2 810 811 812 813 814 1267 1268
def aba:=k29 x (st x 61) x.i.p 1232 815
def SS:=k23 x x.c.r 1273 x.i.q 1274 x.f.k 1275 x.b.w 1276 x.f.j 1277
def aaf:=k28 x (st x 62)
def YH:=k6 x x.i.h 1270 x.i.h 1271 1272 407 2 817 818 819 820 821 1278 1279
def SQ:=k29 x (st x 62) x.i.p 1232 822
def Wj:=k5 x x.c.l (st x 64) (st x 64)
def XM:=k22 x x.c.l 1283 x.c.l 1284 1285 415 2 824 825 826 1286 1287
def VD:=k7 x x.c.l (st x 64) (st x 64) x.i.t 1281 827
def abX:=k27 x x.f.i 1292 x.f.l 1293 x.b.k 1294 x.f.s 1295 x.f.n 1296 x.f.o 1297
def Ue:=k5 x x.i.i (st x 65) (st x 65)
def XH:=k6 x x.i.i 1289 x.i.i 1290 1291 420 3 829 830 831 832 833 1298 1299
def Xc:=k7 x x.i.i (st x 65) (st x 65) x.i.t 1281 834
def Si:=k21 x x.f.i 1304 x.b.q 1305 x.c.g 1306
def RP:=k5 x x.i.j (st x 66) (st x 66)
def R9:=k6 x x.i.j 1301 x.i.j 1302 1303 427 2 836 837 838 839 840 1307 1308
def adm:=k7 x x.i.j (st x 66) (st x 66) x.i.t 1281 841
def aaN:=k27 x x.i.u 1313 x.i.c 1314 x.c.r 1315 x.b.w 1316 x.f.j 1317 x.i.v 1318
def Yz:=k5 x x.i.k (st x 67) (st x 67)
def S2:=k6 x x.i.k 1310 x.i.k 1311 1312 434 1 843 844 845 846 847 1319 1320
def ab2:=k7 x x.i.k (st x 67) (st x 67) x.i.t 1281 848
def V5:=k23 x x.c.r 1325 x.d.i 1326 x.i.w 1327 x.i.x 1328 x.b.w 1329
def Vw:=k5 x x.i.l (st x 68) (st x 68)
def abn:=k6 x x.i.l 1322 x.i.l 1323 1324 445 2 850 851 852 853 854 1330 1331
def Ud:=k7 x x.i.l (st x 68) (st x 68) x.i.t 1281 855
def Vp:=k16 x x.c.r 1336 x.b.w 1337
def XF:=k5 x x.i.m (st x 69) (st x 69)
def Zy:=k6 x x.i.m 1333 x.i.m 1334 1335 453 2 857 858 859 860 861 1338 1339
def Vu:=k7 x x.i.m (st x 69) (st x 69) x.i.t 1281 862
def abz:=k24 x x.c.r 1344 x.f.g 1345 x.b.q 1346 x.i.y 1347
def acY:=k5 x x.i.n (st x 70) (st x 70)
def Wd:=k6 x x.i.n 1341 x.i.n 1342 1343 458 3 864 865 866 867 868 1348 1349
def ack:=k7 x x.i.n (st x 70) (st x 70) x.i.t 1281 869
abbrev U7:List DictEntry:=nf (ap (VF x) [E x x.j.a 1381 (u13 885),E x x.j.b 1388 (u13 896),E x x.j.c 1394 (u13 901),E x x.j.d 1404 (u13 908),E x x.j.e 1410 (u13 913),E x x.j.f 1416 (u13 918),E x x.j.g 1429 (u13 925)])
def ahb:=M (u1 x.l3) (u20 (u21 (U7 x)) 76)
abbrev Ru:List Value:=nf (ap (Xy x) [u12 466 0,u12 0 0,u13 876,u12 473 0,u12 0 0,u13 895,u12 476 0,u12 0 0,u13 900,u12 483 0,u12 0 0,u13 907,u12 491 0,u12 0 0,u13 912,u12 493 0,u12 0 0,u13 917,u12 495 0,u12 0 0,u13 924])
def ah8:=M u8 (u9 (u4 (Ru x)))
def XE:=k14 x 1360 x.i.d 1351 1362 x.j.a 1361 1364 466 1363 x.b.c 1370 882 1374 883
def YG:=k15 x 468 881
def aav:=k1 x x.j.a 1355 1356 1357 466 874 875 1358 1359
def abR:=k2 x 876 873 x.i.d 1351
def aaq:=k17 x x.b.c x.j.h (sm x 72 0) (sm x 72 0)
def aaO:=k22 x x.b.c 1365 x.j.h 1366 1367 468 4 878 879 880 1368 1369
def Tp:=k18 x x.b.c x.j.h (sm x 72 0) (sm x 72 0) x.i.d 1351 881
def YS:=k21 x x.j.i 1371 x.j.j 1372 x.j.k 1373
def VP:=M (u1 x.l3) (u20 (u21 [E x x.a.v 1360 (u11 x.i.d 1351),E x x.a.x 1364 (u12 466 1363),E x x.b.c 1370 (u13 882),E x x.a.y 1374 (u13 883),E x x.d.q 1376 (u13 886),E x x.b.a 1378 (u13 887),E x x.a.f 1379 u8]) 4)
def adh:=k25 x x.j.a 885 884 1353 1361
def aad:=k26 x 1375 885
def acu:=k10 x 1377 885
def ab5:=k11 x 885
def UY:=k12 x 885
def LZ:=k4 x x.c.o 1385
def MB:=k5 x x.j.b (st x 73) (st x 73)
def Jf:=k6 x x.j.b 1382 x.j.b 1383 1384 473 1 890 891 892 893 894 1386 1387
def My:=k7 x x.j.b (st x 73) (st x 73) x.i.d 1351 895
def PR:=k5 x x.j.c (st x 74) (st x 74)
def Pq:=k22 x x.j.c 1389 x.j.c 1390 1391 476 2 897 898 899 1392 1393
def NF:=k7 x x.j.c (st x 74) (st x 74) x.i.d 1351 900
def LQ:=k24 x x.j.l 1398 x.j.m 1399 x.b.q 1400 x.b.e 1401
def O9:=k28 x (st x 75)
def LP:=k6 x x.j.d 1395 x.j.d 1396 1397 483 1 902 903 904 905 906 1402 1403
def Na:=k29 x (st x 75) x.i.d 1351 907
def P4:=k5 x x.j.e (st x 76) (st x 76)
def ND:=k22 x x.j.e 1405 x.j.e 1406 1407 491 1 909 910 911 1408 1409
def MU:=k7 x x.j.e (st x 76) (st x 76) x.i.d 1351 912
def LC:=k5 x x.j.f (st x 77) (st x 77)
def MH:=k22 x x.j.f 1411 x.j.f 1412 1413 493 2 914 915 916 1414 1415
def JL:=k7 x x.j.f (st x 77) (st x 77) x.i.d 1351 917
def Nj:=M (u1 x.l0) (u3 (u4 [u11 x.j.n 1420,u11 x.j.l 1421,u11 x.f.r 1422,u11 x.j.o 1423,u11 x.b.q 1424,u11 x.b.t 1425,u11 x.d.x 1426]) 0)
def IX:=k5 x x.j.g (st x 78) (st x 78)
def Mp:=k6 x x.j.g 1417 x.j.g 1418 1419 495 2 919 920 921 922 923 1427 1428
def Od:=k7 x x.j.g (st x 78) (st x 78) x.i.d 1351 924
abbrev Za:List DictEntry:=nf (ap (sz (U7 x) 0 (E x x.a.d 165 (u11 x.j.p 1480))) [E x x.j.q 1437 (u13 932),E x x.j.r 1448 (u13 939),E x x.j.s 1459 (u13 946),E x x.j.t 1467 (u13 951),E x x.j.u 1473 (u13 956),E x x.j.v 1479 (u13 961)])
def agc:=M (u1 x.l3) (u20 (u21 (Za x)) 82)
abbrev S5:List Value:=nf (ap (Ru x) [u12 506 0,u12 0 0,u13 931,u12 508 0,u12 0 0,u13 938,u12 511 0,u12 0 0,u13 945,u12 519 0,u12 0 0,u13 950,u12 536 0,u12 0 0,u13 955,u12 541 0,u12 0 0,u13 960])
def aeo:=M u8 (u9 (u4 (S5 x)))
def P0:=k16 x x.j.n 1433 x.d.x 1434
def KJ:=k5 x x.j.q (st x 79) (st x 79)
def KI:=k6 x x.j.q 1430 x.j.q 1431 1432 506 2 926 927 928 929 930 1435 1436
def MI:=k7 x x.j.q (st x 79) (st x 79) x.i.d 1351 931
def Pz:=k23 x x.j.n 1441 x.b.q 1442 x.d.x 1443 x.i.o 1444 x.j.w 1445
def IS:=k5 x x.j.r (st x 80) (st x 80)
def Px:=k6 x x.j.r 1438 x.j.r 1439 1440 508 4 933 934 935 936 937 1446 1447
def Kl:=k7 x x.j.r (st x 80) (st x 80) x.i.d 1351 938
def Jd:=k23 x x.j.n 1452 x.j.l 1453 x.j.x 1454 x.b.q 1455 x.d.x 1456
def Lu:=k5 x x.j.s (st x 81) (st x 81)
def Mn:=k6 x x.j.s 1449 x.j.s 1450 1451 511 2 940 941 942 943 944 1457 1458
def LD:=k7 x x.j.s (st x 81) (st x 81) x.i.d 1351 945
def MP:=k5 x x.j.t (st x 83) (st x 83)
def OE:=k22 x x.j.t 1462 x.j.t 1463 1464 519 1 947 948 949 1465 1466
def Ju:=k7 x x.j.t (st x 83) (st x 83) x.j.y 1460 950
def Pc:=k5 x x.j.u (st x 84) (st x 84)
def Kf:=k22 x x.j.u 1468 x.j.u 1469 1470 536 4 952 953 954 1471 1472
def Ji:=k7 x x.j.u (st x 84) (st x 84) x.j.y 1460 955
def OC:=k5 x x.j.v (st x 85) (st x 85)
def LM:=k22 x x.j.v 1474 x.j.v 1475 1476 541 3 957 958 959 1477 1478
def Lr:=k7 x x.j.v (st x 85) (st x 85) x.j.y 1460 960
abbrev ZT:List DictEntry:=nf (ap (Za x) [E x x.k.a 1530 (u13 962),E x x.k.b 1534 (u13 976),E x x.k.c 1543 (u13 983),E x x.k.d 1549 (u13 988),E x x.k.e 1557 (u13 995),E x x.k.f 1565 (u13 1002),E x x.k.g 1573 (u13 1009)])
def adw:=M (u1 x.l3) (u20 (u21 (ZT x)) 89)
abbrev ZO:List Value:=nf (ap (S5 x) [u12 546 0,u12 0 0,u13 982,u12 553 0,u12 0 0,u13 987,u12 563 0,u12 0 0,u13 994,u12 566 0,u12 0 0,u13 1001,u12 568 0,u12 0 0,u13 1008])
def adR:=M u8 (u9 (u4 (ZO x)))
def IQ:=M (u1 x.l3) (u20 (u21 [E x x.k.h 1482 (u13 963),E x x.k.i 1485 (u13 964),E x x.k.j 1488 (u13 965),E x x.k.k 1491 (u13 966),E x x.k.l 1494 (u13 967),E x x.k.m 1497 (u13 968),E x x.k.n 1500 (u13 969),E x x.c.v 1503 (u13 970),E x x.k.o 1506 (u13 971),E x x.k.p 1509 (u13 972),E x x.f.p 1511 (u13 973),E x x.i.o 1513 (u13 974),E x x.k.q 1515 (u13 975)]) 13)
def OY:=k34 x 1 1483 1484
def Ov:=k34 x 0 1486 1487
def Me:=k34 x 2 1489 1490
def P7:=k34 x 4 1492 1493
def Nx:=k34 x 2 1495 1496
def Nb:=k34 x 0 1498 1499
def KQ:=k34 x 1 1501 1502
def MM:=k34 x 2 1504 1505
def Kp:=k34 x 1 1507 1508
def O5:=k35 x 1 1510
def LH:=k35 x 1 1512
def OJ:=k35 x 1 1514
def IM:=k35 x 6 1516
def Ow:=k21 x x.k.r 1531 x.k.s 1532 x.d.n 1533
def L3:=k21 x x.e.r 1538 x.k.t 1539 x.i.y 1540
def Lv:=k5 x x.k.c (st x 89) (st x 89)
def OO:=k6 x x.k.c 1535 x.k.c 1536 1537 546 1 977 978 979 980 981 1541 1542
def PF:=k7 x x.k.c (st x 89) (st x 89) x.j.p 1480 982
def Lx:=k28 x (st x 90)
def OG:=k22 x x.k.d 1544 x.k.d 1545 1546 553 2 984 985 986 1547 1548
def Ja:=k29 x (st x 90) x.j.p 1480 987
def JM:=k16 x x.b.e 1553 x.g.d 1554
def KN:=k5 x x.k.e (st x 91) (st x 91)
def Ld:=k6 x x.k.e 1550 x.k.e 1551 1552 563 2 989 990 991 992 993 1555 1556
def IT:=k7 x x.k.e (st x 91) (st x 91) x.j.p 1480 994
def Pk:=k16 x x.c.o 1561 x.k.u 1562
def Lb:=k5 x x.k.f (st x 92) (st x 92)
def Lo:=k6 x x.k.f 1558 x.k.f 1559 1560 566 2 996 997 998 999 1000 1563 1564
def KY:=k7 x x.k.f (st x 92) (st x 92) x.j.p 1480 1001
def JP:=k16 x x.b.e 1569 x.f.s 1570
def Ng:=k5 x x.k.g (st x 93) (st x 93)
def KO:=k6 x x.k.g 1566 x.k.g 1567 1568 568 2 1003 1004 1005 1006 1007 1571 1572
def L6:=k7 x x.k.g (st x 93) (st x 93) x.j.p 1480 1008
abbrev Us:List DictEntry:=nf (ap (sz (ZT x) 0 (E x x.a.d 165 (u11 x.k.v 1574))) [E x x.k.w 1603 (u13 1026)])
def aem:=M (u1 x.l3) (u20 (u21 (Us x)) 90)
abbrev abN:List Value:=nf (ap (ZO x) [u12 575 0,u12 0 0,u13 1015])
def afc:=M u8 (u9 (u4 (abN x)))
def NC:=k14 x 1583 x.k.v 1574 1585 x.k.w 1584 1587 575 1586 x.k.x 1595 1023 1596 1024
def Ob:=k15 x 577 1022
def JU:=k1 x x.k.w 1578 1579 1580 575 1013 1014 1581 1582
def OL:=k2 x 1015 1012 x.k.v 1574
def PN:=k16 x x.b.d 1591 x.h.g 1592
def JI:=k17 x x.k.x x.k.y (sm x 95 0) (sm x 95 0)
def Nu:=k6 x x.k.x 1588 x.k.y 1589 1590 577 2 1017 1018 1019 1020 1021 1593 1594
def OQ:=k18 x x.k.x x.k.y (sm x 95 0) (sm x 95 0) x.k.v 1574 1022
def OU:=M (u1 x.l3) (u20 (u21 [E x x.a.v 1583 (u11 x.k.v 1574),E x x.a.x 1587 (u12 575 1586),E x x.k.x 1595 (u13 1023),E x x.a.y 1596 (u13 1024),E x x.d.q 1598 (u13 1027),E x x.b.a 1600 (u13 1028),E x x.a.f 1601 u8]) 4)
def aeh:=k25 x x.k.w 1026 1025 1576 1584
def Pj:=k26 x 1597 1026
def Jv:=k10 x 1599 1026
def Ls:=k11 x 1026
def MS:=k12 x 1026
abbrev Sb:List DictEntry:=nf (ap (Us x) [E x x.l.a 1636 (u13 1054)])
def afk:=M (u1 x.l3) (u20 (u21 (Sb x)) 91)
abbrev acP:List Value:=nf (ap (abN x) [u12 579 0,u12 0 0,u13 1036])
def adV:=M u8 (u9 (u4 (acP x)))
abbrev zL:List (Option Value):=nf (sz (sz (HP x) 2 (u18 (u11 x.k.w 1576))) 3 (u18 (u11 x.k.w 1584)))
def afx:=u0 (u1 x.l9) u2 (u32 (u33 x.k.w [u1 x.l12] [u13 1026,u1 x.l12] 1025 x.k.w u31 u34 [u13 1054] u15 u35 u15)) (u6 (zL x))
def j6:=k13 x 1026
def Mj:=k36 x 1611 x.k.v 1574 1613 x.l.a 1612 1615 579 1614 1623 1044 x.k.x 1631 1051 1633 1052
def OV:=k3 x 581 4 1043 586 1050
def LW:=k1 x x.l.a 1606 1607 1608 579 1034 1035 1609 1610
def LU:=k2 x 1036 1033 x.k.v 1574
def OD:=k16 x x.b.d 1619 x.c.o 1620
def LV:=k17 x x.b.c x.l.b (sm x 96 0) (sm x 96 0)
def LY:=k6 x x.b.c 1616 x.l.b 1617 1618 581 2 1038 1039 1040 1041 1042 1621 1622
def Py:=k18 x x.b.c x.l.b (sm x 96 0) (sm x 96 0) x.k.v 1574 1043
def O8:=k16 x x.b.d 1627 x.h.g 1628
def Lk:=k17 x x.k.x x.l.c (sm x 96 1) (sm x 96 1)
def JE:=k6 x x.k.x 1624 x.l.c 1625 1626 586 2 1045 1046 1047 1048 1049 1629 1630
def Ks:=k18 x x.k.x x.l.c (sm x 96 1) (sm x 96 1) x.k.v 1574 1050
def Mx:=k4 x x.c.o 1632
def Je:=k37 x 1611 1615 579 1614 1623 1044 1631 1051 1633 1052 1634
def KR:=k33 x x.l.a 1026 1054 1053 1031 1604 1612
def Nh:=k11 x 1054
def Ln:=k12 x 1054
abbrev S8:List DictEntry:=nf (ap (Sb x) [E x x.l.d 1673 (u13 1081)])
def agg:=M (u1 x.l3) (u20 (u21 (S8 x)) 92)
abbrev Zv:List Value:=nf (ap (acP x) [u12 588 0,u12 0 0,u13 1062])
def adJ:=M u8 (u9 (u4 (Zv x)))
def af7:=u0 (u1 x.l9) u2 (u32 (u33 x.k.w [u1 x.l12] [u13 1026,u1 x.l12] 1025 x.k.w u31 u34 [u13 1054,u13 1081] u15 u35 u15)) (u6 (zL x))
def L5:=k36 x 1644 x.k.v 1574 1646 x.l.d 1645 1648 588 1647 1657 1071 x.k.x 1667 1078 1670 1079
def Pd:=k3 x 590 4 1070 598 1077
def Pp:=k1 x x.l.d 1639 1640 1641 588 1060 1061 1642 1643
def K8:=k2 x 1062 1059 x.k.v 1574
def KH:=k21 x x.b.d 1652 x.l.e 1653 x.c.o 1654
def Kv:=k17 x x.b.c x.l.f (sm x 97 0) (sm x 97 0)
def Pg:=k6 x x.b.c 1649 x.l.f 1650 1651 590 3 1065 1066 1067 1068 1069 1655 1656
def PK:=k32 x x.b.c x.l.f (sm x 97 0) 1064 x.k.v 1574 1070
def NQ:=k24 x x.b.d 1661 x.h.g 1662 x.l.g 1663 x.b.q 1664
def OS:=k17 x x.k.x x.l.h (sm x 97 1) (sm x 97 1)
def OT:=k6 x x.k.x 1658 x.l.h 1659 1660 598 2 1072 1073 1074 1075 1076 1665 1666
def Lz:=k18 x x.k.x x.l.h (sm x 97 1) (sm x 97 1) x.k.v 1574 1077
def OR:=k16 x x.c.o 1668 x.l.e 1669
def Kz:=k37 x 1644 1648 588 1647 1657 1071 1667 1078 1670 1079 1671
def MX:=k33 x x.l.d 1026 1081 1080 1057 1637 1645
def La:=k11 x 1081
def MA:=k12 x 1081
abbrev abg:List DictEntry:=nf (ap (S8 x) [E x x.l.i 1708 (u13 1107)])
def ad3:=M (u1 x.l3) (u20 (u21 (abg x)) 93)
abbrev Zf:List Value:=nf (ap (Zv x) [u12 604 0,u12 0 0,u13 1089])
def afA:=M u8 (u9 (u4 (Zf x)))
def aee:=u0 (u1 x.l9) u2 (u32 (u33 x.k.w [u1 x.l12] [u13 1026,u1 x.l12] 1025 x.k.w u31 u34 [u13 1054,u13 1081,u13 1107] u15 u35 u15)) (u6 (zL x))
def Jx:=k36 x 1681 x.k.v 1574 1683 x.l.i 1682 1685 604 1684 1693 1097 x.k.x 1703 1104 1705 1105
def OF:=k3 x 606 4 1096 611 1103
def Ke:=k1 x x.l.i 1676 1677 1678 604 1087 1088 1679 1680
def LR:=k2 x 1089 1086 x.k.v 1574
def KU:=k16 x x.b.d 1689 x.l.j 1690
def Oa:=k17 x x.b.c x.l.k (sm x 98 0) (sm x 98 0)
def KS:=k6 x x.b.c 1686 x.l.k 1687 1688 606 2 1091 1092 1093 1094 1095 1691 1692
def Oz:=k18 x x.b.c x.l.k (sm x 98 0) (sm x 98 0) x.k.v 1574 1096
def O3:=k24 x x.b.d 1697 x.h.g 1698 x.l.l 1699 x.b.q 1700
def Mg:=k17 x x.k.x x.l.m (sm x 98 1) (sm x 98 1)
def Jh:=k6 x x.k.x 1694 x.l.m 1695 1696 611 2 1098 1099 1100 1101 1102 1701 1702
def OA:=k18 x x.k.x x.l.m (sm x 98 1) (sm x 98 1) x.k.v 1574 1103
def Js:=k4 x x.l.j 1704
def Ox:=k37 x 1681 1685 604 1684 1693 1097 1703 1104 1705 1105 1706
def L8:=k33 x x.l.i 1026 1107 1106 1084 1674 1682
def Jq:=k11 x 1107
def Lq:=k12 x 1107
abbrev Vt:List DictEntry:=nf (ap (abg x) [E x x.l.n 1737 (u13 1129)])
def adY:=M (u1 x.l3) (u20 (u21 (Vt x)) 94)
abbrev YB:List Value:=nf (ap (Zf x) [u12 617 0,u12 0 0,u13 1115])
def age:=M u8 (u9 (u4 (YB x)))
abbrev XJ(x:X):List Value:=[u13 1054,u13 1081,u13 1107,u13 1129]
def afs:=u0 (u1 x.l9) u2 (u32 (u33 x.k.w [u1 x.l12] [u13 1026,u1 x.l12] 1025 x.k.w u31 u34 (XJ x) u15 u35 u15)) (u6 (zL x))
def MG:=k36 x 1716 x.k.v 1574 1718 x.l.n 1717 1720 617 1719 1726 1121 x.k.x 1732 1126 1734 1127
def MO:=k3 x 619 4 1120 622 1125
def K5:=k1 x x.l.n 1711 1712 1713 617 1113 1114 1714 1715
def PB:=k2 x 1115 1112 x.k.v 1574
def Np:=k17 x x.b.c x.l.o (sm x 99 0) (sm x 99 0)
def JZ:=k22 x x.b.c 1721 x.l.o 1722 1723 619 2 1117 1118 1119 1724 1725
def Jc:=k18 x x.b.c x.l.o (sm x 99 0) (sm x 99 0) x.k.v 1574 1120
def Lc:=k17 x x.k.x x.l.p (sm x 99 1) (sm x 99 1)
def Lj:=k22 x x.k.x 1727 x.l.p 1728 1729 622 2 1122 1123 1124 1730 1731
def JO:=k18 x x.k.x x.l.p (sm x 99 1) (sm x 99 1) x.k.v 1574 1125
def MK:=k4 x x.l.q 1733
def O4:=k37 x 1716 1720 617 1719 1726 1121 1732 1126 1734 1127 1735
def NI:=k33 x x.l.n 1026 1129 1128 1110 1709 1717
def JB:=k11 x 1129
def Pw:=k12 x 1129
abbrev XQ:List DictEntry:=nf (ap (sz (Vt x) 0 (E x x.a.d 165 (u11 x.l.r 1791))) [E x x.l.s 1768 (u13 1153),E x x.l.t 1776 (u13 1162),E x x.l.u 1784 (u13 1167),E x x.l.v 1790 (u13 1172),E x x.l.w 1798 (u13 1177)])
def aeb:=M (u1 x.l3) (u20 (u21 (XQ x)) 99)
abbrev ZS:List Value:=nf (ap (YB x) [u12 624 0,u12 0 0,u13 1137,u12 635 0,u12 0 0,u13 1161,u12 638 0,u12 0 0,u13 1166,u12 642 0,u12 0 0,u13 1171,u12 660 0,u12 0 0,u13 1176])
def afn:=M u8 (u9 (u4 (ZS x)))
def JS:=u0 (u1 x.l9) u2 (u32 (u33 x.k.w [u1 x.l12] [u13 1026,u1 x.l12] 1025 x.k.w u31 u34 ((nf (ap (XJ x) [u13 1153]))) u15 u35 u15)) (u6 (zL x))
def LI:=k36 x 1745 x.k.v 1574 1747 x.l.s 1746 1749 624 1748 1757 1145 x.k.x 1763 1150 1765 1151
def NW:=k3 x 626 4 1144 629 1149
def JD:=k1 x x.l.s 1740 1741 1742 624 1135 1136 1743 1744
def Mf:=k2 x 1137 1134 x.k.v 1574
def Ol:=k16 x x.b.d 1753 x.l.x 1754
def OZ:=k17 x x.b.c x.l.y (sm x 100 0) (sm x 100 0)
def JR:=k6 x x.b.c 1750 x.l.y 1751 1752 626 2 1139 1140 1141 1142 1143 1755 1756
def JW:=k18 x x.b.c x.l.y (sm x 100 0) (sm x 100 0) x.k.v 1574 1144
def OI:=k17 x x.k.x x.m.a (sm x 100 1) (sm x 100 1)
def MR:=k22 x x.k.x 1758 x.m.a 1759 1760 629 2 1146 1147 1148 1761 1762
def OH:=k18 x x.k.x x.m.a (sm x 100 1) (sm x 100 1) x.k.v 1574 1149
def O7:=k4 x x.l.x 1764
def MY:=k37 x 1745 1749 624 1748 1757 1145 1763 1150 1765 1151 1766
def JK:=k33 x x.l.s 1026 1153 1152 1132 1738 1746
def Nr:=k11 x 1153
def Mb:=k12 x 1153
def Kg:=k16 x x.h.g 1772 x.c.o 1773
def Kw:=k5 x x.l.t (st x 101) (st x 101)
def Mt:=k6 x x.l.t 1769 x.l.t 1770 1771 635 2 1156 1157 1158 1159 1160 1774 1775
def LO:=k7 x x.l.t (st x 101) (st x 101) x.k.v 1574 1161
def Ni:=k5 x x.l.u (st x 103) (st x 103)
def IK:=k22 x x.l.u 1779 x.l.u 1780 1781 638 1 1163 1164 1165 1782 1783
def OW:=k7 x x.l.u (st x 103) (st x 103) x.m.b 1777 1166
def Nv:=k28 x (st x 104)
def Oq:=k22 x x.l.v 1785 x.l.v 1786 1787 642 1 1168 1169 1170 1788 1789
def NS:=k29 x (st x 104) x.m.b 1777 1171
def LB:=k5 x x.l.w (st x 106) (st x 106)
def NK:=k22 x x.l.w 1793 x.l.w 1794 1795 660 2 1173 1174 1175 1796 1797
def OX:=k7 x x.l.w (st x 106) (st x 106) x.l.r 1791 1176
abbrev abm:List DictEntry:=nf (ap (sz (XQ x) 0 (E x x.a.d 165 (u11 x.m.c 1851))) [E x x.m.d 1809 (u13 1184),E x x.m.e 1815 (u13 1189),E x x.m.f 1822 (u13 1196),E x x.m.g 1828 (u13 1201),E x x.m.h 1836 (u13 1206),E x x.m.i 1850 (u13 1213)])
def Kq:=M (u1 x.l3) (u20 (u21 (abm x)) 105)
abbrev Vd:List Value:=nf (ap (ZS x) [u12 672 0,u12 0 0,u13 1183,u12 678 0,u12 0 0,u13 1188,u12 687 0,u12 0 0,u13 1195,u12 689 0,u12 0 0,u13 1200,u12 698 0,u12 0 0,u13 1205,u12 708 0,u12 0 0,u13 1212])
def afP:=M u8 (u9 (u4 (Vd x)))
def NO:=k23 x x.c.r 1802 x.m.j 1803 x.m.k 1804 x.m.l 1805 x.b.q 1806
def Lw:=k5 x x.m.d (st x 107) (st x 107)
def IL:=k6 x x.m.d 1799 x.m.d 1800 1801 672 2 1178 1179 1180 1181 1182 1807 1808
def Oe:=k7 x x.m.d (st x 107) (st x 107) x.l.r 1791 1183
def Kh:=k5 x x.m.e (st x 108) (st x 108)
def PV:=k22 x x.m.e 1810 x.m.e 1811 1812 678 2 1185 1186 1187 1813 1814
def Jw:=k7 x x.m.e (st x 108) (st x 108) x.l.r 1791 1188
def JF:=k4 x x.i.c 1819
def Mu:=k28 x (st x 109)
def Nt:=k6 x x.m.f 1816 x.m.f 1817 1818 687 1 1190 1191 1192 1193 1194 1820 1821
def Mi:=k29 x (st x 109) x.l.r 1791 1195
def Pf:=k5 x x.m.g (st x 110) (st x 110)
def Jm:=k22 x x.m.g 1823 x.m.g 1824 1825 689 2 1197 1198 1199 1826 1827
def Jk:=k7 x x.m.g (st x 110) (st x 110) x.l.r 1791 1200
def K7:=k5 x x.m.h (st x 112) (st x 112)
def IV:=k22 x x.m.h 1831 x.m.h 1832 1833 698 2 1202 1203 1204 1834 1835
def P6:=k7 x x.m.h (st x 112) (st x 112) x.m.m 1829 1205
def MT:=k30 x x.c.r 1840 x.m.n 1841 x.f.g 1842 x.m.j 1843 x.m.o 1844 x.m.p 1845 x.m.k 1846 x.b.w 1847
def Pb:=k5 x x.m.i (st x 113) (st x 113)
def PD:=k6 x x.m.i 1837 x.m.i 1838 1839 708 3 1207 1208 1209 1210 1211 1848 1849
def P1:=k7 x x.m.i (st x 113) (st x 113) x.m.m 1829 1212
abbrev Ry:List DictEntry:=nf (ap (abm x) [E x x.m.q 2083 (u13 1384)])
def afg:=M (u1 x.l3) (u20 (u21 (Ry x)) 106)
abbrev HK:List Value:=nf (ap (Vd x) [u12 717 0,u12 0 0,u13 1219])
def ae3:=M u8 (u9 (u4 (HK x)))
def Kr:=M (u1 x.l3) (u20 (u21 [E x x.a.v 1860 (u11 x.m.c 1851),E x x.a.w 1862 (u11 x.m.q 1861),E x x.a.x 1864 (u12 717 1863),E x x.b.c 1875 (u13 1227),E x x.c.y 1883 (u13 1234),E x x.m.r 1890 (u13 1241),E x x.m.s 1900 (u13 1248),E x x.k.h 1908 (u13 1255),E x x.k.i 1922 (u13 1262),E x x.k.j 1934 (u13 1269),E x x.m.t 1941 (u13 1276),E x x.k.m 1948 (u13 1283),E x x.f.s 1956 (u13 1290),E x x.f.j 1965 (u13 1297),E x x.k.k 1977 (u13 1304),E x x.k.l 1987 (u13 1311),E x x.k.o 1995 (u13 1318),E x x.f.i 2003 (u13 1326),E x x.k.p 2012 (u13 1334),E x x.m.u 2020 (u13 1341),E x x.m.v 2027 (u13 1348),E x x.m.w 2035 (u13 1355),E x x.m.x 2044 (u13 1362),E x x.m.y 2052 (u13 1369),E x x.n.a 2061 (u13 1376),E x x.i.v 2067 (u13 1381),E x x.a.y 2076 (u13 1382)]) 27)
def KG(x:X):Obj:=M u8 (u9 (u4 [u12 719 0,u12 4 0,u13 1226,u12 729 0,u12 4 0,u13 1233,u12 732 0,u12 4 0,u13 1240,u12 735 0,u12 4 0,u13 1247,u12 741 0,u12 4 0,u13 1254,u12 746 0,u12 4 0,u13 1261,u12 756 0,u12 4 0,u13 1268,u12 765 0,u12 4 0,u13 1275,u12 768 0,u12 4 0,u13 1282,u12 771 0,u12 4 0,u13 1289,u12 775 0,u12 4 0,u13 1296,u12 779 0,u12 4 0,u13 1303,u12 783 0,u12 4 0,u13 1310,u12 790 0,u12 4 0,u13 1317,u12 794 0,u12 4 0,u13 1325,u12 797 0,u12 4 0,u13 1333,u12 800 0,u12 4 0,u13 1340,u12 804 0,u12 4 0,u13 1347,u12 807 0,u12 4 0,u13 1354,u12 812 0,u12 4 0,u13 1361,u12 823 0,u12 4 0,u13 1368,u12 827 0,u12 4 0,u13 1375,u12 832 0,u12 4 0,u13 1380]))
def Oh:=k1 x x.m.q 1855 1856 1857 717 1217 1218 1858 1859
def Li:=k2 x 1219 1216 x.m.c 1851
def Oj:=k23 x x.b.d 1868 x.b.h 1869 x.m.n 1870 x.f.e 1871 x.f.f 1872
def K1:=k17 x x.b.c x.n.b (sm x 115 0) (sm x 115 0)
def JJ:=k6 x x.b.c 1865 x.n.b 1866 1867 719 5 1221 1222 1223 1224 1225 1873 1874
def NX:=k18 x x.b.c x.n.b (sm x 115 0) (sm x 115 0) x.m.c 1851 1226
def MD:=k16 x x.b.d 1879 x.n.c 1880
def Ml:=k17 x x.c.y x.n.d (sm x 115 1) (sm x 115 1)
def Lp:=k6 x x.c.y 1876 x.n.d 1877 1878 729 2 1228 1229 1230 1231 1232 1881 1882
def Oo:=k18 x x.c.y x.n.d (sm x 115 1) (sm x 115 1) x.m.c 1851 1233
def Mz:=k4 x x.b.d 1887
def JA:=k17 x x.m.r x.n.e (sm x 115 2) (sm x 28 0)
def Mw:=k6 x x.m.r 1884 x.n.e 1885 1886 732 1 1235 1236 1237 1238 1239 1888 1889
def KC:=k18 x x.m.r x.n.e (sm x 115 2) (sm x 28 0) x.m.c 1851 1240
def O6:=k24 x x.b.d 1894 x.b.e 1895 x.f.j 1896 x.b.w 1897
def IZ:=k17 x x.m.s x.n.f (sm x 115 3) (sm x 115 3)
def Po:=k6 x x.m.s 1891 x.n.f 1892 1893 735 2 1242 1243 1244 1245 1246 1898 1899
def PY:=k18 x x.m.s x.n.f (sm x 115 3) (sm x 115 3) x.m.c 1851 1247
def L4:=k16 x x.b.d 1904 x.b.q 1905
def L0:=k17 x x.k.h x.n.g (sm x 115 4) (sm x 115 4)
def Ph:=k6 x x.k.h 1901 x.n.g 1902 1903 741 2 1249 1250 1251 1252 1253 1906 1907
def Lg:=k18 x x.k.h x.n.g (sm x 115 4) (sm x 115 4) x.m.c 1851 1254
def MW:=k30 x x.b.d 1912 x.m.n 1913 x.i.y 1914 x.m.l 1915 x.b.w 1916 x.d.h 1917 x.d.i 1918 x.n.h 1919
def Jt:=k17 x x.k.i x.n.i (sm x 115 5) (sm x 115 5)
def O0:=k6 x x.k.i 1909 x.n.i 1910 1911 746 1 1256 1257 1258 1259 1260 1920 1921
def MJ:=k18 x x.k.i x.n.i (sm x 115 5) (sm x 115 5) x.m.c 1851 1261
def Mc:=k27 x x.b.d 1926 x.c.r 1927 x.c.o 1928 x.n.j 1929 x.n.k 1930 x.n.l 1931
def K0:=k17 x x.k.j x.n.m (sm x 115 6) (sm x 115 6)
def JH:=k6 x x.k.j 1923 x.n.m 1924 1925 756 3 1263 1264 1265 1266 1267 1932 1933
def PZ:=k18 x x.k.j x.n.m (sm x 115 6) (sm x 115 6) x.m.c 1851 1268
def Jo:=k4 x x.b.d 1938
def K6:=k17 x x.m.t x.n.n (sm x 115 7) (sm x 28 5)
def Oc:=k6 x x.m.t 1935 x.n.n 1936 1937 765 1 1270 1271 1272 1273 1274 1939 1940
def KP:=k18 x x.m.t x.n.n (sm x 115 7) (sm x 28 5) x.m.c 1851 1275
def Ku:=k4 x x.b.d 1945
def Ka:=k17 x x.k.m x.n.o (sm x 115 8) (sm x 115 8)
def Jj:=k6 x x.k.m 1942 x.n.o 1943 1944 768 1 1277 1278 1279 1280 1281 1946 1947
def LG:=k18 x x.k.m x.n.o (sm x 115 8) (sm x 115 8) x.m.c 1851 1282
def Ot:=k16 x x.b.d 1952 x.c.r 1953
def Kd:=k17 x x.f.s x.n.p (sm x 115 9) (sm x 22 0)
def JV:=k6 x x.f.s 1949 x.n.p 1950 1951 771 2 1284 1285 1286 1287 1288 1954 1955
def LK:=k18 x x.f.s x.n.p (sm x 115 9) (sm x 22 0) x.m.c 1851 1289
def Nn:=k21 x x.b.d 1960 x.c.r 1961 x.b.w 1962
def JG:=k17 x x.f.j x.n.q (sm x 115 10) (sm x 115 10)
def ML:=k6 x x.f.j 1957 x.n.q 1958 1959 775 3 1291 1292 1293 1294 1295 1963 1964
def Mv:=k18 x x.f.j x.n.q (sm x 115 10) (sm x 115 10) x.m.c 1851 1296
def NT:=k27 x x.b.d 1969 x.c.r 1970 x.b.w 1971 x.c.a 1972 x.g.b 1973 x.n.r 1974
def Jb:=k17 x x.k.k x.n.s (sm x 115 11) (sm x 115 11)
def O1:=k6 x x.k.k 1966 x.n.s 1967 1968 779 5 1298 1299 1300 1301 1302 1975 1976
def NH:=k18 x x.k.k x.n.s (sm x 115 11) (sm x 115 11) x.m.c 1851 1303
def NG:=k24 x x.b.d 1981 x.c.r 1982 x.d.i 1983 x.i.y 1984
def NR:=k17 x x.k.l x.n.t (sm x 115 12) (sm x 115 12)
def PJ:=k6 x x.k.l 1978 x.n.t 1979 1980 783 3 1305 1306 1307 1308 1309 1985 1986
def Ko:=k18 x x.k.l x.n.t (sm x 115 12) (sm x 115 12) x.m.c 1851 1310
def Km:=k16 x x.b.d 1991 x.c.r 1992
def LJ:=k17 x x.k.o x.n.u (sm x 115 13) (sm x 115 13)
def Nk:=k6 x x.k.o 1988 x.n.u 1989 1990 790 2 1312 1313 1314 1315 1316 1993 1994
def NB:=k18 x x.k.o x.n.u (sm x 115 13) (sm x 115 13) x.m.c 1851 1317
def JT:=k16 x x.b.d 1999 x.n.v 2000
def IW:=k17 x x.f.i x.n.w (sm x 115 14) (sm x 115 14)
def Nm:=k6 x x.f.i 1996 x.n.w 1997 1998 794 2 1320 1321 1322 1323 1324 2001 2002
def Pu:=k32 x x.f.i x.n.w (sm x 115 14) 1319 x.m.c 1851 1325
def Nc:=k21 x x.b.d 2007 x.b.q 2008 x.n.v 2009
def Nl:=k17 x x.k.p x.n.x (sm x 115 15) (sm x 115 15)
def Mm:=k6 x x.k.p 2004 x.n.x 2005 2006 797 3 1328 1329 1330 1331 1332 2010 2011
def KW:=k32 x x.k.p x.n.x (sm x 115 15) 1327 x.m.c 1851 1333
def Ms:=k16 x x.b.d 2016 x.c.r 2017
def Mr:=k17 x x.m.u x.n.y (sm x 115 16) (sm x 115 16)
def Oi:=k6 x x.m.u 2013 x.n.y 2014 2015 800 2 1335 1336 1337 1338 1339 2018 2019
def JC:=k18 x x.m.u x.n.y (sm x 115 16) (sm x 115 16) x.m.c 1851 1340
def Lh:=k4 x x.b.d 2024
def LS:=M u8 (u27 (u28 (f0 (sm x 115 17)) x.o.a (f1 (sm x 115 17)) (u29 (f2 (sm x 115 17))) (f6 (sm x 115 17)) 0 u30 u8 u8 u8 u8 u2 u8 u8 0))
def OB:=k6 x x.m.v 2021 x.o.a 2022 2023 804 1 1342 1343 1344 1345 1346 2025 2026
def NU:=M (u1 x.l5) (u27 (u28 (f0 (sm x 115 17)) x.o.a (f1 (sm x 115 17)) (u29 (f2 (sm x 115 17))) (f6 (sm x 115 17)) 3 u30 u8 u8 u8 (u11 x.m.c 1851) u2 (u13 1347) u8 0))
def NJ:=k16 x x.b.d 2031 x.b.e 2032
def KZ:=k17 x x.m.w x.o.b (sm x 115 18) (sm x 115 18)
def KA:=k6 x x.m.w 2028 x.o.b 2029 2030 807 2 1349 1350 1351 1352 1353 2033 2034
def ME:=k18 x x.m.w x.o.b (sm x 115 18) (sm x 115 18) x.m.c 1851 1354
def Jy:=k21 x x.b.d 2039 x.b.e 2040 x.b.t 2041
def Nq:=k17 x x.m.x x.o.c (sm x 115 19) (sm x 115 19)
def Lm:=k6 x x.m.x 2036 x.o.c 2037 2038 812 2 1356 1357 1358 1359 1360 2042 2043
def Pe:=k18 x x.m.x x.o.c (sm x 115 19) (sm x 115 19) x.m.c 1851 1361
def Ny:=k16 x x.b.d 2048 x.n.l 2049
def Om:=k17 x x.m.y x.o.d (sm x 115 20) (sm x 115 20)
def JN:=k6 x x.m.y 2045 x.o.d 2046 2047 823 2 1363 1364 1365 1366 1367 2050 2051
def Jl:=k18 x x.m.y x.o.d (sm x 115 20) (sm x 115 20) x.m.c 1851 1368
def Mq:=k21 x x.b.d 2056 x.d.h 2057 x.d.i 2058
def Jr:=k17 x x.n.a x.o.e (sm x 115 21) (sm x 115 21)
def O2:=k6 x x.n.a 2053 x.o.e 2054 2055 827 3 1370 1371 1372 1373 1374 2059 2060
def NP:=k18 x x.n.a x.o.e (sm x 115 21) (sm x 115 21) x.m.c 1851 1375
def Kc:=k17 x x.i.v x.o.f (sm x 115 22) (sm x 115 22)
def Jp:=k22 x x.i.v 2062 x.o.f 2063 2064 832 2 1377 1378 1379 2065 2066
def Mh:=k18 x x.i.v x.o.f (sm x 115 22) (sm x 115 22) x.m.c 1851 1380
def Ou:=k30 x x.h.g 2068 x.o.g 2069 x.f.f 2070 x.o.h 2071 x.m.n 2072 x.o.i 2073 x.f.e 2074 x.i.u 2075
def Jg:=M (u1 x.l3) (u20 (u21 [E x x.a.v 1860 (u11 x.m.c 1851),E x x.a.x 1864 (u12 717 1863),E x x.b.c 1875 (u13 1227),E x x.c.y 1883 (u13 1234),E x x.m.r 1890 (u13 1241),E x x.m.s 1900 (u13 1248),E x x.k.h 1908 (u13 1255),E x x.k.i 1922 (u13 1262),E x x.k.j 1934 (u13 1269),E x x.m.t 1941 (u13 1276),E x x.k.m 1948 (u13 1283),E x x.f.s 1956 (u13 1290),E x x.f.j 1965 (u13 1297),E x x.k.k 1977 (u13 1304),E x x.k.l 1987 (u13 1311),E x x.k.o 1995 (u13 1318),E x x.f.i 2003 (u13 1326),E x x.k.p 2012 (u13 1334),E x x.m.u 2020 (u13 1341),E x x.m.v 2027 (u13 1348),E x x.m.w 2035 (u13 1355),E x x.m.x 2044 (u13 1362),E x x.m.y 2052 (u13 1369),E x x.n.a 2061 (u13 1376),E x x.i.v 2067 (u13 1381),E x x.a.y 2076 (u13 1382),E x x.d.q 2078 (u13 1385),E x x.b.a 2080 (u13 1386),E x x.a.f 2081 u8]) 4)
def Ly:=k25 x x.m.q 1384 1383 1853 1861
def Ma:=k26 x 2077 1384
def KD:=k10 x 2079 1384
def IY:=k11 x 1384
def L1:=k12 x 1384
def aeD:=M u8 (u9 (u4 (HK x)))
def afu:=M (u1 x.l3) (u20 (u21 [E x x.a.v 1860 (u11 x.m.c 1851),E x x.a.w 1862 (u11 x.m.q 1861),E x x.a.x 1864 (u12 717 1863),E x x.b.c 1875 (u13 1227),E x x.c.y 1883 (u13 1234),E x x.m.r 1890 (u13 1241),E x x.m.s 1900 (u13 1248),E x x.k.h 1908 (u13 1255),E x x.k.i 1922 (u13 1262),E x x.k.j 1934 (u13 1269),E x x.m.t 1941 (u13 1276),E x x.k.m 1948 (u13 1283),E x x.f.s 1956 (u13 1290)]) 13)
def agO(x:X):Obj:=M u8 (u9 (u4 [u12 719 0,u12 4 0,u13 1226,u12 729 0,u12 4 0,u13 1233,u12 732 0,u12 4 0,u13 1240,u12 735 0,u12 4 0,u13 1247,u12 741 0,u12 4 0,u13 1254,u12 746 0,u12 4 0,u13 1261,u12 756 0,u12 4 0,u13 1268,u12 765 0,u12 4 0,u13 1275,u12 768 0,u12 4 0,u13 1282,u12 771 0,u12 4 0,u13 1289,u12 775 0,u12 4 0,u13 1296]))
abbrev Rb:List DictEntry:=nf (ap (sz (Ry x) 0 (E x x.a.d 165 (u11 x.o.j 2092))) [E x x.o.k 2091 (u13 1395),E x x.o.l 2099 (u13 1400),E x x.o.m 2106 (u13 1407),E x x.o.n 2114 (u13 1414),E x x.o.o 2122 (u13 1421),E x x.o.p 2130 (u13 1428),E x x.o.q 2136 (u13 1433),E x x.o.r 2144 (u13 1440),E x x.o.s 2152 (u13 1447),E x x.o.t 2160 (u13 1454),E x x.o.u 2168 (u13 1461),E x x.o.v 2176 (u13 1468),E x x.o.w 2184 (u13 1475)])
def afC:=M (u1 x.l3) (u20 (u21 (Rb x)) 119)
abbrev Sy:List Value:=nf (ap (HK x) [u12 837 0,u12 0 0,u13 1394,u12 843 0,u12 0 0,u13 1399,u12 845 0,u12 0 0,u13 1406,u12 847 0,u12 0 0,u13 1413,u12 849 0,u12 0 0,u13 1420,u12 851 0,u12 0 0,u13 1427,u12 854 0,u12 0 0,u13 1432,u12 858 0,u12 0 0,u13 1439,u12 860 0,u12 0 0,u13 1446,u12 863 0,u12 0 0,u13 1453,u12 865 0,u12 0 0,u13 1460,u12 867 0,u12 0 0,u13 1467,u12 869 0,u12 0 0,u13 1474])
def ae5:=M u8 (u9 (u4 (Sy x)))
def afa:=k16 x x.c.r 2087 x.n.l 2088
def adI:=k5 x x.o.k (st x 116) (st x 116)
def adX:=k6 x x.o.k 2084 x.o.k 2085 2086 837 2 1389 1390 1391 1392 1393 2089 2090
def af8:=k7 x x.o.k (st x 116) (st x 116) x.m.c 1851 1394
def agJ:=k5 x x.o.l (st x 118) (st x 118)
def adM:=k22 x x.o.l 2094 x.o.l 2095 2096 843 1 1396 1397 1398 2097 2098
def adF:=k7 x x.o.l (st x 118) (st x 118) x.o.j 2092 1399
def afK:=k4 x x.f.s 2103
def aeZ:=k5 x x.o.m (st x 119) (st x 119)
def afO:=k6 x x.o.m 2100 x.o.m 2101 2102 845 1 1401 1402 1403 1404 1405 2104 2105
def agn:=k7 x x.o.m (st x 119) (st x 119) x.o.j 2092 1406
def ad1:=k16 x x.o.x 2110 x.n.c 2111
def aeW:=k5 x x.o.n (st x 120) (st x 120)
def afN:=k6 x x.o.n 2107 x.o.n 2108 2109 847 2 1408 1409 1410 1411 1412 2112 2113
def aez:=k7 x x.o.n (st x 120) (st x 120) x.o.j 2092 1413
def afY:=k16 x x.o.x 2118 x.k.t 2119
def afz:=k5 x x.o.o (st x 121) (st x 121)
def afw:=k6 x x.o.o 2115 x.o.o 2116 2117 849 2 1415 1416 1417 1418 1419 2120 2121
def aea:=k7 x x.o.o (st x 121) (st x 121) x.o.j 2092 1420
def ad8:=k16 x x.o.x 2126 x.f.s 2127
def agr:=k5 x x.o.p (st x 122) (st x 122)
def ady:=k6 x x.o.p 2123 x.o.p 2124 2125 851 2 1422 1423 1424 1425 1426 2128 2129
def afh:=k7 x x.o.p (st x 122) (st x 122) x.o.j 2092 1427
def afd:=k5 x x.o.q (st x 123) (st x 123)
def ae8:=k22 x x.o.q 2131 x.o.q 2132 2133 854 2 1429 1430 1431 2134 2135
def aeL:=k7 x x.o.q (st x 123) (st x 123) x.o.j 2092 1432
def af2:=k16 x x.o.x 2140 x.f.s 2141
def adE:=k5 x x.o.r (st x 124) (st x 124)
def afG:=k6 x x.o.r 2137 x.o.r 2138 2139 858 2 1434 1435 1436 1437 1438 2142 2143
def adq:=k7 x x.o.r (st x 124) (st x 124) x.o.j 2092 1439
def agN:=k16 x x.o.x 2148 x.f.s 2149
def af4:=k5 x x.o.s (st x 125) (st x 122)
def agA:=k6 x x.o.s 2145 x.o.s 2146 2147 860 2 1441 1442 1443 1444 1445 2150 2151
def adP:=k7 x x.o.s (st x 125) (st x 122) x.o.j 2092 1446
def ad0:=k16 x x.o.x 2156 x.f.s 2157
def agz:=k5 x x.o.t (st x 126) (st x 126)
def agI:=k6 x x.o.t 2153 x.o.t 2154 2155 863 2 1448 1449 1450 1451 1452 2158 2159
def af1:=k7 x x.o.t (st x 126) (st x 126) x.o.j 2092 1453
def aef:=k16 x x.o.x 2164 x.f.s 2165
def af3:=k5 x x.o.u (st x 127) (st x 126)
def adW:=k6 x x.o.u 2161 x.o.u 2162 2163 865 2 1455 1456 1457 1458 1459 2166 2167
def af0:=k7 x x.o.u (st x 127) (st x 126) x.o.j 2092 1460
def agf:=k16 x x.o.x 2172 x.f.s 2173
def agi:=k5 x x.o.v (st x 128) (st x 126)
def afZ:=k6 x x.o.v 2169 x.o.v 2170 2171 867 2 1462 1463 1464 1465 1466 2174 2175
def agG:=k7 x x.o.v (st x 128) (st x 126) x.o.j 2092 1467
def aeI:=k16 x x.o.x 2180 x.f.s 2181
def agb:=k5 x x.o.w (st x 129) (st x 129)
def agm:=k6 x x.o.w 2177 x.o.w 2178 2179 869 2 1469 1470 1471 1472 1473 2182 2183
def af5:=k7 x x.o.w (st x 129) (st x 129) x.o.j 2092 1474
abbrev Zn:List DictEntry:=nf (ap (Rb x) [E x x.o.y 2193 (u13 1482),E x x.p.a 2199 (u13 1487),E x x.p.b 2208 (u13 1494),E x x.p.c 2217 (u13 1501),E x x.p.d 2227 (u13 1508)])
def aer:=M (u1 x.l3) (u20 (u21 (Zn x)) 124)
abbrev abV:List Value:=nf (ap (Sy x) [u12 871 0,u12 0 0,u13 1481,u12 874 0,u12 0 0,u13 1486,u12 882 0,u12 0 0,u13 1493,u12 885 0,u12 0 0,u13 1500,u12 888 0,u12 0 0,u13 1507])
def agp:=M u8 (u9 (u4 (abV x)))
def aeJ:=k21 x x.o.x 2188 x.f.s 2189 x.b.q 2190
def aeB:=k5 x x.o.y (st x 130) (st x 130)
def afW:=k6 x x.o.y 2185 x.o.y 2186 2187 871 2 1476 1477 1478 1479 1480 2191 2192
def agM:=k7 x x.o.y (st x 130) (st x 130) x.o.j 2092 1481
def agd:=k5 x x.p.a (st x 131) (st x 131)
def agj:=k22 x x.p.a 2194 x.p.a 2195 2196 874 2 1483 1484 1485 2197 2198
def agq:=k7 x x.p.a (st x 131) (st x 131) x.o.j 2092 1486
def agD:=k21 x x.o.x 2203 x.f.s 2204 x.f.p 2205
def agT:=k5 x x.p.b (st x 132) (st x 132)
def aft:=k6 x x.p.b 2200 x.p.b 2201 2202 882 2 1488 1489 1490 1491 1492 2206 2207
def aed:=k7 x x.p.b (st x 132) (st x 132) x.o.j 2092 1493
def ae7:=k21 x x.o.x 2212 x.f.s 2213 x.i.o 2214
def aeH:=k5 x x.p.c (st x 133) (st x 133)
def aeR:=k6 x x.p.c 2209 x.p.c 2210 2211 885 2 1495 1496 1497 1498 1499 2215 2216
def afQ:=k7 x x.p.c (st x 133) (st x 133) x.o.j 2092 1500
def afF:=k24 x x.o.x 2221 x.f.s 2222 x.j.n 2223 x.i.y 2224
def ae4:=k5 x x.p.d (st x 134) (st x 134)
def afM:=k6 x x.p.d 2218 x.p.d 2219 2220 888 2 1502 1503 1504 1505 1506 2225 2226
def agy:=k7 x x.p.d (st x 134) (st x 134) x.o.j 2092 1507
abbrev U0:List DictEntry:=nf (ap (Zn x) [E x x.p.e 2258 (u13 1509)])
def adu:=M (u1 x.l3) (u20 (u21 (U0 x)) 125)
def adN:=M (u1 x.l3) (u20 (u21 [E x x.b.q 2228 (u13 1414),E x x.m.s 2229 (u13 1421),E x x.k.h 2230 (u13 1428),E x x.k.i 2231 (u13 1433),E x x.k.j 2232 (u13 1440),E x x.k.k 2233 (u13 1447),E x x.k.l 2234 (u13 1454),E x x.k.m 2235 (u13 1461),E x x.k.n 2236 (u13 1468),E x x.c.v 2237 (u13 1475),E x x.k.o 2238 (u13 1482),E x x.k.p 2239 (u13 1487),E x x.f.p 2240 (u13 1494),E x x.i.o 2241 (u13 1501),E x x.k.q 2242 (u13 1508)]) 15)
abbrev WT:List DictEntry:=nf (ap (sz (U0 x) 0 (E x x.a.d 165 (u11 x.p.f 2300))) [E x x.p.g 2299 (u13 1533),E x x.p.h 2309 (u13 1544),E x x.p.i 2318 (u13 1551),E x x.p.j 2326 (u13 1558),E x x.p.k 2332 (u13 1563)])
def aeG:=M (u1 x.l3) (u20 (u21 (WT x)) 130)
abbrev Y3:List Value:=nf (ap (abV x) [u12 893 0,u12 0 0,u13 1515,u12 903 0,u12 0 0,u13 1543,u12 907 0,u12 0 0,u13 1550,u12 910 0,u12 0 0,u13 1557,u12 918 0,u12 0 0,u13 1562])
def aeE:=M u8 (u9 (u4 (Y3 x)))
def adL:=k36 x 2266 x.o.j 2092 2268 x.p.g 2267 2270 893 2269 2281 1523 x.p.l 2290 1530 2292 1531
def afJ:=k3 x 895 4 1522 899 1529
def adK:=k1 x x.p.g 2261 2262 2263 893 1513 1514 2264 2265
def afR:=k2 x 1515 1512 x.o.j 2092
def agl:=k23 x x.b.d 2274 x.b.h 2275 x.f.e 2276 x.f.f 2277 x.l.x 2278
def afI:=k17 x x.b.c x.p.m (sm x 136 0) (sm x 136 0)
def ago:=k6 x x.b.c 2271 x.p.m 2272 2273 895 5 1517 1518 1519 1520 1521 2279 2280
def agx:=k18 x x.b.c x.p.m (sm x 136 0) (sm x 136 0) x.o.j 2092 1522
def aga:=k21 x x.b.d 2285 x.e.r 2286 x.i.y 2287
def aet:=k17 x x.p.l x.p.n (sm x 136 1) (sm x 136 1)
def aev:=k6 x x.p.l 2282 x.p.n 2283 2284 899 2 1524 1525 1526 1527 1528 2288 2289
def afD:=k18 x x.p.l x.p.n (sm x 136 1) (sm x 136 1) x.o.j 2092 1529
def adA:=k4 x x.o.x 2291
def ags:=M (u1 x.l3) (u20 (u21 [E x x.a.v 2266 (u11 x.o.j 2092),E x x.a.x 2270 (u12 893 2269),E x x.b.c 2281 (u13 1523),E x x.p.l 2290 (u13 1530),E x x.a.y 2292 (u13 1531),E x x.d.q 2294 (u13 1534),E x x.b.a 2296 (u13 1535),E x x.a.f 2297 u8]) 4)
def ad9:=k25 x x.p.g 1533 1532 2259 2267
def aeq:=k26 x 2293 1533
def aeV:=k10 x 2295 1533
def aeU:=k11 x 1533
def afi:=k12 x 1533
def adt:=k16 x x.p.o 2305 x.p.p 2306
def agt:=k5 x x.p.h (st x 138) (st x 138)
def aeu:=k6 x x.p.h 2302 x.p.h 2303 2304 903 2 1538 1539 1540 1541 1542 2307 2308
def aeA:=k7 x x.p.h (st x 138) (st x 138) x.p.f 2300 1543
def adZ:=k21 x x.p.q 2313 x.p.p 2314 x.p.r 2315
def aeK:=k5 x x.p.i (st x 139) (st x 139)
def aeT:=k6 x x.p.i 2310 x.p.i 2311 2312 907 2 1545 1546 1547 1548 1549 2316 2317
def afS:=k7 x x.p.i (st x 139) (st x 139) x.p.f 2300 1550
def ad7:=k16 x x.p.q 2322 x.p.p 2323
def aek:=k5 x x.p.j (st x 140) (st x 140)
def adS:=k6 x x.p.j 2319 x.p.j 2320 2321 910 2 1552 1553 1554 1555 1556 2324 2325
def agF:=k7 x x.p.j (st x 140) (st x 140) x.p.f 2300 1557
def agB:=k28 x (st x 141)
def aep:=k22 x x.p.k 2327 x.p.k 2328 2329 918 2 1559 1560 1561 2330 2331
def aew:=k29 x (st x 141) x.p.f 2300 1562
def aeg:=M (u1 x.l3) (u20 (u21 ((nf (ap (WT x) [E x x.p.s 2341 (u13 1570),E x x.p.t 2355 (u13 1577),E x x.p.u 2365 (u13 1584),E x x.p.v 2383 (u13 1591),E x x.p.w 2395 (u13 1598),E x x.p.x 2401 (u13 1603),E x x.p.y 2411 (u13 1610),E x x.q.a 2422 (u13 1617),E x x.q.b 2428 (u13 1622)])))) 139)
def aex:=M u8 (u9 (u4 ((nf (ap (Y3 x) [u12 920 0,u12 0 0,u13 1569,u12 929 0,u12 0 0,u13 1576,u12 937 0,u12 0 0,u13 1583,u12 943 0,u12 0 0,u13 1590,u12 960 0,u12 0 0,u13 1597,u12 976 0,u12 0 0,u13 1602,u12 981 0,u12 0 0,u13 1609,u12 990 0,u12 0 0,u13 1616,u12 998 0,u12 0 0,u13 1621])))))
def aeO:=k21 x x.q.c 2336 x.q.d 2337 x.q.e 2338
def aey:=k28 x (st x 142)
def agk:=k6 x x.p.s 2333 x.p.s 2334 2335 920 2 1564 1565 1566 1567 1568 2339 2340
def ael:=k29 x (st x 142) x.p.f 2300 1569
def adQ:=k30 x x.q.f 2345 x.q.g 2346 x.q.h 2347 x.q.i 2348 x.q.j 2349 x.q.k 2350 x.q.l 2351 x.q.m 2352
def ad2:=k5 x x.p.t (st x 143) (st x 143)
def afL:=k6 x x.p.t 2342 x.p.t 2343 2344 929 4 1571 1572 1573 1574 1575 2353 2354
def aeF:=k7 x x.p.t (st x 143) (st x 143) x.p.f 2300 1576
def afv:=k24 x x.q.c 2359 x.q.n 2360 x.q.h 2361 x.q.i 2362
def aen:=k5 x x.p.u (st x 144) (st x 144)
def ads:=k6 x x.p.u 2356 x.p.u 2357 2358 937 2 1578 1579 1580 1581 1582 2363 2364
def afb:=k7 x x.p.u (st x 144) (st x 144) x.p.f 2300 1583
def afr:=M (u1 x.l0) (u3 (u4 [u11 x.q.f 2369,u11 x.q.g 2370,u11 x.q.o 2371,u11 x.q.c 2372,u11 x.q.d 2373,u11 x.q.p 2374,u11 x.q.q 2375,u11 x.q.r 2376,u11 x.q.i 2377,u11 x.q.s 2378,u11 x.q.h 2379,u11 x.q.t 2380]) 0)
def adH:=k5 x x.p.v (st x 145) (st x 145)
def aej:=k6 x x.p.v 2366 x.p.v 2367 2368 943 6 1585 1586 1587 1588 1589 2381 2382
def ad5:=k7 x x.p.v (st x 145) (st x 145) x.p.f 2300 1590
def adU:=k27 x x.q.u 2387 x.q.d 2388 x.q.v 2389 x.q.w 2390 x.q.x 2391 x.q.i 2392
def adx:=k5 x x.p.w (st x 146) (st x 146)
def aeS:=k6 x x.p.w 2384 x.p.w 2385 2386 960 2 1592 1593 1594 1595 1596 2393 2394
def afy:=k7 x x.p.w (st x 146) (st x 146) x.p.f 2300 1597
def adz:=k5 x x.p.x (st x 147) (st x 147)
def afm:=k22 x x.p.x 2396 x.p.x 2397 2398 976 2 1599 1600 1601 2399 2400
def afo:=k7 x x.p.x (st x 147) (st x 147) x.p.f 2300 1602
def aes:=k24 x x.p.q 2405 x.q.p 2406 x.p.p 2407 x.p.r 2408
def agw:=k5 x x.p.y (st x 148) (st x 148)
def aeQ:=k6 x x.p.y 2402 x.p.y 2403 2404 981 1 1604 1605 1606 1607 1608 2409 2410
def ae1:=k7 x x.p.y (st x 148) (st x 148) x.p.f 2300 1609
def aei:=k23 x x.p.q 2415 x.q.y 2416 x.q.d 2417 x.p.p 2418 x.p.r 2419
def agR:=k28 x (st x 149)
def aeP:=k6 x x.q.a 2412 x.q.a 2413 2414 990 2 1611 1612 1613 1614 1615 2420 2421
def ado:=k29 x (st x 149) x.p.f 2300 1616
def afp:=k5 x x.q.b (st x 150) (st x 150)
def agh:=k22 x x.q.b 2423 x.q.b 2424 2425 998 1 1618 1619 1620 2426 2427
def ad6:=k7 x x.q.b (st x 150) (st x 150) x.p.f 2300 1621
def q1(x:X):Obj:=M u8 (u20 (u21 u26) 0)
abbrev tree47:X->PySem.W.BT:=λx=>nf (G Z 0 [b0,b1,b2,b3,b4,b5,b6,b7,b8,b9,b10,o43,o44,o45,o46] x)
abbrev tree70:X->PySem.W.BT:=λx=>nf (G (G (G tree47 3 [o49]) 12 [o50]) 15 [o43,o44,o53,o43,o55,o56,o57,o58,o59,o60,o43,o44,o63,o64,o43,o66,o67,o68,o69,o70] x)
abbrev tree92:X->PySem.W.BT:=λx=>nf (G (G (G (G tree70 3 [o71]) 12 [o72]) 31 [o73]) 35 [o74,o59,o76,o43,o78,o79,o80,o43,o44,o83,o43,o85,o86,o87,o88,o89,o90,o91,o92] x)
abbrev tree114:X->PySem.W.BT:=λx=>nf (G (G (G (G tree92 3 [o93]) 12 [o94]) 31 [o95]) 54 [o74,o59,o98,o43,ac5,S4,XW,o43,o44,aai,o43,Yx,UQ,ac1,Zg,WL,XI,Tt,aaw] x)
abbrev tree136:X->PySem.W.BT:=λx=>nf (G (G (G (G tree114 3 [agV]) 12 [ahc]) 31 [ahl]) 73 [o74,o59,adk,o43,UT,UH,XO,o43,o44,YE,o43,RM,acL,WX,UZ,abh,YO,RH,Wr] x)
abbrev tree158:X->PySem.W.BT:=λx=>nf (G (G (G (G tree136 3 [ahA]) 12 [ahC]) 31 [agW]) 92 [o74,o59,YL,o43,ZM,Tn,WW,o43,o44,We,o43,Se,Wb,WG,UJ,adb,ZL,UK,R8] x)
abbrev tree180:X->PySem.W.BT:=λx=>nf (G (G (G (G tree158 3 [ahE]) 12 [ahW]) 31 [aia]) 111 [o74,o59,Tc,o43,VY,Wg,abd,o43,o44,Vf,o43,abY,ZP,Tg,Tr,Vs,Zj,Xi,W9] x)
abbrev tree202:X->PySem.W.BT:=λx=>nf (G (G (G (G tree180 3 [ahZ]) 12 [aic]) 31 [ahi]) 130 [o74,o59,SV,o43,RC,VA,S9,o43,o44,Wi,o43,V2,RD,ZC,TJ,UG,ace,aaD,ZW] x)
abbrev tree224:X->PySem.W.BT:=λx=>nf (G (G (G (G tree202 3 [ahf]) 12 [ahX]) 31 [ahy]) 149 [o74,o59,Y6,o43,RG,WD,Sd,o43,o44,Wf,o43,RQ,S7,UX,aaI,VJ,Tf,Uk,SW] x)
abbrev tree246:X->PySem.W.BT:=λx=>nf (G (G (G (G tree224 3 [ahH]) 12 [ahF]) 31 [aht]) 168 [o74,o59,Td,o43,Y7,acH,RY,o43,o44,Wy,o43,Ze,Xa,WQ,ZG,XR,Zh,adf,Yn] x)
abbrev tree268:X->PySem.W.BT:=λx=>nf (G (G (G (G tree246 3 [ah4]) 12 [ahe]) 31 [aih]) 187 [o74,o59,aaT,o43,Ub,ab4,YN,o43,o44,RX,o43,acz,RA,Zc,aaF,UM,Zw,XU,Sn] x)
abbrev tree283:X->PySem.W.BT:=λx=>nf (G (G (G (G tree268 3 [ag5]) 12 [ag7]) 31 [ahM]) 206 [o74,o59,Zl,o43,o44,ac9,acn,o43,WB,Wl,RZ,abB] x)
abbrev tree305:X->PySem.W.BT:=λx=>nf (G (G (G (G tree283 3 [ahR]) 12 [ahg]) 31 [ag6]) 218 [o74,o59,abi,o43,XZ,Wk,YC,o43,o44,SY,o43,Yj,WV,ZX,Ws,aac,Y5,ac6,Uo] x)
abbrev tree327:X->PySem.W.BT:=λx=>nf (G (G (G (G tree305 3 [agY]) 12 [ahs]) 31 [ah0]) 237 [o74,o59,Yi,o43,SR,aap,abG,o43,o44,ZD,o43,US,abb,Y8,aar,aa4,aaV,abZ,SH] x)
abbrev tree349:X->PySem.W.BT:=λx=>nf (G (G (G (G tree327 3 [ah6]) 12 [ahx]) 31 [aif]) 256 [o74,o59,Xg,o43,adg,TX,U3,o43,o44,abJ,o43,T6,Xf,Va,aay,V6,SK,acv,W2] x)
abbrev tree371:X->PySem.W.BT:=λx=>nf (G (G (G (G tree349 3 [aha]) 12 [aie]) 31 [aiq]) 275 [o74,o59,VL,o43,Sz,abv,abq,o43,o44,ac4,o43,ZV,Ug,Uu,adi,Wc,acT,aaJ,Ux] x)
abbrev tree393:X->PySem.W.BT:=λx=>nf (G (G (G (G tree371 3 [ag8]) 12 [ahK]) 31 [aiw]) 294 [o74,o59,WZ,o43,Vv,ZY,W5,o43,o44,ac3,o43,Zi,ZR,aaE,Yg,Ut,aaQ,acJ,aam] x)
abbrev tree415:X->PySem.W.BT:=λx=>nf (G (G (G (G tree393 3 [ahn]) 12 [aiu]) 31 [W6]) 313 [o74,o59,Wa,o43,acU,VM,U9,o43,o44,To,o43,VX,Sj,aby,XG,Tj,aak,YZ,acE] x)
abbrev tree471:X->PySem.W.BT:=λx=>nf (G (G (G tree415 3 [agX]) 12 [ah9]) 332 [o43,o59,Rf,o43,abW,abS,aaC,o43,o44,Sm,o43,YY,W3,Zt,o43,o44,Vz,WM,Yh,o43,o44,aas,o43,TQ,TN,adl,o43,o44,ab8,o43,abx,Zs,aaX,o43,o44,abK,o43,SD,ZZ,V8,o43,o44,aax,o43,acI,YK,Yp,aan,Rg,YU,Rw,abT,YT,adj] x)
abbrev tree480:X->PySem.W.BT:=λx=>nf (G (G (G tree471 3 [ag1]) 12 [ahT]) 386 [o43,o44,U1,o43,Ul,Zd,Y4] x)
abbrev tree566:X->PySem.W.BT:=λx=>nf (G (G (G tree480 3 [ahr]) 12 [ahw]) 393 [o43,o59,abE,o43,aa8,Te,Xm,o43,o44,Zq,o43,abj,YJ,RO,o43,o44,ZN,o43,Zk,WO,YM,o43,o44,UA,o43,Yo,Up,Wv,o43,o44,Yt,o43,Zz,RU,ab1,o43,o44,V3,o43,Xw,ada,TV,o43,o44,YI,o43,acZ,Zu,WU,o43,o44,UB,o43,Rc,Wq,U8,o43,o44,WA,o43,Yb,SJ,TU,o43,o44,Uh,o43,WK,ZU,aa2,o43,o44,acM,o43,acf,aa0,Ur,Ua,Xh,UO,acR,Wx,abH,Sk] x)
abbrev tree636:X->PySem.W.BT:=λx=>nf (G (G (G tree566 3 [ah3]) 12 [ahz]) 477 [o43,o44,Rk,acC,TY,V7,acK,o43,o44,abC,o43,TR,ZH,Vk,o43,o44,aaR,o43,aaA,Tw,acq,o43,o44,Sw,o43,U5,abU,Rq,o43,o44,Wn,acO,ab3,o43,o44,Xe,o43,acQ,SX,aaK,o43,o44,TF,o43,Zb,Ve,aaz,o43,o44,Ro,o43,Zm,ZK,abu,o43,o44,XY,o43,aaP,Th,YV,o43,o44,Tu,o43,Wh,acy,acD] x)
abbrev tree678:X->PySem.W.BT:=λx=>nf (G (G (G tree636 3 [ag3]) 12 [ahd]) 545 [o43,o59,SI,o43,abQ,R0,W7,o43,o44,Xb,WJ,ab9,o43,o44,YX,o43,W0,Yc,aah,o43,o44,UC,o43,UL,ZA,Yw,o43,o44,XT,o43,Zp,ab0,aa3,UD,T7,ahP,Vg,Sv,aag,adn] x)
abbrev tree727:X->PySem.W.BT:=λx=>nf (G (G (G (G tree678 3 [aio]) 12 [ah7]) 580 [ah2]) 585 [ED,o59,R7,o43,Uq,UP,Vi,nH,o43,o44,Sf,o43,VO,ach,TZ,o43,o44,Rx,o43,Yr,UR,VT,o43,o44,Xk,o43,Y0,SM,VQ,o43,o44,Ys,Zx,Vn,o43,o44,abp,o43,WS,W4,VR,o43,RL,VS,VZ,ac7] x)
abbrev tree778:X->PySem.W.BT:=λx=>nf (G (G (G (G tree727 3 [aip]) 12 [aiv]) 580 [abA]) 631 [ED,o59,abM,o43,Vx,Xx,Uj,nH,o43,o44,aaW,o43,Sh,U6,Sa,o43,o44,Ti,o43,Wm,acB,aat,o43,o44,abr,o43,Uy,aaH,VU,o43,o44,abc,o43,acj,Xd,XA,o43,o44,UN,o43,Tv,Zr,abF,WY,RI,Rt,acW,Vh] x)
abbrev tree821:X->PySem.W.BT:=λx=>nf (G (G (G tree778 3 [ahm]) 12 [ag0]) 679 [o43,o44,V0,o43,acF,ac8,VI,o43,o44,Xn,Wt,SG,o43,o44,aa9,Sg,aa5,o43,o44,Yq,o43,Rm,Xj,ab7,o43,o44,TM,o43,U4,S0,aa6,o43,o44,V9,acg,aaj,o43,o44,Wu,abe,Uc] x)
abbrev tree898:X->PySem.W.BT:=λx=>nf (G (G (G tree821 3 [ag9]) 12 [ahq]) 720 [o43,o59,Rn,o43,Rh,Zo,abw,o43,o44,aaL,o43,ZQ,UE,aae,o43,o44,abt,o43,Sq,VB,acp,o43,o44,RN,o43,Yy,ade,Rp,o43,o44,aaS,o43,Xz,Vo,abl,o43,o44,aab,o43,ZI,abI,So,o43,o44,Xv,o43,Sx,ZF,SE,o43,o44,ab6,o43,WH,acX,Xp,o43,o44,WN,o43,Su,Ss,Vl,o43,o44,Um,Ui,VG,Ye,ZE,Yd,Yk,Rv,YD,aal] x)
abbrev tree976:X->PySem.W.BT:=λx=>nf (G (G (G tree898 3 [ait]) 12 [aho]) 795 [o43,o44,WC,o43,Wz,aaM,V4,abf,o43,o44,Rj,o43,RW,abo,acm,o43,o44,VC,o43,T8,Tq,aba,o43,o44,SS,o43,aaf,YH,SQ,o43,o44,Wj,XM,VD,o43,o44,abX,o43,Ue,XH,Xc,o43,o44,Si,o43,RP,R9,adm,o43,o44,aaN,o43,Yz,S2,ab2,o43,o44,V5,o43,Vw,abn,Ud,o43,o44,Vp,o43,XF,Zy,Vu,o43,o44,abz,o43,acY,Wd,ack] x)
abbrev tree1033:X->PySem.W.BT:=λx=>nf (G (G (G tree976 3 [ahb]) 12 [ah8]) 871 [o43,o59,XE,o43,YG,aav,abR,o43,o44,aaq,aaO,Tp,YS,VP,adh,aad,acu,ab5,UY,o43,o44,LZ,o43,MB,Jf,My,o43,o44,PR,Pq,NF,o43,o44,LQ,o43,O9,LP,Na,o43,o44,P4,ND,MU,o43,o44,LC,MH,JL,o43,o44,Nj,o43,IX,Mp,Od] x)
abbrev tree1071:X->PySem.W.BT:=λx=>nf (G (G (G tree1033 3 [agc]) 12 [aeo]) 926 [o43,o44,P0,o43,KJ,KI,MI,o43,o44,Pz,o43,IS,Px,Kl,o43,o44,Jd,o43,Lu,Mn,LD,o43,o44,MP,OE,Ju,o43,o44,Pc,Kf,Ji,o43,o44,OC,LM,Lr] x)
abbrev tree1121:X->PySem.W.BT:=λx=>nf (G (G (G tree1071 3 [adw]) 12 [adR]) 962 [IQ,OY,Ov,Me,P7,Nx,Nb,KQ,MM,Kp,O5,LH,OJ,IM,Ow,o43,o44,L3,o43,Lv,OO,PF,o43,o44,Lx,OG,Ja,o43,o44,JM,o43,KN,Ld,IT,o43,o44,Pk,o43,Lb,Lo,KY,o43,o44,JP,o43,Ng,KO,L6] x)
abbrev tree1146:X->PySem.W.BT:=λx=>nf (G (G (G tree1121 3 [aem]) 12 [afc]) 1010 [o43,o59,NC,o43,Ob,JU,OL,o43,o44,PN,o43,JI,Nu,OQ,o43,OU,aeh,Pj,Jv,Ls,MS] x)
abbrev tree1175:X->PySem.W.BT:=λx=>nf (G (G (G (G tree1146 3 [afk]) 12 [adV]) 1026 [afx]) 1031 [j6,o59,Mj,o43,OV,LW,LU,o43,o44,OD,o43,LV,LY,Py,o43,o44,O8,o43,Lk,JE,Ks,Mx,Je,KR,Nh,Ln] x)
abbrev tree1205:X->PySem.W.BT:=λx=>nf (G (G (G (G tree1175 3 [agg]) 12 [adJ]) 1026 [af7]) 1057 [j6,o59,L5,o43,Pd,Pp,K8,nH,o43,o44,KH,o43,Kv,Pg,PK,o43,o44,NQ,o43,OS,OT,Lz,OR,Kz,MX,La,MA] x)
abbrev tree1234:X->PySem.W.BT:=λx=>nf (G (G (G (G tree1205 3 [ad3]) 12 [afA]) 1026 [aee]) 1084 [j6,o59,Jx,o43,OF,Ke,LR,o43,o44,KU,o43,Oa,KS,Oz,o43,o44,O3,o43,Mg,Jh,OA,Js,Ox,L8,Jq,Lq] x)
abbrev tree1259:X->PySem.W.BT:=λx=>nf (G (G (G (G tree1234 3 [adY]) 12 [age]) 1026 [afs]) 1110 [j6,o59,MG,o43,MO,K5,PB,o43,o44,Np,JZ,Jc,o43,o44,Lc,Lj,JO,MK,O4,NI,JB,Pw] x)
abbrev tree1308:X->PySem.W.BT:=λx=>nf (G (G (G (G tree1259 3 [aeb]) 12 [afn]) 1026 [JS]) 1132 [j6,o59,LI,o43,NW,JD,Mf,o43,o44,Ol,o43,OZ,JR,JW,o43,o44,OI,MR,OH,O7,MY,JK,Nr,Mb,o43,o44,Kg,o43,Kw,Mt,LO,o43,o44,Ni,IK,OW,o43,o44,Nv,Oq,NS,o43,o44,LB,NK,OX] x)
abbrev tree1346:X->PySem.W.BT:=λx=>nf (G (G (G tree1308 3 [Kq]) 12 [afP]) 1178 [o43,o44,NO,o43,Lw,IL,Oe,o43,o44,Kh,PV,Jw,o43,o44,JF,o43,Mu,Nt,Mi,o43,o44,Pf,Jm,Jk,o43,o44,K7,IV,P6,o43,o44,MT,o43,Pb,PD,P1] x)
abbrev tree1523:X->PySem.W.BT:=λx=>nf (G (G (G tree1346 3 [afg]) 12 [ae3]) 1214 [o43,o59,Kr,o43,KG,Oh,Li,o43,o44,Oj,o43,K1,JJ,NX,o43,o44,MD,o43,Ml,Lp,Oo,o43,o44,Mz,o43,JA,Mw,KC,o43,o44,O6,o43,IZ,Po,PY,o43,o44,L4,o43,L0,Ph,Lg,o43,o44,MW,o43,Jt,O0,MJ,o43,o44,Mc,o43,K0,JH,PZ,o43,o44,Jo,o43,K6,Oc,KP,o43,o44,Ku,o43,Ka,Jj,LG,o43,o44,Ot,o43,Kd,JV,LK,o43,o44,Nn,o43,JG,ML,Mv,o43,o44,NT,o43,Jb,O1,NH,o43,o44,NG,o43,NR,PJ,Ko,o43,o44,Km,o43,LJ,Nk,NB,nH,o43,o44,JT,o43,IW,Nm,Pu,nH,o43,o44,Nc,o43,Nl,Mm,KW,o43,o44,Ms,o43,Mr,Oi,JC,o43,o44,Lh,o43,LS,OB,NU,o43,o44,NJ,o43,KZ,KA,ME,o43,o44,Jy,o43,Nq,Lm,Pe,o43,o44,Ny,o43,Om,JN,Jl,o43,o44,Mq,o43,Jr,O2,NP,o43,o44,Kc,Jp,Mh,Ou,Jg,Ly,Ma,KD,IY,L1] x)
abbrev tree1607:X->PySem.W.BT:=λx=>nf (G Z 0 [b0,b1,b2,Kq,b4,b5,b6,b7,b8,b9,b10,o43,aeD,o45,o46,o43,o44,o53,o43,o55,o56,o57,o58,o59,o60,o43,o44,o63,o64,o43,o66,W6,o68,o69,o70,o74,o59,o76,o43,o78,o79,o80,o43,o44,o83,o43,o85,o86,o87,o88,o89,o90,o91,o92,o74,o59,o98,o43,ac5,S4,XW,o43,o44,aai,o43,Yx,UQ,ac1,Zg,WL,XI,Tt,aaw,o74,o59,adk,o43,UT,UH,XO,o43,o44,YE,o43,RM,acL,WX,UZ,abh,YO,RH,Wr,o74,o59,YL,o43,ZM,Tn,WW,o43,o44,We,o43,Se,Wb,WG,UJ,adb,ZL,UK,R8,o74,o59,Tc,o43,VY,Wg,abd,o43,o44,Vf,o43,abY,ZP,Tg,Tr,Vs,Zj,Xi,W9,o74,o59,SV,o43,RC,VA,S9,o43,o44,Wi,o43,V2,RD,ZC,TJ,UG,ace,aaD,ZW,o74,o59,Y6,o43,RG,WD,Sd,o43,o44,Wf,o43,RQ,S7,UX,aaI,VJ,Tf,Uk,SW,o74,o59,Td,o43,Y7,acH,RY,o43,o44,Wy,o43,Ze,Xa,WQ,ZG,XR,Zh,adf,Yn,o74,o59,aaT,o43,Ub,ab4,YN,o43,o44,RX,o43,acz,RA,Zc,aaF,UM,Zw,XU,Sn,o74,o59,Zl,o43,o44,ac9,acn,o43,WB,Wl,RZ,abB,o74,o59,abi,o43,XZ,Wk,YC,o43,o44,SY,o43,Yj,WV,ZX,Ws,aac,Y5,ac6,Uo,o74,o59,Yi,o43,SR,aap,abG,o43,o44,ZD,o43,US,abb,Y8,aar,aa4,aaV,abZ,SH,o74,o59,Xg,o43,adg,TX,U3,o43,o44,abJ,o43,T6,Xf,Va,aay,V6,SK,acv,W2,o74,o59,VL,o43,Sz,abv,abq,o43,o44,ac4,o43,ZV,Ug,Uu,adi,Wc,acT,aaJ,Ux,o74,o59,WZ,o43,Vv,ZY,W5,o43,o44,ac3,o43,Zi,ZR,aaE,Yg,Ut,aaQ,acJ,aam,o74,o59,Wa,o43,acU,VM,U9,o43,o44,To,o43,VX,Sj,aby,XG,Tj,aak,YZ,acE,o43,o59,Rf,o43,abW,abS,aaC,o43,o44,Sm,o43,YY,W3,Zt,o43,o44,Vz,WM,Yh,o43,o44,aas,o43,TQ,TN,adl,o43,o44,ab8,o43,abx,Zs,aaX,o43,o44,abK,o43,SD,ZZ,V8,o43,o44,aax,o43,acI,YK,Yp,aan,Rg,YU,Rw,abT,YT,adj,o43,o44,U1,o43,Ul,Zd,Y4,o43,o59,abE,o43,aa8,Te,Xm,o43,o44,Zq,o43,abj,YJ,RO,o43,o44,ZN,o43,Zk,WO,YM,o43,o44,UA,o43,Yo,Up,Wv,o43,o44,Yt,o43,Zz,RU,ab1,o43,o44,V3,o43,Xw,ada,TV,o43,o44,YI,o43,acZ,Zu,WU,o43,o44,UB,o43,Rc,Wq,U8,o43,o44,WA,o43,Yb,SJ,TU,o43,o44,Uh,o43,WK,ZU,aa2,o43,o44,acM,o43,acf,aa0,Ur,Ua,Xh,UO,acR,Wx,abH,Sk,o43,o44,Rk,acC,TY,V7,acK,o43,o44,abC,o43,TR,ZH,Vk,o43,o44,aaR,o43,aaA,Tw,acq,o43,o44,Sw,o43,U5,abU,Rq,o43,o44,Wn,acO,ab3,o43,o44,Xe,o43,acQ,SX,aaK,o43,o44,TF,o43,Zb,Ve,aaz,o43,o44,Ro,o43,Zm,ZK,abu,o43,o44,XY,o43,aaP,Th,YV,o43,o44,Tu,o43,Wh,acy,acD,o43,o59,SI,o43,abQ,R0,W7,o43,o44,Xb,WJ,ab9,o43,o44,YX,o43,W0,Yc,aah,o43,o44,UC,o43,UL,ZA,Yw,o43,o44,XT,o43,Zp,ab0,aa3,UD,T7,abA,Vg,Sv,aag,adn,ED,o59,R7,o43,Uq,UP,Vi,nH,o43,o44,Sf,o43,VO,ach,TZ,o43,o44,Rx,o43,Yr,UR,VT,o43,o44,Xk,o43,Y0,SM,VQ,o43,o44,Ys,Zx,Vn,o43,o44,abp,o43,WS,W4,VR,o43,RL,VS,VZ,ac7,ED,o59,abM,o43,Vx,Xx,Uj,nH,o43,o44,aaW,o43,Sh,U6,Sa,o43,o44,Ti,o43,Wm,acB,aat,o43,o44,abr,o43,Uy,aaH,VU,o43,o44,abc,o43,acj,Xd,XA,o43,o44,UN,o43,Tv,Zr,abF,WY,RI,Rt,acW,Vh,o43,o44,V0,o43,acF,ac8,VI,o43,o44,Xn,Wt,SG,o43,o44,aa9,Sg,aa5,o43,o44,Yq,o43,Rm,Xj,ab7,o43,o44,TM,o43,U4,S0,aa6,o43,o44,V9,acg,aaj,o43,o44,Wu,abe,Uc,o43,o59,Rn,o43,Rh,Zo,abw,o43,o44,aaL,o43,ZQ,UE,aae,o43,o44,abt,o43,Sq,VB,acp,o43,o44,RN,o43,Yy,ade,Rp,o43,o44,aaS,o43,Xz,Vo,abl,o43,o44,aab,o43,ZI,abI,So,o43,o44,Xv,o43,Sx,ZF,SE,o43,o44,ab6,o43,WH,acX,Xp,o43,o44,WN,o43,Su,Ss,Vl,o43,o44,Um,Ui,VG,Ye,ZE,Yd,Yk,Rv,YD,aal,o43,o44,WC,o43,Wz,aaM,V4,abf,o43,o44,Rj,o43,RW,abo,acm,o43,o44,VC,o43,T8,Tq,aba,o43,o44,SS,o43,aaf,YH,SQ,o43,o44,Wj,XM,VD,o43,o44,abX,o43,Ue,XH,Xc,o43,o44,Si,o43,RP,R9,adm,o43,o44,aaN,o43,Yz,S2,ab2,o43,o44,V5,o43,Vw,abn,Ud,o43,o44,Vp,o43,XF,Zy,Vu,o43,o44,abz,o43,acY,Wd,ack,o43,o59,XE,o43,YG,aav,abR,o43,o44,aaq,aaO,Tp,YS,VP,adh,aad,acu,ab5,UY,o43,o44,LZ,o43,MB,Jf,My,o43,o44,PR,Pq,NF,o43,o44,LQ,o43,O9,LP,Na,o43,o44,P4,ND,MU,o43,o44,LC,MH,JL,o43,o44,Nj,o43,IX,Mp,Od,o43,o44,P0,o43,KJ,KI,MI,o43,o44,Pz,o43,IS,Px,Kl,o43,o44,Jd,o43,Lu,Mn,LD,o43,o44,MP,OE,Ju,o43,o44,Pc,Kf,Ji,o43,o44,OC,LM,Lr,IQ,OY,Ov,Me,P7,Nx,Nb,KQ,MM,Kp,O5,LH,OJ,IM,Ow,o43,o44,L3,o43,Lv,OO,PF,o43,o44,Lx,OG,Ja,o43,o44,JM,o43,KN,Ld,IT,o43,o44,Pk,o43,Lb,Lo,KY,o43,o44,JP,o43,Ng,KO,L6,o43,o59,NC,o43,Ob,JU,OL,o43,o44,PN,o43,JI,Nu,OQ,o43,OU,JS,Pj,Jv,Ls,MS,j6,o59,Mj,o43,OV,LW,LU,o43,o44,OD,o43,LV,LY,Py,o43,o44,O8,o43,Lk,JE,Ks,Mx,Je,KR,Nh,Ln,j6,o59,L5,o43,Pd,Pp,K8,nH,o43,o44,KH,o43,Kv,Pg,PK,o43,o44,NQ,o43,OS,OT,Lz,OR,Kz,MX,La,MA,j6,o59,Jx,o43,OF,Ke,LR,o43,o44,KU,o43,Oa,KS,Oz,o43,o44,O3,o43,Mg,Jh,OA,Js,Ox,L8,Jq,Lq,j6,o59,MG,o43,MO,K5,PB,o43,o44,Np,JZ,Jc,o43,o44,Lc,Lj,JO,MK,O4,NI,JB,Pw,j6,o59,LI,o43,NW,JD,Mf,o43,o44,Ol,o43,OZ,JR,JW,o43,o44,OI,MR,OH,O7,MY,JK,Nr,Mb,o43,o44,Kg,o43,Kw,Mt,LO,o43,o44,Ni,IK,OW,o43,o44,Nv,Oq,NS,o43,o44,LB,NK,OX,o43,o44,NO,o43,Lw,IL,Oe,o43,o44,Kh,PV,Jw,o43,o44,JF,o43,Mu,Nt,Mi,o43,o44,Pf,Jm,Jk,o43,o44,K7,IV,P6,o43,o44,MT,o43,Pb,PD,P1,o43,o59,afu,o43,agO,Oh,Li,o43,o44,Oj,o43,K1,JJ,NX,o43,o44,MD,o43,Ml,Lp,Oo,o43,o44,Mz,o43,JA,Mw,KC,o43,o44,O6,o43,IZ,Po,PY,o43,o44,L4,o43,L0,Ph,Lg,o43,o44,MW,o43,Jt,O0,MJ,o43,o44,Mc,o43,K0,JH,PZ,o43,o44,Jo,o43,K6,Oc,KP,o43,o44,Ku,o43,Ka,Jj,LG,o43,o44,Ot,o43,Kd,JV,LK,o43,o44,Nn,o43,JG,ML] x)
abbrev tree1699:X->PySem.W.BT:=λx=>nf (G (G (G (G (G tree1607 3 [afC]) 12 [ae5]) 1216 [Kr]) 1218 [KG]) 1297 [Mv,o43,o44,NT,o43,Jb,O1,NH,o43,o44,NG,o43,NR,PJ,Ko,o43,o44,Km,o43,LJ,Nk,NB,nH,o43,o44,JT,o43,IW,Nm,Pu,nH,o43,o44,Nc,o43,Nl,Mm,KW,o43,o44,Ms,o43,Mr,Oi,JC,o43,o44,Lh,o43,LS,OB,NU,o43,o44,NJ,o43,KZ,KA,ME,o43,o44,Jy,o43,Nq,Lm,Pe,o43,o44,Ny,o43,Om,JN,Jl,o43,o44,Mq,o43,Jr,O2,NP,o43,o44,Kc,Jp,Mh,Ou,Jg,Ly,Ma,KD,IY,L1,o43,o44,afa,o43,adI,adX,af8,o43,o44,agJ,adM,adF,o43,o44,afK,o43,aeZ,afO,agn,o43,o44,ad1,o43,aeW,afN,aez,o43,o44,afY,o43,afz,afw,aea,o43,o44,ad8,o43,agr,ady,afh,o43,o44,afd,ae8,aeL,o43,o44,af2,o43,adE,afG,adq,o43,o44,agN,o43,af4,agA,adP,o43,o44,ad0,o43,agz,agI,af1,o43,o44,aef,o43,af3,adW,af0,o43,o44,agf,o43,agi,afZ,agG,o43,o44,aeI,o43,agb,agm,af5] x)
abbrev tree1734:X->PySem.W.BT:=λx=>nf (G (G (G tree1699 3 [aer]) 12 [agp]) 1476 [o43,o44,aeJ,o43,aeB,afW,agM,o43,o44,agd,agj,agq,o43,o44,agD,o43,agT,aft,aed,o43,o44,ae7,o43,aeH,aeR,afQ,o43,o44,afF,o43,ae4,afM,agy] x)
abbrev tree1736:X->PySem.W.BT:=λx=>nf (G (G tree1734 3 [adu]) 1509 [adN] x)
abbrev tree1794:X->PySem.W.BT:=λx=>nf (G (G (G tree1736 3 [aeG]) 12 [aeE]) 1510 [o43,o59,adL,o43,afJ,adK,afR,o43,o44,agl,o43,afI,ago,agx,o43,o44,aga,o43,aet,aev,afD,adA,ags,ad9,aeq,aeV,aeU,afi,o43,o44,adt,o43,agt,aeu,aeA,o43,o44,adZ,o43,aeK,aeT,afS,o43,o44,ad7,o43,aek,adS,agF,o43,o44,agB,aep,aew] x)
abbrev tree1855:X->PySem.W.BT:=λx=>nf (G (G (G tree1794 3 [aeg]) 12 [aex]) 1564 [o43,o44,aeO,o43,aey,agk,ael,o43,o44,adQ,o43,ad2,afL,aeF,o43,o44,afv,o43,aen,ads,afb,o43,o44,afr,o43,adH,aej,ad5,o43,o44,adU,o43,adx,aeS,afy,o43,o44,adz,afm,afo,o43,o44,aes,o43,agw,aeQ,ae1,o43,o44,aei,o43,agR,aeP,ado,o43,o44,afp,agh,ad6] x)
def heap39:X->PySem.W.Frag:=λx=>nf (pj (fl ((G tree1855 2 [q1]) x)) 0 [2,3,15,17,18,20,21,22,29,30,31,32,35,42,44,45,47,48,49,50,51,54,61,63,64,66,67,68,69,70,73,80,82,83,85,86,87,88,89,92,99,101,102,104,105,106,107,108,111,118,120,121,123,124,125,126,127,130,137,139,140,142,143,144,145,146,149,156,158,159,161,162,163,164,165,168,175,177,178,180,181,182,183,184,187,194,196,197,199,200,201,202,203,206,213,214,215,218,225,227,228,230,231,232,233,234,237,244,246,247,249,250,251,252,253,256,263,265,266,268,269,270,271,272,275,282,284,285,287,288,289,290,291,294,301,303,304,306,307,308,309,310,313,320,322,323,325,326,327,328,329,339,341,342,344,345,346,349,350,351,353,354,356,357,358,360,361,363,364,365,367,368,370,371,372,374,375,377,378,379,380,381,382,383,386,388,389,391,392,400,402,403,405,406,407,409,410,412,413,414,416,417,419,420,421,423,424,426,427,428,430,431,433,434,435,437,438,440,441,442,444,445,447,448,449,451,452,454,455,456,458,459,461,462,463,465,466,468,469,470,471,472,473,474,477,479,480,482,483,484,486,487,489,490,491,493,494,496,497,498,500,501,503,504,505,508,509,510,512,513,515,516,517,519,520,522,523,524,526,527,529,530,531,533,534,536,537,538,540,541,543,544,552,555,556,557,559,560,562,563,564,566,567,569,570,571,573,574,576,577,578,579,580,581,582,585,592,593,595,596,598,599,600,602,603,605,606,607,609,610,612,613,614,617,618,619,621,622,624,625,626,627,628,631,638,639,641,642,644,645,646,648,649,651,652,653,655,656,658,659,660,662,663,665,666,667,669,670,672,673,674,675,676,679,681,682,684,685,686,689,690,691,694,695,696,698,699,701,702,703,705,706,708,709,710,713,714,715,718,719,727,729,730,732,733,734,736,737,739,740,741,743,744,746,747,748,750,751,753,754,755,757,758,760,761,762,764,765,767,768,769,771,772,774,775,776,778,779,781,782,783,786,787,788,789,790,791,792,795,797,798,800,801,802,803,805,806,808,809,810,812,813,815,816,817,819,820,822,823,824,827,828,829,831,832,834,835,836,838,839,841,842,843,845,846,848,849,850,852,853,855,856,857,859,860,862,863,864,866,867,869,870,878,881,882,883,884,885,886,887,890,892,893,895,896,897,900,901,902,904,905,907,908,909,912,913,914,917,918,919,921,922,924,925,926,928,929,931,932,933,935,936,938,939,940,942,943,945,946,947,950,951,952,955,956,957,960,961,962,963,964,965,966,967,968,969,970,971,972,973,974,975,976,977,979,980,982,983,984,987,988,989,991,992,994,995,996,998,999,1001,1002,1003,1005,1006,1008,1009,1017,1019,1020,1022,1023,1024,1025,1026,1027,1028,1031,1038,1040,1041,1043,1044,1045,1047,1048,1050,1051,1052,1053,1054,1057,1064,1065,1067,1068,1070,1071,1072,1074,1075,1077,1078,1079,1080,1081,1084,1091,1093,1094,1096,1097,1098,1100,1101,1103,1104,1105,1106,1107,1110,1117,1120,1121,1122,1125,1126,1127,1128,1129,1132,1139,1141,1142,1144,1145,1146,1149,1150,1151,1152,1153,1156,1158,1159,1161,1162,1163,1166,1167,1168,1171,1172,1173,1176,1177,1178,1180,1181,1183,1184,1185,1188,1189,1190,1192,1193,1195,1196,1197,1200,1201,1202,1205,1206,1207,1209,1210,1212,1213,1221,1223,1224,1226,1227,1228,1230,1231,1233,1234,1235,1237,1238,1240,1241,1242,1244,1245,1247,1248,1249,1251,1252,1254,1255,1256,1258,1259,1261,1262,1263,1265,1266,1268,1269,1270,1272,1273,1275,1276,1277,1279,1280,1282,1283,1284,1286,1287,1289,1290,1291,1293,1294,1296,1297,1298,1300,1301,1303,1304,1305,1307,1308,1310,1311,1312,1314,1315,1317,1318,1319,1320,1322,1323,1325,1326,1327,1328,1330,1331,1333,1334,1335,1337,1338,1340,1341,1342,1344,1345,1347,1348,1349,1351,1352,1354,1355,1356,1358,1359,1361,1362,1363,1365,1366,1368,1369,1370,1372,1373,1375,1376,1377,1380,1381,1382,1383,1384,1385,1386,1389,1391,1392,1394,1395,1396,1399,1400,1401,1403,1404,1406,1407,1408,1410,1411,1413,1414,1415,1417,1418,1420,1421,1422,1424,1425,1427,1428,1429,1432,1433,1434,1436,1437,1439,1440,1441,1443,1444,1446,1447,1448,1450,1451,1453,1454,1455,1457,1458,1460,1461,1462,1464,1465,1467,1468,1469,1471,1472,1474,1475,1476,1478,1479,1481,1482,1483,1486,1487,1488,1490,1491,1493,1494,1495,1497,1498,1500,1501,1502,1504,1505,1507,1508,1509,1517,1519,1520,1522,1523,1524,1526,1527,1529,1530,1531,1532,1533,1534,1535,1538,1540,1541,1543,1544,1545,1547,1548,1550,1551,1552,1554,1555,1557,1558,1559,1562,1563,1564,1566,1567,1569,1570,1571,1573,1574,1576,1577,1578,1580,1581,1583,1584,1585,1587,1588,1590,1591,1592,1594,1595,1597,1598,1599,1602,1603,1604,1606,1607,1609,1610,1611,1613,1614,1616,1617,1618,1621,1622])
def heap46:X->Heap:=λx=>u39 (u40 (nf (fl (tree47 x)))) (u43 u44 u44 u44 0 u45 u44 u15 (u46 u44) u44 0 u15 u15 u15 0 [2000,10,10] u15 0 u31 u44 u44 0 u15)
def heap1856:X->Heap:=λx=>u39 (u40 (nf (fl (tree1855 x)))) (u43 u44 u44 u44 0 u45 u44 u15 (u46 u44) u44 0 u15 u15 u15 0 [2000,10,10] u15 0 u31 u44 u44 0 u15)
end
end Hd
namespace PySem.W.Fast
noncomputable section
noncomputable abbrev hdq{α:Type}(f:Hd.X->α):PySem.Params->α:=λP=>f (PySem.W.Fast.tw13745409909519247493,P)
theorem hdp{α:Type}(f:Hd.X->α):(λP=>f (Hd.hs,P))=hdq f:=congrArg (λσ P=>f (σ,P)) PySem.W.Fast.te13745409909519247493
def tw16788956772028551098:=hdq Hd.heap39
def te16788956772028551098:=hdp Hd.heap39
def tw12848592084223641554:=hdq Hd.heap46
def te12848592084223641554:=hdp Hd.heap46
def tw7656004680914874480:=hdq Hd.tree47
def te7656004680914874480:=hdp Hd.tree47
def tw17837257604446495150:=hdq Hd.tree70
def te17837257604446495150:=hdp Hd.tree70
def tw13740105656552016280:=hdq Hd.tree92
def te13740105656552016280:=hdp Hd.tree92
def tw7053770181127345891:=hdq Hd.tree114
def te7053770181127345891:=hdp Hd.tree114
def tw15510565345527022763:=hdq Hd.tree136
def te15510565345527022763:=hdp Hd.tree136
def tw8747499202875634198:=hdq Hd.tree158
def te8747499202875634198:=hdp Hd.tree158
def tw5867837973814533452:=hdq Hd.tree180
def te5867837973814533452:=hdp Hd.tree180
def tw5343313995665586396:=hdq Hd.tree202
def te5343313995665586396:=hdp Hd.tree202
def tw3783995993468591377:=hdq Hd.tree224
def te3783995993468591377:=hdp Hd.tree224
def tw13633585816695379738:=hdq Hd.tree246
def te13633585816695379738:=hdp Hd.tree246
def tw1608458272473814959:=hdq Hd.tree268
def te1608458272473814959:=hdp Hd.tree268
def tw7561765286491507819:=hdq Hd.tree283
def te7561765286491507819:=hdp Hd.tree283
def tw12682524948032413126:=hdq Hd.tree305
def te12682524948032413126:=hdp Hd.tree305
def tw2746796195732232994:=hdq Hd.tree327
def te2746796195732232994:=hdp Hd.tree327
def tw18367967133932489149:=hdq Hd.tree349
def te18367967133932489149:=hdp Hd.tree349
def tw3659528919859346658:=hdq Hd.tree371
def te3659528919859346658:=hdp Hd.tree371
def tw5887214035333254395:=hdq Hd.tree393
def te5887214035333254395:=hdp Hd.tree393
def tw422017327288124221:=hdq Hd.tree415
def te422017327288124221:=hdp Hd.tree415
def tw3736217942626498997:=hdq Hd.tree471
def te3736217942626498997:=hdp Hd.tree471
def tw9935841136590575033:=hdq Hd.tree480
def te9935841136590575033:=hdp Hd.tree480
def tw17818314747419804455:=hdq Hd.tree566
def te17818314747419804455:=hdp Hd.tree566
def tw7927400740309415555:=hdq Hd.tree636
def te7927400740309415555:=hdp Hd.tree636
def tw1263836457766121856:=hdq Hd.tree678
def te1263836457766121856:=hdp Hd.tree678
def tw8353403428628756660:=hdq Hd.tree727
def te8353403428628756660:=hdp Hd.tree727
def tw9023210640491647688:=hdq Hd.tree778
def te9023210640491647688:=hdp Hd.tree778
def tw8671858894777332896:=hdq Hd.tree821
def te8671858894777332896:=hdp Hd.tree821
def tw12080333654808146679:=hdq Hd.tree898
def te12080333654808146679:=hdp Hd.tree898
def tw9525609100639214964:=hdq Hd.tree976
def te9525609100639214964:=hdp Hd.tree976
def tw2976394710723305213:=hdq Hd.tree1033
def te2976394710723305213:=hdp Hd.tree1033
def tw6867508258123021923:=hdq Hd.tree1071
def te6867508258123021923:=hdp Hd.tree1071
def tw11672326488565035582:=hdq Hd.tree1121
def te11672326488565035582:=hdp Hd.tree1121
def tw4030616700289529772:=hdq Hd.tree1146
def te4030616700289529772:=hdp Hd.tree1146
def tw6379394077588130615:=hdq Hd.tree1175
def te6379394077588130615:=hdp Hd.tree1175
def tw6130652418997215717:=hdq Hd.tree1205
def te6130652418997215717:=hdp Hd.tree1205
def tw14772635039666169171:=hdq Hd.tree1234
def te14772635039666169171:=hdp Hd.tree1234
def tw3817716149462840829:=hdq Hd.tree1259
def te3817716149462840829:=hdp Hd.tree1259
def tw8315292565378424472:=hdq Hd.tree1308
def te8315292565378424472:=hdp Hd.tree1308
def tw17444953292088140610:=hdq Hd.tree1346
def te17444953292088140610:=hdp Hd.tree1346
def tw17310767099384108403:=hdq Hd.tree1523
def te17310767099384108403:=hdp Hd.tree1523
def tw12632451660017281070:=hdq Hd.tree1607
def te12632451660017281070:=hdp Hd.tree1607
def tw7050826469394428068:=hdq Hd.tree1699
def te7050826469394428068:=hdp Hd.tree1699
def tw17477459959468195790:=hdq Hd.tree1734
def te17477459959468195790:=hdp Hd.tree1734
def tw9982707964799721611:=hdq Hd.tree1736
def te9982707964799721611:=hdp Hd.tree1736
def tw8157252767193254386:=hdq Hd.tree1794
def te8157252767193254386:=hdp Hd.tree1794
def tw4651832062422699622:=hdq Hd.tree1855
def te4651832062422699622:=hdp Hd.tree1855
def tw10025753821020760381:=hdq Hd.heap1856
def te10025753821020760381:=hdp Hd.heap1856
end
end PySem.W.Fast
namespace Hd
noncomputable section
abbrev pw:=PySem.Challenge.pw_keepsakes_k89_plans_at_the_desk
def pick(p:PySem.Program)(l:List Nat):List PySem.Stmt:=l.map λi=>p.main.body.getD i (.Pass ⟨0,0,0,0⟩)
def vw(p:PySem.Program)(l:List Nat):PySem.Program:={ p with main:={ p.main with body:=pick p l } }
end
end Hd
namespace PySem.W.Fast
open PySem Hd
noncomputable section
def tw577008743198507088:=pick pw [16]
def te577008743198507088:=@rfl _ tw577008743198507088
def tw3583586025033394984:=pick pw [142,143,144,145,146,147,148,149,150]
def te3583586025033394984:=@rfl _ tw3583586025033394984
def tw12563631594491524077:=pick pw [25]
def te12563631594491524077:=@rfl _ tw12563631594491524077
def tw18186680324814209262:=pick pw [14]
def te18186680324814209262:=@rfl _ tw18186680324814209262
def tw9305307476684050094:=pick pw [87,88,89,90,91,92,93]
def te9305307476684050094:=@rfl _ tw9305307476684050094
def tw2530336570914863362:=pick pw [57]
def te2530336570914863362:=@rfl _ tw2530336570914863362
def tw13921429531491616931:=pick pw [0,1,2,3,4,5,6,7]
def te13921429531491616931:=@rfl _ tw13921429531491616931
def tw5612470827875216516:=pick pw [72,73,74,75,76,77,78]
def te5612470827875216516:=@rfl _ tw5612470827875216516
def tw4169532524973756517:=pick pw [100,101,102,103,104,105,106]
def te4169532524973756517:=@rfl _ tw4169532524973756517
def tw67304863658480379:=pick pw [8]
def te67304863658480379:=@rfl _ tw67304863658480379
def tw4602289299467786458:=pick pw [26,27]
def te4602289299467786458:=@rfl _ tw4602289299467786458
def tw6016686243876007820:=pick pw [21]
def te6016686243876007820:=@rfl _ tw6016686243876007820
def tw10452404946122141384:=pick pw [97]
def te10452404946122141384:=@rfl _ tw10452404946122141384
def tw6899364299778512334:=pick pw [107,108,109,110,111,112,113,114]
def te6899364299778512334:=@rfl _ tw6899364299778512334
def tw4451868485738911650:=pick pw [28]
def te4451868485738911650:=@rfl _ tw4451868485738911650
def tw2919497167665005903:=pick pw [12]
def te2919497167665005903:=@rfl _ tw2919497167665005903
def tw14082993200941851759:=pick pw [18]
def te14082993200941851759:=@rfl _ tw14082993200941851759
def tw16670716515831427572:=pick pw [42]
def te16670716515831427572:=@rfl _ tw16670716515831427572
def tw7101172189384304928:=pick pw [22]
def te7101172189384304928:=@rfl _ tw7101172189384304928
def tw4014479890971511199:=vw pw [0,1,2,3,4,5,7,8,9,10,11,12,13,14,15,16,17,18,19,20,21,22,23,25,26,28,30,31,32,33,34,35,36,37,39,40,42,43,44,45,46,48,49,50,51,52,54,55,57,59,61,62,64,65,66,67,68,69,70,72,73,74,75,76,77,78,79,80,81,83,84,85,87,88,89,90,91,92,93,95,96,97,98,99,100,101,103,104,106,107,108,109,110,112,113,115,116,118,119,120,121,122,123,124,125,126,127,128,129,130,131,132,133,134,135,136,138,139,140,141,142,143,144,145,146,147,148,149,150]
def te4014479890971511199:=@rfl _ tw4014479890971511199
def tw3788986642763390769:=pick pw [19]
def te3788986642763390769:=@rfl _ tw3788986642763390769
def tw10241492606384435174:=pick pw [135]
def te10241492606384435174:=@rfl _ tw10241492606384435174
def tw9588280922436093416:=pick pw [29,30,31,32,33,34,35,36,37,38,39,40,41]
def te9588280922436093416:=@rfl _ tw9588280922436093416
def tw16396223356170492633:=pick pw [45,46,47,48,49,50,51,52,53,54,55,56]
def te16396223356170492633:=@rfl _ tw16396223356170492633
def tw434184141188398810:=pick pw [94,95]
def te434184141188398810:=@rfl _ tw434184141188398810
def tw4973831129642631047:=pick pw [99]
def te4973831129642631047:=@rfl _ tw4973831129642631047
def tw3919409247399442886:=pick pw [79,80,81,82,83,84,85,86]
def te3919409247399442886:=@rfl _ tw3919409247399442886
def tw9133881566130305085:=pick pw [115]
def te9133881566130305085:=@rfl _ tw9133881566130305085
def tw3648335228088128399:=pick pw [58,59,60,61,62,63,64,65,66,67,68,69,70,71]
def te3648335228088128399:=@rfl _ tw3648335228088128399
def tw10080571925501668538:=pick pw [96]
def te10080571925501668538:=@rfl _ tw10080571925501668538
def tw5167689418308290372:=pick pw [98]
def te5167689418308290372:=@rfl _ tw5167689418308290372
def tw7041211663405713017:=pick pw [23,24]
def te7041211663405713017:=@rfl _ tw7041211663405713017
def tw7467106770928958486:=pick pw [44]
def te7467106770928958486:=@rfl _ tw7467106770928958486
def tw10117863672440780574:=pick pw [43]
def te10117863672440780574:=@rfl _ tw10117863672440780574
def tw18384671224252807798:=pick pw [116,117,118,119,120,121,122,123,124,125,126,127,128,129]
def te18384671224252807798:=@rfl _ tw18384671224252807798
def tw9390360362245421429:=pick pw [17]
def te9390360362245421429:=@rfl _ tw9390360362245421429
def tw727278719730785399:=pick pw [15]
def te727278719730785399:=@rfl _ tw727278719730785399
def tw8619671892560189091:=pick pw [10]
def te8619671892560189091:=@rfl _ tw8619671892560189091
def tw15856881458591434186:=pick pw [13]
def te15856881458591434186:=@rfl _ tw15856881458591434186
def tw9142214105156656520:=pick pw [9]
def te9142214105156656520:=@rfl _ tw9142214105156656520
def tw3070950101835936344:=pick pw [20]
def te3070950101835936344:=@rfl _ tw3070950101835936344
def tw5987545948811782894:=pick pw [136,137,138,139,140,141]
def te5987545948811782894:=@rfl _ tw5987545948811782894
def tw2604721391738348105:=pick pw [11]
def te2604721391738348105:=@rfl _ tw2604721391738348105
def tw16607579979573237322:=pick pw [130,131,132,133,134]
def te16607579979573237322:=@rfl _ tw16607579979573237322
end
end PySem.W.Fast
local macro_rules|`(tactic|ac_rfl)=>`(tactic|first|k_is|kit_is|kernel_rfl|decide)
namespace Hk
open PySem PySem.W
def lvO (o:Obj):Option Obj:=match o with
  | ⟨_,_,.freed,_⟩=>none
  | o=>some o
def pk:List Obj -> Nat -> List Nat -> List (Option Obj)
  | [],_,as=>as.map λ_=>none
  | _ :: _,_,[]=>[]
  | o :: r,i,a :: as=>bif Nat.beq a i then lvO o :: pk r (i + 1) as else pk r (i + 1) (a :: as)
theorem pk_at:∀ {l:List Obj} {i:Nat} {as:List Nat} {xs:List Obj},pk l i as = xs.map some -> ∀ (k a:Nat) (x:Obj),as[k]? = some a -> xs[k]? = some x -> ∃ j o,a = i + j /\ l[j]? = some o /\ lvO o = some x
  | [],i,as,xs,h,k,a,x,ha,hx=>by
    have:=congrArg (λl=>l[k]?) h
    simp [pk,ha,hx] at this
  | o :: r,i,[],xs,h,k,a,x,ha,hx=>by simp at ha
  | o :: r,i,b :: as,xs,h,k,a,x,ha,hx=>by
    unfold pk at h
    cases e:Nat.beq b i
    · rw [e] at h
      obtain ⟨j,o',h1,h2,h3⟩:=pk_at h k a x ha hx
      exact ⟨j + 1,o',by omega,by simpa using h2,h3⟩
    · rw [e] at h
      have e:=Nat.eq_of_beq_eq_true e
      subst e
      cases xs with
      | nil=>simp at hx
      | cons y xs =>
        simp only [cond_true,List.map_cons,List.cons.injEq] at h
        cases k with
        | zero =>
          simp at ha hx
          subst ha hx
          exact ⟨0,o,rfl,rfl,h.1⟩
        | succ k =>
          obtain ⟨j,o',h1,h2,h3⟩:=pk_at h.2 k a x (by simpa using ha) (by simpa using hx)
          exact ⟨j + 1,o',by omega,by simpa using h2,h3⟩
theorem get_lv {h:Heap} {a:Nat} {o x:Obj} (e:h.objs.toList[a]? = some o) (l:lvO o = some x):h.get? a = some x:=by
  unfold Heap.get?
  rw [← Array.getElem?_toList,e]
  obtain ⟨c,d,dt,s⟩:=o
  cases dt <;> first | exact l | cases l
theorem pk_map {h:Heap} {as:List Nat} {xs:List Obj} (e:pk h.objs.toList 0 as = xs.map some) (hl:as.length = xs.length):as.map h.get? = xs.map some:=by
  refine List.ext_getElem? λk=>?_
  rw [List.getElem?_map,List.getElem?_map]
  by_cases hk:k < as.length
  · have hx:k < xs.length:=by omega
    obtain ⟨j,o,h1,h2,h3⟩:=pk_at e k as[k] xs[k] (List.getElem?_eq_getElem hk) (List.getElem?_eq_getElem hx)
    rw [List.getElem?_eq_getElem hk,List.getElem?_eq_getElem hx]
    simp only [Option.map_some,Option.some.injEq]
    rw [h1,Nat.zero_add]
    exact get_lv h2 h3
  · rw [List.getElem?_eq_none (by omega),List.getElem?_eq_none (by omega)]; rfl
def qHook (K:Params -> Frag) (as:List Addr) (e:∀ P,as = (K P).map (·.1)) (ts:List Addr):Hook where
  α:=List (Option Obj) × List (Option Obj)
  obs:=λs=>(pk s.heap.objs.toList 0 as,ts.map s.heap.get?)
  val:=λw=>((K w.params).map λp=>some p.2,ts.map λ_=>some (tabObj #[]))
  says:=λw h=>InK K w h /\ ∀ P ∈ ts,h.get? P = some (tabObj #[])
  of:=λw s x=>⟨InK.of e w s (by
    have h1:=(Prod.mk.inj x).1
    have h2:((K w.params).map λp=>some p.2) = ((K w.params).map (·.2)).map some:=by rw [List.map_map]; rfl
    rw [h2] at h1 ⊢
    exact pk_map h1 (by rw [e w.params]; simp)),List.map_inj_left.mp (Prod.mk.inj x).2⟩
  keeps:=λw h h' x k=>⟨InK.keeps w h h' x.1 k,λP hP=>k _ _ (x.2 P hP)⟩
theorem in_of {K:Params -> Frag} {as:List Addr} {e:∀ P,as = (K P).map (·.1)} {ts:List Addr} {w:World} {h:Heap} (Y:(qHook K as e ts).says w h):(K w.params).In h:=Y.1
end Hk
open Lean in
local macro_rules|`(tactic|o_head ($f:ident $k $a $e $t))=>if f.getId.eraseMacroScopes==`kmHook then `(tactic|o_head (Hk.qHook $k $a $e $t)) else Macro.throwUnsupported
set_option maxRecDepth 100000 in
set_option maxHeartbeats 0 in
theorem PySem.Challenge.cw_keepsakes_k89_plans_at_the_desk_holds : PySem.Challenge.rw_keepsakes_k89_plans_at_the_desk.Holds := by
 w_on;o_law;k_head;(case hw=>w_witness2)
 k_fill
 refine Mine.walk (l:=PySem.Challenge.rw_keepsakes_k89_plans_at_the_desk) rfl rfl (λ w h Y=>Hk.in_of Y) ?F
 case F =>
  intro w mg fa h KX G hmg
  refine' Mine.all_mk KX G hmg _ _ _ _ ⟨KX,G,_,_,_,_,_,_,_,_,_,_,_,_,_,_,_,_,_,_,_,_,_,_,_,_,_,_,_,_,_,_,_,_,_,_,_,_,_,_,_,_,_,_,_,_,_,_,_,_,_,_,_,_,_,_,_,_,_,_,_,_,_,_,_,_,_,_,_,_,_,_,_,_,_,_,_,_,_,_,_,_,_,_,_,_,_,_,_,_,_,_,_,_,_,_,_,_,_,_,_,_,_,_,_,_,_,_,_,_,_,_,_,_,_,_,_,_,_,_,_,_,_,_,_,_,_,_,_,_,_,_,_,_,_,_,_,_,_,_,_,_,_,_,_,_,_,_,_,_,_,_,_,_,_,_,_,_,_,_,_,_,_,_,_,_,_,_,_,_,_,_,_,_,_,_,_,_,_,_,_⟩
  all_goals first|(show L2.GF _ _ _;exact⟨_,_,by unfold L2.GA;ac_rfl,⟨⟨_,_,_,_,_,_,_,_,_,rfl,by ac_rfl,by ac_rfl⟩,by ac_rfl⟩⟩)|(show L2.MF _ _ _ _ _;exact⟨_,by unfold L2.FA;ac_rfl,by ac_rfl,_,⟨⟨_,_,_,_,_,_,_,_,_,rfl,by ac_rfl,by ac_rfl⟩,by ac_rfl⟩⟩)|(show L2.MV _ _ _ _ _;exact⟨by ac_rfl,_,⟨⟨_,_,_,_,_,_,_,_,_,rfl,by ac_rfl,by ac_rfl⟩,by ac_rfl⟩⟩)|(show L2.EC _ _;exact⟨⟨by ac_rfl,by ac_rfl,by ac_rfl,by ac_rfl,by ac_rfl,by ac_rfl,by ac_rfl⟩,by ac_rfl⟩)|(show L2.PX _ _;exact⟨⟨by ac_rfl,by ac_rfl,by ac_rfl,by ac_rfl⟩,by ac_rfl,by ac_rfl⟩)|((first|unfold L2.GA|unfold L2.GN|unfold L2.FA|unfold L2.aO|skip);ac_rfl)|skip
