import PyProof.Rows.All
import Wide.All
import OpenK.AllK
import Wide.FinOn
import Lean
import PyProof.EqAt
import PyProof.EqKinds
import PyProof.TupleCall
import PyProof.NeKinds
import PyProof.Rows.SumAny
import PyProof.StrBlockL
import PyProof.StrBlockI
import PyProof.FitsReplace
import PyProof.Rows.SeqMore
import PyProof.Rows.TupAdd
import PyProof.Draws
import PyProof.ZipIter
import OpenK.ZGo
import PyProof.ListNew
import PyProof.Rows.SortStr
import PyProof.Rows.SortWalk
import PyProof.IsRules
import KE.KDictLaws
import PyProof.DictWalks
import PyProof.WalkInts
import PyProof.Rows.SetFrom
import PyProof.SetRoads
import PyProof.CollectIter
import PyProof.Rows.SortShellK
import PyProof.Rows.SortRuns
import PyProof.Rows.SortPure
import PyProof.Rows.SortKeyStr
import PyProof.DictItems
import PyProof.Rows.DictItemsRows
import KE.KPairComp
import PyProof.Rows.BitMore
import PyProof.SeqRoads2
import PySem.Challenge.RW_slicewise_k44_slices_of_several_sets
set_option Elab.async false
set_option linter.all false
set_option genSizeOf false
set_option genSizeOfSpec false
set_option bootstrap.genMatcherCode false
set_option maxRecDepth 100000
set_option maxHeartbeats 8000000
open Lean in
def pT(n:Nat)(s:Syntax):MacroM (TSyntax `rcasesPat):=match n with
 |0=>Macro.throwUnsupported
 |n+1=>match s with
  |`(($a,$b,*))=>do
   let l←(List.toArray (a::b.getElems.toList)).mapM (λx=>pT n x.raw)
   `(rcasesPat|⟨$l,*⟩)
  |`(_)=>`(rcasesPat|_)
  |_=>if s.isIdent then `(rcasesPat|$(.mk s):ident) else Macro.throwUnsupported
local macro_rules|`(tactic|let $p:term:=$e)=>do `(tactic|obtain $(←pT 9 p):rcasesPat:=$e)
local macro_rules|`($a\$b)=>`($a=some $b)
local macro_rules(kind:=Lean.Parser.Command.declaration)|s=>do
 let q←`(command|noncomputable def x:=0)
 if s[0][4].getNumArgs=0&&(s[1].getKind==``Lean.Parser.Command.definition||s[1].getKind==``Lean.Parser.Command.abbrev) then return s.setArg 0 (s[0].setArg 4 q.raw[0][4]) else Lean.Macro.throwUnsupported
local macro_rules|`(#[$x,*])=>`(⟨$x,*⟩)
local macro_rules|`(())=>`(by lia)
set_option hygiene false
local macro_rules|`(9)=>`(rfl)
local macro_rules|`(8)=>`(s.heap.objs.size)
local macro_rules|`(7)=>`(rs.length)
local macro_rules|`(6)=>`((by simp))
local macro_rules|`(5)=>`((.inl rfl))
local macro_rules|`(4)=>`((ν ag))
local macro_rules|`(14)=>`((model prog w))
local macro_rules|`(15)=>`((by decide))
abbrev ζ:=@PySem.wpAny_bind
abbrev η:=@PySem.wpAny_pure
abbrev θ:=@if_neg
abbrev ι:=@if_pos
abbrev μ:=@PyProof.Rows.wpS_bind
abbrev ξ:=@PyProof.Rows.wpS_pure
abbrev ο:=@decide_eq_true
abbrev π:=@PySem.sizeLine_eq
abbrev ς:=@decide_eq_false
abbrev υ:=@PySem.wpAny_call_entry
abbrev ψ:=@PySem.wpAny_callSpecial?_slot
abbrev Δ:=@PySem.wpAny_newObj_type
abbrev Θ:=@of_decide_eq_true
abbrev Ξ:=@PySem.wpAny_setField_rec
abbrev Φ:=@PySem.wpAny_field
abbrev Ω:=@PySem.wpAny_holding
abbrev v9:=@PySem.wpAny_truthy_bool
abbrev zm:=@PySem.wpAny_mono
abbrev aaa:=@congrArg
abbrev aab:=@PySem.wpAny_rule
abbrev aac:=@PySem.wpAny_typeNameOfWhole_itemiter
abbrev aad:=@decide_eq_decide
abbrev aae:=@PyProof.Rows.wpS_forRange
abbrev aaf:=@PySem.wpAny_setField
abbrev aag:=@beq_eq_false_iff_ne
abbrev aah:=@or_false
abbrev aai:=@PySem.wpAny_attempt
abbrev aaj:=@PyProof.Rows.bitNot_nonneg
abbrev aak:=@PySem.wpAny_seqItems
abbrev aal:=@PySem.wpAny_typeNameOf_itemiter
abbrev aam:=@PySem.wpAny_passesOwn
abbrev aan:=@PySem.wpAny_setState_of
abbrev aao:=@PySem.wpAny_getItem_str_slice
abbrev aap:=@PyProof.Rows.wpS_modify
abbrev aaq:=@PySem.codeAny_builtin
abbrev aar:=@decide_eq_true_eq
abbrev aas:=@PySem.wpAny_fieldsOf
abbrev aat:=@PySem.wpAny_askSetting
abbrev aau:=@if_false
abbrev aav:=@PyProof.Rows.bitNot_bitNot
abbrev aaw:=@PySem.wpAny_Call_Name_kw
abbrev aax:=@PySem.codeAny_mono
abbrev aay:=@PySem.wpAny_pyIter_list
abbrev aaz:=@PySem.wpAny_pyIter_slot
abbrev aaA:=@PyProof.Rows.wpS_mono
abbrev aaB:=@PySem.wpAny_isOneOf_itemiter
abbrev aaC:=@PySem.wpAny_isInstance
abbrev aaD:=@PySem.wpAny_updateSeq_pair
abbrev aaE:=@PySem.wpAny_execs_nil
abbrev aaF:=@PySem.post_val_or_str
abbrev aaG:=@PySem.call_meetsIn
abbrev aaH:=@PySem.typeIs_int
abbrev aaI:=@PySem.call_meets
abbrev aaJ:=@PySem.wpAny_newTuple
abbrev aaK:=@PySem.isSubtype_stop
abbrev aaL:=@PySem.tupleKind_room_in1
abbrev aaM:=@PySem.wpAny_of_eq
abbrev aaN:=@bne_self_eq_false
abbrev aaO:=@PySem.wpAny_handled
abbrev aaP:=@PySem.wpAny_onRaise
abbrev aaQ:=@PySem.plainId_quiet
abbrev aaR:=@PySem.wpAny_newList
abbrev aaS:=@beq_iff_eq
abbrev aaT:=@if_true
variable{w:PySem.World}{s s':PySem.Shared}{n i j m t' ep:Nat}{f a C au it dx d:PySem.Addr}{fd:PySem.FuncData}{x qual:PySem.Str}{A:PySem.Around}{P prog:PySem.Program}{e b c iter:PySem.Expr}{α β:Type}{base h h':PySem.Heap}{p apos bM eC p2 pos' tp:PySem.Pos}{u:PySem.Value}{O:HD}{o:PySem.Obj}{y:Int}{B:Prop}{sc:PySem.Scope}{ord:List (Int×PySem.Value)}
abbrev HD:=List (Option PySem.Addr)
abbrev qaa:=List (PySem.Addr×PySem.Obj)
abbrev qad:=PySem.Value->PySem.Shared->Prop
abbrev qae:=PySem.Str->Option PySem.Value
abbrev qaf:=PySem.W.Frag
abbrev qag:=List PySem.Value
abbrev qah:=List PySem.Addr
abbrev χ:=List PySem.Str
abbrev qan:=List Int
abbrev qao:=List Nat
abbrev qap:=List PySem.Expr
abbrev qaq:=List PySem.Stmt
abbrev qar:=Option PySem.Addr
abbrev qav:List PySem.Str:=["program"]
abbrev qaw:List PySem.Str:=["self","program"]
abbrev qax:List PySem.Str:=["place"]
abbrev qay:List PySem.Str:=["layout","place"]
abbrev qaz:List PySem.Str:=["thing"]
abbrev qaA:List PySem.Str:=["rows","row"]
abbrev qaB:List PySem.Str:=["rows"]
abbrev qaC:List PySem.Str:=["row"]
abbrev qaD:List PySem.Str:=["self","names","cells"]
abbrev qaE:List PySem.Str:=["sets","rows","kind"]
abbrev qaF:List PySem.Str:=["layout","names","place"]
abbrev qaG:List PySem.Str:=["layout","sets","place"]
abbrev qaH:List PySem.Str:=["layout"]
abbrev qaI:List PySem.Str:=["program","followers","row","name"]
abbrev qaJ:List PySem.Str:=["layout","function"]
abbrev qaK:List PySem.Str:=["table","home","name"]
abbrev qaL:List PySem.Str:=["facts","place","part"]
abbrev qaM:List PySem.Str:=["facts","getter","setter"]
abbrev qaN:List PySem.Str:=["facts","place"]
abbrev qaO:List PySem.Str:=["layout","other","place"]
abbrev qaP:List PySem.Str:=["facts","place","strict"]
abbrev qaQ:List PySem.Str:=["program","strict"]
abbrev qaR:List PySem.Str:=["net","rows"]
abbrev qaS:List PySem.Str:=["net","ones","others"]
abbrev qaT:List PySem.Str:=["program","rows","strict"]
abbrev qaU:List PySem.Str:=["_law_script","_law_k"]
abbrev qaV:List PySem.Str:=["_law_cell","_law_many"]
abbrev qaW:List PySem.Str:=["_law_number","_law_words_here"]
abbrev qaX:List PySem.Str:=["_law_number","_law_name","_law_words_here","_law_later"]
abbrev qaY:List PySem.Str:=["_law_number","_law_words_here","_law_later"]
abbrev qaZ:List PySem.Str:=["_law_rows","_law_stack","_law_cell","_law_words_here","_law_later"]
abbrev qba:List PySem.Str:=["_law_cell","_law_words_here"]
abbrev qbb:List PySem.Str:=["_law_cells","_law_words_here","_law_plan_here"]
abbrev qbc:List PySem.Str:=["_law_program_here"]
abbrev qbd:List PySem.Str:=["_law_real_here","_law_cell"]
abbrev qbe:List PySem.Str:=["_law_script"]
abbrev gG(x:PySem.Str):Prop:=(x==("__debug__":PySem.Str))=false
abbrev tQ(x:PySem.Str):Prop:=(x==("__classdict__":PySem.Str))=false
abbrev c7:=@List.getElem?_eq_some_iff
abbrev bS:=@List.length_map
abbrev dF:=@PySem.Heap.get?_push_of_some
abbrev eZ:=@List.getElem?_eq_getElem
abbrev cL:=@Nat.le_refl
abbrev fL:=@List.mem_of_getElem?
abbrev fE:=@List.mem_singleton
abbrev dQ:=@List.mem_cons
abbrev fS:=@List.length_append
abbrev fU:=@List.getElem?_map
abbrev hY:=@List.mem_append_left
abbrev gQ:=@PySem.Heap.get?_push_size
abbrev iB:=@List.mem_cons_of_mem
abbrev fM:=@List.mem_append
abbrev iz:=@List.mem_cons_self
abbrev jZ:=@List.mem_append_right
abbrev iC:=@Bool.false_ne_true
abbrev gR:=@List.not_mem_nil
abbrev eS:=@PySem.Heap.lt_size
abbrev iD:=@List.size_toArray
abbrev i_:=@Int.toNat_natCast
abbrev pI:=@List.getElem?_append_left
abbrev fB:=@Nat.zero_le
abbrev qt:=@PySem.F.slot_list_append
abbrev qu:=@PySem.F.type_list_append
abbrev uN:=@List.getElem?_append_right
abbrev qv:=@Int.eq_ofNat_of_zero_le
abbrev hV:=@Nat.ne_of_lt
abbrev vQ:=@List.getD_eq_getElem?_getD
abbrev pJ:=@List.length_range
abbrev nD:=@List.map_append
abbrev nG:=@PySem.PassesOwn.never
abbrev l0:=@PySem.boot_len
abbrev kH:=@List.map_cons
abbrev uO:=@List.getElem?_set_ne
abbrev pK:=@Bool.and_eq_true
abbrev tX:=@List.filterMap_cons
abbrev kJ:=@Nat.le_trans
abbrev tY:=@Nat.lt_of_lt_of_le
abbrev k6:=@List.mem_map
abbrev qw:=@Nat.lt_succ_self
abbrev qx:=@List.nodup_cons
abbrev FD:=@List.getLast?_eq_getElem?
abbrev DE:=@List.getElem?_set_self
abbrev vR:=@List.length_cons
abbrev Bt:=@List.length_dropLast
abbrev DF:=@Array.getElem?_toList
abbrev yD:=@List.append_assoc
abbrev uP:=@PySem.Heap.size_push
abbrev Ib:=@List.getElem?_replicate
abbrev Bj:=@Nat.lt_succ_of_lt
abbrev Bu:=@PySem.W.mg_none_of
abbrev FH:=@Array.length_toList
abbrev FJ:=@Array.toList_append
abbrev yx:=@Bool.true_and
abbrev IG:=@List.getElem?_eq_none
abbrev NL:=@List.length_eq_zero_iff
abbrev Ic:=@List.replicate_succ
abbrev Bv:=@Int.emod_nonneg
abbrev N4:=@Array.getElem?_eq_getElem
abbrev Bm:=@List.mem_range
abbrev NN:=@List.length_replicate
abbrev NO:=@List.length_singleton
abbrev IH:=@PySem.Heap.SameBut.update
abbrev II:=@List.map_congr_left
abbrev FK:=@List.getElem_mem
abbrev yE:=@List.map_map
abbrev IJ:=@Int.emod_lt_of_pos
abbrev Bw:=@PySem.W.mg_of
abbrev Ie:=@List.append_nil
abbrev NP:=@PySem.Obj.data_mapFields
abbrev NQ:=@Bool.false_eq_true
abbrev RU:=@List.getElem?_range
abbrev FL:=@Nat.lt_irrefl
abbrev FN:=@List.any_cons
abbrev Ig:=@Bool.false_and
abbrev RW:=@List.length_filter_le
abbrev RX:=@List.getLast?_concat
abbrev FQ:=@Nat.ne_of_gt
abbrev Ih:=@Bool.false_or
abbrev T2:=@List.getElem?_dropLast
abbrev RY:=@PySem.mem_of_lookup
abbrev XZ:=@List.mem_or_eq_of_mem_set
abbrev NR:=@List.length_zip
abbrev T3:=@PySem.Heap.get?_update_self
abbrev T4:=@List.mem_iff_getElem?
abbrev T5:=@List.perm_append_comm
abbrev YG:=@PySem.F.slot_dict_itemiterator_next
abbrev N5:=@List.length_take
abbrev N6:=@List.lookup_cons
abbrev N7:=@Option.getD_some
abbrev N8:=@List.take_length
abbrev RZ:=@PySem.F.called_set
abbrev Ii:=@Int.zero_add
abbrev NS:=@List.nodup_nil
abbrev X0:=@List.getElem?_cons_zero
abbrev R0:=@List.foldl_append
abbrev N9:=@List.mem_filter
abbrev N_:=@Bool.or_eq_true
abbrev X1:=@List.take_of_length_le
abbrev X2:=@Option.map_eq_some_iff
abbrev R3:=@List.all_eq_true
abbrev X3:=@List.take_append_drop
abbrev T6:=@List.zip_cons_cons
abbrev YH:=@List.drop_eq_getElem_cons
abbrev IK:=@Nat.le_succ
abbrev X4:=@List.getElem?_mapIdx
abbrev X5:=@List.dropLast_concat
abbrev T7:=@List.take_add_one
abbrev YI:=@List.filter_cons_of_pos
abbrev YJ:=@List.filter_cons_of_neg
abbrev YK:=@PySem.F.plainAttrs_dict
abbrev X6:=@List.length_pos_iff
abbrev T8:=@List.any_eq_true
abbrev YL:=@PySem.Calls.callWith_builtin
abbrev ab2:=@PyProof.Rows.callWith_type1
abbrev X7:=@List.set_cons_succ
abbrev ab4:=@PyProof.Rows.F.plain_set_update_loop
abbrev T9:=@PySem.W.kia_one
abbrev YM:=@PySem.Obj.isFreed_of_fields
abbrev T_:=@List.range_succ
abbrev YN:=@PySem.F.slot_dict_get
abbrev R5:=@PySem.Paired.length
abbrev aca:=@PySem.F.slot_tuple_iterator_next
abbrev acb:=@Array.perm_iff_toList_perm
abbrev X8:=@List.flatten_cons
abbrev YO:=@List.mem_iff_getElem
abbrev acf:=@List.pairwise_iff_getElem
abbrev YQ:=@PySem.Around.under_plainId
abbrev YR:=@Array.toList_extract
abbrev X9:=@List.length_drop
abbrev X_:=@Option.bind_some
abbrev R6:=@Nat.min_self
abbrev X':=@List.mem_flatMap
abbrev acn:=@PyProof.Rows.slot_tuple_getitem
abbrev aco:=@PySem.F.plainAttrs_list
abbrev YS:=@PySem.Calls.spliced_cons
abbrev Ya:=@List.find?_cons
abbrev YT:=@List.ext_getElem?
abbrev T':=@Nat.le_of_lt
abbrev acu:=@Bool.beq_eq_decide_eq
abbrev Ua:=@Nat.lt_trans
abbrev acw:=@List.dropLast_concat_getLast
abbrev Ub:=@Nat.lt_or_ge
abbrev Uc:=@Bool.true_or
abbrev acz:=@PySem.F.slot_list_pop
abbrev acA:=@PySem.F.type_list_pop
abbrev acB:=@Array.toList_reverse
abbrev acC:=@List.mem_of_mem_drop
abbrev acD:=@PySem.Heap.get?_update_ne
abbrev YU:=@List.foldl_cons
abbrev YV:=@Bool.eq_iff_iff
abbrev acG:=@PySem.Calls.call_function_entry
abbrev acH:=@List.getElem?_zip_eq_some
abbrev acI:=@Classical.byContradiction
abbrev acJ:=@List.mem_filterMap
abbrev Yb:=@Nat.le_of_eq
abbrev acL:=@PySem.F.args_tuple_add_2
abbrev Yc:=@List.map_nil
abbrev YW:=@Bool.and_false
abbrev acO:=@PySem.F.entry_tuple_add
abbrev acP:=@PySem.F.args_dict_get_3
abbrev acQ:=@Array.toList_push
abbrev acR:=@List.reverse_perm
abbrev acS:=@PySem.F.slot_tuple_add
abbrev acT:=@PySem.F.entry_dict_get
abbrev acU:=@Array.getElem?_eq_none
abbrev acV:=@List.zipWith_cons_cons
abbrev acW:=@Option.getD_none
abbrev acX:=@List.filter_cons
inductive E2{t0 t1:Type}(p:t0->t1->Prop):Prop
 |mk (a:t0) (b:t1) (h:p a b)
inductive E3{t0 t1 t2:Type}(p:t0->t1->t2->Prop):Prop
 |mk (a:t0) (b:t1) (c:t2) (h:p a b c)
inductive E4{t0 t1 t2 t3:Type}(p:t0->t1->t2->t3->Prop):Prop
 |mk (a:t0) (b:t1) (c:t2) (d:t3) (h:p a b c d)
inductive E5{t0 t1 t2 t3 t4:Type}(p:t0->t1->t2->t3->t4->Prop):Prop
 |mk (a:t0) (b:t1) (c:t2) (d:t3) (e:t4) (h:p a b c d e)
inductive E6{t0 t1 t2 t3 t4 t5:Type}(p:t0->t1->t2->t3->t4->t5->Prop):Prop
 |mk (a:t0) (b:t1) (c:t2) (d:t3) (e:t4) (f:t5) (h:p a b c d e f)
inductive E7{t0 t1 t2 t3 t4 t5 t6:Type}(p:t0->t1->t2->t3->t4->t5->t6->Prop):Prop
 |mk (a:t0) (b:t1) (c:t2) (d:t3) (e:t4) (f:t5) (g:t6) (h:p a b c d e f g)
inductive E8{t0 t1 t2 t3 t4 t5 t6 t7:Type}(p:t0->t1->t2->t3->t4->t5->t6->t7->Prop):Prop
 |mk (a:t0) (b:t1) (c:t2) (d:t3) (e:t4) (f:t5) (g:t6) (h:t7) (h:p a b c d e f g h)
inductive E9{t0 t1 t2 t3 t4 t5 t6 t7 t8:Type}(p:t0->t1->t2->t3->t4->t5->t6->t7->t8->Prop):Prop
 |mk (a:t0) (b:t1) (c:t2) (d:t3) (e:t4) (f:t5) (g:t6) (h:t7) (i:t8) (h:p a b c d e f g h i)
inductive E10{t0 t1 t2 t3 t4 t5 t6 t7 t8 t9:Type}(p:t0->t1->t2->t3->t4->t5->t6->t7->t8->t9->Prop):Prop
 |mk (a:t0) (b:t1) (c:t2) (d:t3) (e:t4) (f:t5) (g:t6) (h:t7) (i:t8) (j:t9) (h:p a b c d e f g h i j)
inductive E11{t0 t1 t2 t3 t4 t5 t6 t7 t8 t9 YX:Type}(p:t0->t1->t2->t3->t4->t5->t6->t7->t8->t9->YX->Prop):Prop
 |mk (a:t0) (b:t1) (c:t2) (d:t3) (e:t4) (f:t5) (g:t6) (h:t7) (i:t8) (j:t9) (k:YX) (h:p a b c d e f g h i j k)
inductive E12{t0 t1 t2 t3 t4 t5 t6 t7 t8 t9 YX t11:Type}(p:t0->t1->t2->t3->t4->t5->t6->t7->t8->t9->YX->t11->Prop):Prop
 |mk (a:t0) (b:t1) (c:t2) (d:t3) (e:t4) (f:t5) (g:t6) (h:t7) (i:t8) (j:t9) (k:YX) (l:t11) (h:p a b c d e f g h i j k l)
namespace L2
open PySem PySem.Spec PyProof.Rows
abbrev Key:=Sum Int Str
def uQ:Key->Value->Bool
 |.inl k,v=>Value.isInt k v
 |.inr x,v=>Value.isStrOf x v
def aeX(w:World):Key->Int
 |.inl k=>hashInt k
 |.inr x=>hashStr w x
theorem cS:∀{k:Key}{v:Value},uQ k v=true->(∃i t,k=Sum.inl i/\v=Value.int i t)\/(∃x t,k=Sum.inr x/\v=Value.str x t)
 |.inl i,v,h=>by let(t,e):=Value.isInt_shape h;exact .inl #[i,t,9,e]
 |.inr x,v,h=>by let(t,e):=Value.isStrOf_shape h;exact .inr #[x,t,9,e]
def FR(i:Int)(t:Tok):uQ (.inl i) (.int i t)=true:=by simp[uQ,Value.isInt]
def FT(x:Str)(t:Tok):uQ (.inr x) (.str x t)=true:=by simp[uQ,Value.isStrOf]
def Ud(a b:Int):decide ((Sum.inl a:Key)=Sum.inl b)=(a==b):=by by_cases e:a=b;subst e;simp;have h:¬ (Sum.inl a:Key)=Sum.inl b:=λq=>e (Sum.inl.inj q);rw[ς h];exact (aag.mpr e).symm
def Ue(a b:Str):decide ((Sum.inr a:Key)=Sum.inr b)=decide (a=b):=by by_cases e:a=b;subst e;simp;have h:¬ (Sum.inr a:Key)=Sum.inr b:=λq=>e (Sum.inr.inj q);rw[ς h,ς e]
def Ug(a:Int)(b:Str):decide ((Sum.inl a:Key)=Sum.inr b)=false:=ς (λq=>nomatch q)
def Uh(a:Str)(b:Int):decide ((Sum.inr a:Key)=Sum.inl b)=false:=ς (λq=>nomatch q)
def bN(prog:Program)(w:World):PySem.KeyKind prog w Key where
 is:=uQ
 hash:=aeX w
 inj:=λv a b ha hb=>by
  rcases cS ha with⟨i,t,rfl,rfl⟩|⟨x,t,rfl,rfl⟩
  rcases cS hb with⟨j,u,rfl,e⟩|⟨y,u,rfl,e⟩
  injection e with e1 _;rw[e1]
  exact nomatch e;rcases cS hb with⟨j,u,rfl,e⟩|⟨y,u,rfl,e⟩
  exact nomatch e;injection e with e1 _;rw[e1]
 byValue:=λk v h=>by rcases cS h with⟨i,t,rfl,rfl⟩|⟨x,t,rfl,rfl⟩<;>rfl
 pyHash:=λhv h=>by
  rcases cS hv with⟨i,t,rfl,rfl⟩|⟨x,t,rfl,rfl⟩
  exact wpAny_pyHash_int h;exact wpAny_pyHash_str h
 eqBool:=λhu hv h=>by
  rcases cS hu with⟨i,t,rfl,rfl⟩|⟨x,t,rfl,rfl⟩
  rcases cS hv with⟨j,u,rfl,rfl⟩|⟨y,u,rfl,rfl⟩
  rw[Ud] at h;exact wpAny_eqBool_int h;rw[Ug] at h;exact SeqAt.EqAt.int_str i t y u _ _ _ _ h;rcases cS hv with⟨j,u,rfl,rfl⟩|⟨y,u,rfl,rfl⟩
  rw[Uh] at h;exact SeqAt.EqAt.str_int x t j u _ _ _ _ h;rw[Ue] at h;exact wpAny_eqBool_str h
 «strs»:=λk x t v h=>by
  rcases cS h with⟨i,u,rfl,e⟩|⟨y,u,rfl,e⟩
  exact nomatch e;injection e with e1 _
  subst e1;cases v<;>rfl
def yF(prog:Program)(w:World)(i:Int)(t:Tok):(bN prog w).is (.inl i) (.int i t)=true:=FR i t
def yG(prog:Program)(w:World)(x:Str)(t:Tok):(bN prog w).is (.inr x) (.str x t)=true:=FT x t
inductive V where
 |bY|bl (b:Bool)|int (i:Int)|str (x:Str)|byt (b:Array UInt8)|flt (b:UInt64)|ref (a:Addr)|ty (n:String)
 deriving DecidableEq
def RelV:V->Value->Prop
 |.bY,u=>u=Value.none
 |.bl b,u=>u=Value.bool b
 |.int i,u=>∃t,u=Value.int i t
 |.str x,u=>∃t,u=Value.str x t
 |.byt b,u=>∃t,u=Value.bytes b t
 |.flt b,u=>∃t,u=Value.float b t
 |.ref a,u=>u=Value.ref a
 |.ty n,u=>u=Value.type n
abbrev Vals:List V->qag->Prop:=Paired RelV
def Vals.length{xs:List V}{us:qag}(r:Vals xs us):xs.length=us.length:=R5 r
theorem Vals.get:∀{xs:List V}{us:qag}{i:Nat}{x:V},Vals xs us->xs[i]?\x->∃u,us[i]?\u/\RelV x u
 |_,_,_,_,.nil,e=>by simp at e
 |_,_,0,_,.cons r _,e=>by simp at e;subst e;exact#[_,9,r]
 |_,_,i+1,x,.cons _ t,e=>by let(u,h1,h2):=Vals.get t (by simpa using e);exact#[u,by simpa using h1,h2]
theorem Vals.set{x:V}{u:Value}(r:RelV x u):∀{xs:List V}{us:qag}(i:Nat),Vals xs us->Vals (xs.set i x) (us.set i u)
 |_,_,_,.nil=>.nil
 |_,_,0,.cons _ t=>.cons r t
 |_,_,i+1,.cons q t=>.cons q (Vals.set r i t)
theorem Vals.append:∀{xs ys:List V}{us ws:qag},Vals xs us->Vals ys ws->Vals (xs++ys) (us++ws)
 |_,_,_,_,.nil,s=>s
 |_,_,_,_,.cons r t,s=>.cons r (Vals.append t s)
theorem Vals.take:∀{xs:List V}{us:qag}(n:Nat),Vals xs us->Vals (xs.take n) (us.take n)
 |_,_,0,_=>.nil
 |_,_,_+1,.nil=>.nil
 |_,_,n+1,.cons r t=>.cons r (Vals.take n t)
theorem Vals.drop:∀{xs:List V}{us:qag}(n:Nat),Vals xs us->Vals (xs.drop n) (us.drop n)
 |_,_,0,r=>r
 |_,_,_+1,.nil=>.nil
 |_,_,n+1,.cons _ t=>Vals.drop n t
def l7:Option V->Option Value->Prop
 |some v,some u=>RelV v u
 |none,none=>True
 |_,_=>False
def KV{κ:Type}:List (κ×V)->List (κ×Value)->Prop:=Paired λ(p:κ×V) (q:κ×Value)=>p.1=q.1/\RelV p.2 q.2
def kV:Key->V
 |.inl i=>.int i
 |.inr x=>.str x
inductive HO where
 |lst (xs:List V)
 |tup (xs:List V)
 |dK (bj:List (Key×V))|dT (bj:List (List Key×V))
 |set (S:Int->Bool) (n:Nat)
 |ins (C dx:Addr) (fs:List (Str×V))
 |own (x:Addr)
 |xd (fs:List (Str×V))
 |met (f x:Addr)
 |rng (lo hi:Int)
 |k7 (o:Obj) (u:HO)
 |Ui (ps:Array Value)
 |ext (φ:Heap->Prop)
abbrev Hp:=Addr->Option HO
def upd(H:Hp)(a:Addr)(o:HO):Hp:=λb=>if b=a then some o else H b
def aK{H:Hp}{o:HO}:upd H a o a\o:=by unfold upd;rw[ι 9]
def aG{H:Hp}{b:Addr}{o:HO}(h:b≠a):upd H a o b=H b:=by unfold upd;rw[θ h]
def IL{H:Hp}{b:Addr}{o u:HO}(h:H a\o)(h':H b\u)(d:o≠u):a≠b:=by intro e;subst e;rw[h] at h';exact d (Option.some.inj h')
def bK{H:Hp}{b:Addr}{o:HO}(h:H a\o)(h':H b=none):a≠b:=by intro e;subst e;rw[h] at h';cases h'
section
variable(P:Program)(w:World)
def cb(H:Hp)(h:Heap)(a:Addr):HO->Prop
 |.lst xs=>xs.length<=sizeLine/\∃(aR:qag)(n:Nat),Vals xs aR/\h.get? a=some {cls:=.type "list",data:=.seq aR.toArray n}
 |.tup xs=>xs.length<=sizeLine/\∃aR:qag,Vals xs aR/\IsTup h a aR.toArray
 |.dK bj=>bj.length<=sizeLine/\(a==sysModules)=false/\∃vs,KV bj vs/\h.DictOf (bN P w) a vs
 |.dT bj=>bj.length<=sizeLine/\(a==sysModules)=false/\∃xs:List (List Key×Addr×Value),
  Paired (λ(p:List Key×V) (q:List Key×Addr×Value)=>p.1=q.1/\H q.2.1\.tup (p.1.map kV)/\RelV p.2 q.2.2) bj xs /\
  ∃o es ep,h.get? a\o/\o.ExactDict/\o.data=.dict es ep/\es.toList=xs.map (entryOfKey (tupleKind (bN P w)))/\(xs.map (·.1)).Nodup
 |.set S n=>h.SetOf (intKind P w) a S n
 |.ins C dx fs=>H dx\.own a/\fs.length<=1000/\dx≠a/\h.get? a\W.instObj C dx /\
  ∃mA,h.Ns1 dx mA/\(∀f,l7 (fs.lookup f) (mA f))/\PySem.Within mA (fs.map (·.1))
 |.own _=>∃o,h.get? a\o
 |.xd fs=>∃mA,h.Ns1 a mA/\∀f,l7 (fs.lookup f) (mA f)
 |.rng lo hi=>∃t u v,h.get? a=some {cls:=.type "range",data:=.fields ([.int lo t,.int hi u,.int 1 v].toArray)}
 |.k7 o u=>h.get? a\o/\cb H h a u
 |.Ui ps=>h.get? a=some {cls:=.none,data:=.fields ps}
 |.met f x=>h.get? a\W.methodObj (.ref f) (.ref x)
 |.ext φ=>φ h/\(∃o,h.get? a\o)/\∀h1 h2:Heap,φ h1->(∀o,h1.get? a\o->h2.get? a\o)->φ h2
def kL(H:Hp)(h:Heap):Prop:=∀a o,H a\o->cb P w H h a o
end
section
variable{H H':Hp}{o:HO}
def cb.lt(x:cb P w H h a o):a<h.objs.size:=by
 cases o with
 |lst xs=>let(_,_,_,_,e):=x;exact eS e
 |tup xs=>let(_,_,_,p):=x;exact p.lt
 |dK bj=>let(_,_,_,_,o,_,_,e,_):=x;exact eS e
 |dT bj=>let(_,_,_,_,o,_,_,e,_):=x;exact eS e
 |set S n=>let(o,_,_,_,e,_):=x;exact eS e
 |ins C dx fs=>let(_,_,_,e,_):=x;exact eS e
 |own y=>let(_,e):=x;exact eS e
 |xd fs=>let(_,(_,_,_,e,_),_):=x;exact eS e
 |rng lo hi=>let(_,_,_,e):=x;exact eS e
 |k7 ob u=>let(e,_):=x;exact eS e
 |Ui ps=>exact eS (show h.get? a\_ from x)
 |met f y=>exact eS (show h.get? a\_ from x)
 |ext φ=>let(_,(_,e),_):=x;exact eS e
theorem Paired.pL{α β:Type}{F G:α->β->Prop}:∀{l₁:List α}{l₂:List β},Paired F l₁ l₂->(∀a b,F a b->G a b)->Paired G l₁ l₂
 |_,_,.nil,_=>.nil
 |_,_,.cons r t,f=>.cons (f _ _ r) (Paired.pL t f)
def cb.By(x:cb P w H h a o)(k:∀b u,(b=a\/H b\.own a)->h.get? b\u->h'.get? b\u)(ho:∀b,H b\.own a->H' b\.own a)(ht:∀b xs,H b\.tup xs->H' b\.tup xs):cb P w H' h' a o:=by
 induction o with
 |lst xs=>let(z,aR,n,r,e):=x;exact#[z,aR,n,r,k _ _ 5 e]
 |tup xs=>let(z,aR,r,ob,e,c):=x;exact#[z,aR,r,ob,k _ _ 5 e,c]
 |dK bj=>let(z,y,vs,r,ob,es,ep,e,c):=x;exact#[z,y,vs,r,ob,es,ep,k _ _ 5 e,c]
 |dT bj=>let(z,y,xs,r,ob,es,ep,e,c):=x;exact#[z,y,xs,Paired.pL r λp q z=>#[z.1,ht _ _ z.2.1,z.2.2],ob,es,ep,k _ _ 5 e,c]
 |set S n=>let(ob,es,ep,t,e,c):=x;exact#[ob,es,ep,t,k _ _ 5 e,c]
 |ins C dx fs=>let(d,z,ne,e,mA,(od,es,ep,e2,c),r):=x;exact#[ho _ d,z,ne,k _ _ 5 e,mA,#[od,es,ep,k _ _ (.inr d) e2,c],r]
 |own y=>let(ob,e):=x;exact#[ob,k _ _ 5 e]
 |xd fs=>let(mA,(od,es,ep,e,c),r):=x;exact#[mA,#[od,es,ep,k _ _ 5 e,c],r]
 |rng lo hi=>let(t,u,v,e):=x;exact#[t,u,v,k _ _ 5 e]
 |k7 ob u ih=>let(e,q):=x;exact#[k _ _ 5 e,ih q]
 |Ui ps=>have e:=x;exact k a _ 5 e
 |met f y=>have e:=x;exact k a _ 5 e
 |ext φ=>let(p,(o,e),st):=x;exact#[st _ _ p λo q=>k _ _ 5 q,#[o,k _ _ 5 e],st]
def kL.lt(x:kL P w H h)(e:H a\o):a<h.objs.size:=(x a o e).lt
def kL.fresh(x:kL P w H h)(e:h.objs.size<=a):H a=none:=by
 cases q:H a with
 |none=>rfl
 |some u=>exact absurd (tY (x.lt q) e) (FL _)
def kL.kept(x:kL P w H h)(k:∀b u,h.get? b\u->h'.get? b\u):kL P w H h':=λa o e=>
 (x a o e).By (λb u _ q=>k b u q) (λ_ q=>q) λ_ _ q=>q
def kL.laid(x:kL P w H h)(k:∀b u,h.get? b\u->h'.get? b\u)(hp:h.objs.size<=a)(new:cb P w (upd H a o) h' a o):kL P w (upd H a o) h':=λb u e=>by have hn:=x.fresh hp;by_cases hb:b=a;subst hb;rw[aK] at e;cases e;exact new;rw[aG hb] at e;exact (x b u e).By (λc v _ q=>k c v q) (λc q=>by rw[aG (bK q hn)];exact q) λc xs q=>by rw[aG (bK q hn)];exact q
end
def Rd(H:Hp)(a:Addr)(u:HO):Prop:=H a=some u\/∃o,H a\.k7 o u
def Rd.ok{H:Hp}{u:HO}(r:Rd H a u)(x:kL P w H h):cb P w H h a u:=by
 obtain r|⟨o,r⟩:=r
 exact x a u r;let(_,q):=x a _ r;exact q
def YY:Option HO->Prop
 |some (.lst _)=>True
 |some (.dK _)=>True
 |some (.dT _)=>True
 |some (.set _ _)=>True
 |some (.ins _ _ _)=>True
 |some (.ext _)=>True
 |_=>False
section
variable{H:Hp}{x e:Addr}{o':HO}
def kL.write(ok:kL P w H h)(mu:YY (H x))(he:e=x\/H e\.own x)(k:∀b u,b≠e->h.get? b\u->h'.get? b\u)(R7:∃u,h'.get? e\u)(new:cb P w (upd H x o') h' x o'):kL P w (upd H x o') h':=λb u q=>by
 have YZ:∀c y,H c\.own y->c≠x:=λc y r z=>by subst z;rw[r] at mu;exact mu
 have aeY:∀c xs,H c\.tup xs->c≠x:=λc xs r z=>by subst z;rw[r] at mu;exact mu
 by_cases hb:b=x;subst hb;rw[aK] at q;cases q;exact new;rw[aG hb] at q;by_cases Ik:b=e;have q':H b\.own x:=by
  obtain z|z:=he
  exact absurd (Ik.trans z) hb;rw[Ik];exact z
 rw[q] at q';cases q';let(v,hv):=R7;exact#[v,by rw[Ik];exact hv];refine (ok b u q).By (λc v hc r=>k c v ?_ r) (λc r=>by rw[aG (YZ c b r)];exact r) λc xs r=>by rw[aG (aeY c xs r)];exact r
 obtain rfl|hc:=hc
 exact Ik;rintro rfl;obtain z|z:=he
 exact YZ c b hc z;rw[hc] at z;cases z;exact hb 9
end
structure Un(fs ex:qah)(H H':Hp)(h h':Heap):Prop where
 keep:∀b o,h.get? b\o->H b=none->b∉fs->b∉ex->h'.get? b\o
 slot:∀b o,h.get? b\o->H b=none->b∈fs->b∉ex->∃sl,h'.get? b=some {o with slots:=sl}
 free:∀b o,h.get? b\o->H b=none->b∉ex->H' b=none
 there:∀b o,h.get? b\o->b∉ex->∃o',h'.get? b\o'
 yH:∀b xs,H b\.tup xs->H' b\.tup xs
 vS:∀b o u,H b\.k7 o u->H' b\.k7 o u
 yI:∀b ps,H b\.Ui ps->∃more,H' b\.Ui (ps++more)
section
variable{fs fs' ex ex':qah}{H H1 H2:Hp}{h1 h2:Heap}{x e:Addr}{o:HO}
def Un.any(u:Un fs ex H H1 h h1){b:Addr}{ob:Obj}(q:h.get? b\ob)(n:H b=none)(hx:b∉ex):∃sl,h1.get? b=some {ob with slots:=sl}:=by by_cases hb:b∈fs;exact u.slot b ob q n hb hx;exact#[ob.slots,u.keep b ob q n hb hx]
def Un.kept(k:∀b u,h.get? b\u->h'.get? b\u):Un fs ex H H h h' :=
 #[λb ob q _ _ _=>k b ob q,λb ob q _ _ _=>#[ob.slots,k b ob q],λ_ _ _ n _=>n,λb ob q _=>#[ob,k b ob q],λ_ _ q=>q,λ_ _ _ q=>q,λ_ ps q=>#[([].toArray),by rw[q];simp]]
def Un.refl:Un fs ex H H h h:=Un.kept λ_ _ q=>q
def Un.laid(k:∀b u,h.get? b\u->h'.get? b\u)(hp:h.objs.size<=a)(hn:H a=none):Un fs ex H (upd H a o) h h' where
 keep:=λb u q _ _ _=>k b u q
 slot:=λb u q _ _ _=>#[u.slots,k b u q]
 free:=λb u q n _=>by rw[aG (hV (tY (eS q) hp))];exact n
 there:=λb u q _=>#[u,k b u q]
 yH:=λb xs q=>by rw[aG (bK q hn)];exact q
 vS:=λb u xs q=>by rw[aG (bK q hn)];exact q
 yI:=λb ps q=>#[([].toArray),by rw[aG (bK q hn),q];simp]
def Un.write(mu:YY (H x))(he:e=x\/H e\.own x)(k:∀b u,b≠e->h.get? b\u->h'.get? b\u)(R7:∃u,h'.get? e\u):Un fs ex H (upd H x o) h h':=by
 have hx:∀b,H b=none->b≠x:=λb n z=>by subst z;rw[n] at mu;exact mu
 have hb:∀b,H b=none->b≠e:=λb n z=>by
  subst z;obtain r|r:=he
  exact hx b n r;rw[n] at r;cases r
 have hm:∀b u,H b\u->¬ YY (some u)->b≠x:=λb u q nm z=>by subst z;rw[q] at mu;exact nm mu
 refine#[λb u q n _ _=>k b u (hb b n) q,λb u q n _ _=>#[u.slots,k b u (hb b n) q],λb u q n _=>by rw[aG (hx b n)];exact n,λb u q _=>?_,
  λb xs q=>by rw[aG (hm b _ q λz=>z)];exact q,λb u xs q=>by rw[aG (hm b _ q λz=>z)];exact q,λb ps q=>#[([].toArray),by rw[aG (hm b _ q λz=>z),q];simp]]
 by_cases Ik:b=e;subst Ik;exact R7;exact#[u,k b u Ik q]
end
def trk(h:Heap)(H:Hp):qah:=(List.range h.objs.size).filter λa=>(H a).isSome
def yJ(h:Heap)(H:Hp):Heap:=W.hideAll h (trk h H)
def FU(h:Heap)(H:Hp):(yJ h H).objs.size=h.objs.size:=W.hideAll_size _ _
def IM{H:Hp}{b:Addr}(e:h.get? b\o)(n:H b=none):(yJ h H).get? b\o :=
 W.hideAll_get _ e λhm=>by have q:=(N9.mp hm).2;rw[n] at q;simp at q
def N'{H:Hp}{b:Addr}(e:(yJ h H).get? b\o):h.get? b\o/\H b=none:=by
 have e':=W.of_hideAll (trk h H) e;refine#[e',?_];cases q:H b with
 |none=>rfl
 |some x=>have hm:b∈trk h H:=N9.mpr #[Bm.mpr (eS e'),by simp[q]];have z:(yJ h H).get? b=none:=W.hideAll_none (trk h H) hm;rw[z] at e;cases e
structure Mod(K:qaf)(mg:qae)(base:Heap):Prop where
 kin:K.In base
 glob:base.Ns mainGlobals mg
 blt:∃mb,base.Ns builtinsNs mb/\∀x:Str,x≠"__name__"->mb x=bootBuiltins x
 nolimit:base.NoLimit
structure Cx where
 prog:Program
 w:World
 K:qaf
 mg:qae
 base:Heap
 A:Around
 N:χ
 s₀:Shared
 H₀:Hp
 env:Env
 outer:List Env
 stack:List Env
 ex:qah
 fn:Str->Bool
 calm:Bool
 pn:qaa
 xe:qad
def Il(l:List Env):qah:=l.filterMap (·.frame)
abbrev Cx.fs(X:Cx):qah:=Il X.outer
def nJ(sc:Scope)(x:Str):Prop:=sc.names.lookup x=some .local\/sc.names.lookup x\.cell\/sc.names.lookup x\.free
theorem _root_.jvv{sc x}(h:(match sc.names.lookup x with|some .local|some .cell|some .free=>true|_=>false)=true):nJ sc x:=by unfold nJ;split at h<;>simp_all
def Loc(sc:Scope)(x:Str):Prop:=sc.names.lookup x=some .local\/sc.names.lookup x\.cell
def Look(env:Env)(h:Heap)(m:qae)(x:Str)(u:Value):Prop :=
 (env.kindOf x\.local/\m x\u)\/((env.kindOf x\.cell\/env.kindOf x\.free)/\∃c,env.cells.lookup x\c/\h.IsCell c (some u))
structure Cx.Ok(X:Cx):Prop where
 mod:Mod X.K X.mg X.base
 kind:X.env.scope.kind=.function
 glob:X.env.globals=mainGlobals
 blt:X.env.builtins=builtinsNs
 above:X.s₀.heap.objs.size<=X.env.locals
 inj:∀x y c,X.env.cells.lookup x\c->X.env.cells.lookup y\c->x=y
 has:∀x,(X.env.kindOf x\.cell\/X.env.kindOf x\.free)->∃c,X.env.cells.lookup x\c
 Y4:∀x c,X.fn x=true->X.env.cells.lookup x\c->X.s₀.heap.objs.size<=c
 hd:X.calm=true->X.A.handled=none
 frames:X.A.frames\X.stack
 stk:X.stack=X.outer\/(X.stack=X.env::X.outer/\X.env.frame\X.env.locals)
 exf:∀b∈X.ex,b≠X.env.locals/\∀x c,X.env.cells.lookup x\c->c≠b
 bs:∀b o,X.base.get? b\o->X.s₀.heap.get? b\o/\X.H₀ b=none
 Oa:X.base.objs.size<=X.s₀.heap.objs.size
 IP:∀b o,X.base.get? b\o->b∉X.ex
 Ob:∀b∈X.ex,b∉X.fs
 pM:X.s₀.heap.FunFrames X.base X.outer
 Uj:∀b∈X.fs,X.H₀ b=none
structure Inv(X:Cx)(ε:qaa)(σ:List (Option V))(H:Hp)(s:Shared):Prop where
 ok:X.Ok
 os:s.os=X.s₀.os
 bare:AllBare s.gens
 base:Un X.fs X.ex X.H₀ H X.s₀.heap s.heap
 loc:∃m,s.heap.Ns X.env.locals m/\∀(i:Nat)(x:Str)(v:V),X.N[i]?\x->σ[i]?\some v->nJ X.env.scope x->∃u,RelV v u/\Look X.env s.heap m x u
 cell:∀x c,X.env.cells.lookup x\c->∃v,s.heap.IsCell c v
 free:H X.env.locals=none
 ja:∀x c,X.env.cells.lookup x\c->H c=none
 pin:∀p∈X.pn++ε,s.heap.get? p.1\p.2/\H p.1=none/\p.1≠X.env.locals/\p.1∉X.fs/\∀v,p.2.data≠.cell v
 bZ:kL X.prog X.w H s.heap
 len:σ.length=X.N.length
section
variable{X:Cx}{ε:qaa}{σ:List (Option V)}{H H':Hp}
def Cx.Ok.aeZ(ok:X.Ok){b:Addr}(e:X.base.get? b\o):b∉X.fs:=λhb=>by have:=(ok.pM.mem hb).1;rw[e] at this;cases this
def Inv.bs(I:Inv X ε σ H s):∀b o,X.base.get? b\o->s.heap.get? b\o/\H b=none:=λb o e=>
 #[I.base.keep b o (I.ok.bs b o e).1 (I.ok.bs b o e).2 (I.ok.aeZ e) (I.ok.IP b o e),I.base.free b o (I.ok.bs b o e).1 (I.ok.bs b o e).2 (I.ok.IP b o e)]
def Inv.bk(I:Inv X ε σ H s):∀b o,X.base.get? b\o->s.heap.get? b\o:=λb o e=>(I.bs b o e).1
def Inv.mod(I:Inv X ε σ H s):Mod X.K X.mg X.base:=I.ok.mod
def Inv.vT(I:Inv X ε σ H s):X.K.In s.heap:=I.ok.mod.kin.keeps I.bk
def Inv.lt(I:Inv X ε σ H s):X.env.locals<8:=let #[_,hn,_]:=I.loc;hn.lt
def Inv.sz(I:Inv X ε σ H s):X.s₀.heap.objs.size<=8:=kJ I.ok.above (T' I.lt)
def Inv.ae0(I:Inv X ε σ H s)(h:8<=a):a∉X.fs:=λhb=>by let(_,o,ho,_):=I.ok.pM.mem hb;exact absurd (tY (eS ho) (kJ I.sz h)) (FL _)
def Inv.Oc(I:Inv X ε σ H s):∀x c,X.env.cells.lookup x\c->c≠X.env.locals:=λx c e z=>by let(v,o,ho,hd):=I.cell x c e;let(m,(o',es,ep,qy,hd',_),_):=I.loc;rw[z,qy] at ho;cases ho;rw[hd'] at hd;cases hd
def Inv.pM(I:Inv X ε σ H s):s.heap.FunFrames X.base X.outer:=by
 have all:∀l,(∀b∈Il l,b∈X.fs)->X.s₀.heap.FunFrames X.base l->s.heap.FunFrames X.base l:=by
  intro l;induction l with
  |nil=>intro _ _;trivial
  |cons env r ih=>intro hs hl;let(hk,(L,o,hf,hn,ho,hd),hr):=hl;have hL:=hs L (by unfold Il;rw[tX,hf];exact iz);let(sl,e):=I.base.slot L o ho (I.ok.Uj L hL) hL λz=>I.ok.Ob L z hL;exact#[hk,#[L,_,hf,hn,e,hd],ih (λb hb=>hs b (by unfold Il;rw[tX,hf];exact iB _ hb)) hr]
 exact all X.outer (λ_ hb=>hb) I.ok.pM
def Inv.stack(I:Inv X ε σ H s):s.heap.FunFrames X.base X.stack:=by
 obtain e|⟨e,hf⟩:=I.ok.stk
 rw[e];exact I.pM;rw[e];let(m,hn,_):=I.loc;exact .cons (by rw[I.ok.kind];decide) hf hn (Heap.get?_none_of_le (kJ I.ok.Oa I.ok.above)) I.pM
def Inv.Bz(I:Inv X ε σ H s):∀b∈Il X.stack,b∈X.env.locals::X.fs:=λb hb=>by
 obtain e|⟨e,hf⟩:=I.ok.stk
 rw[e] at hb;exact iB _ hb;rw[e] at hb;unfold Il at hb;rw[tX,hf] at hb;exact hb
def Inv.DG(I:Inv X ε σ H s):∀b∈Il X.stack,H b=none:=λb hb=>by
 rcases dQ.mp (I.Bz b hb) with e|hb
 rw[e];exact I.free;let(_,o,ho,_):=I.ok.pM.mem hb;exact I.base.free b o ho (I.ok.Uj b hb) λz=>I.ok.Ob b z hb
def Inv.step{g':Array GenState}{d':Drawn}{ch:qah}(I:Inv X ε σ H s)(NT:∀b∈ch,(b∈X.ex\/X.s₀.heap.objs.size<=b)/\b≠X.env.locals/\(∀x c,X.env.cells.lookup x\c->c≠b)/\∀p∈X.pn++ε,p.1≠b)(keep:∀b o,b≠X.env.locals->b∉X.fs->b∉ch->s.heap.get? b\o->H b=none->h'.get? b\o)(slot:∀b o,b≠X.env.locals->b∈X.fs->b∉ch->s.heap.get? b\o->H b=none->∃sl,h'.get? b=some {o with slots:=sl})(free:∀b o,b∉ch->s.heap.get? b\o->H b=none->H' b=none)(there:∀b o,b∉ch->s.heap.get? b\o->∃o',h'.get? b\o')(yH:∀b xs,H b\.tup xs->H' b\.tup xs)(vS:∀b o u,H b\.k7 o u->H' b\.k7 o u)(yI:∀b ps,H b\.Ui ps->∃more,H' b\.Ui (ps++more))(ns:∀m,s.heap.Ns X.env.locals m->h'.Ns X.env.locals m)(bZ:kL X.prog X.w H' h')(hg:AllBare g') :
  Inv X ε σ H' {s with heap:=h',gens:=g',drawn:=d',toks:=t'}:=by
 have neL:∀b o,X.s₀.heap.get? b\o->b≠X.env.locals:=λb o e=>hV (tY (eS e) I.ok.above);have neC:∀b o,X.s₀.heap.get? b\o->b∉X.ex->b∉ch:=λb o e hx hb=>by
  rcases (NT b hb).1 with z|z
  exact hx z;exact absurd (tY (eS e) z) (FL _)
 have cellK:∀x c,X.env.cells.lookup x\c->∀v,s.heap.IsCell c v->h'.IsCell c v:=λx c e v #[o,ho,hd]=>by have IQ:=λz=>(NT c z).2.2.1 x c e 9;by_cases hc:c∈X.fs;let(sl,q):=slot c o (I.Oc x c e) hc IQ ho (I.ja x c e);exact#[_,q,hd];exact#[o,keep c o (I.Oc x c e) hc IQ ho (I.ja x c e),hd]
 refine#[I.ok,I.os,hg,#[λb o e n hb hx=>?_,λb o e n hb hx=>?_,λb o e n hx=>?_,λb o e hx=>?_,λb xs e=>yH b xs (I.base.yH b xs e),λb o xs e=>vS b o xs (I.base.vS b o xs e),λb ps e=>?_],?_,λx c e=>?_,?_,λx c e=>?_,λp hp=>?_,bZ,I.len];exact keep b o (neL b o e) hb (neC b o e hx) (I.base.keep b o e n hb hx) (I.base.free b o e n hx);let(sl,e1):=I.base.slot b o e n hb hx;let(sl',e2):=slot b _ (neL b o e) hb (neC b o e hx) e1 (I.base.free b o e n hx);exact#[sl',e2];let(o',e1):=I.base.there b o e hx;exact free b o' (neC b o e hx) e1 (I.base.free b o e n hx);let(o',e1):=I.base.there b o e hx;exact there b o' (neC b o e hx) e1;let(m1,e1):=I.base.yI b ps e;let(m2,e2):=yI b _ e1;exact#[m1++m2,by rw[e2,Array.append_assoc]];let(m,hn,hl):=I.loc;refine#[m,ns m hn,λi x v e1 e2 e3=>?_];let(u,r,l):=hl i x v e1 e2 e3;refine#[u,r,?_];obtain l|⟨k,c,e,z⟩:=l
 exact .inl l;exact .inr #[k,c,e,cellK x c e _ z];let(v,z):=I.cell x c e;exact#[v,cellK x c e v z];let(m,(o,_,_,ho,_),_):=I.loc;exact free _ o (λz=>(NT _ z).2.1 9) ho I.free;let(v,o,ho,hd):=I.cell x c e;exact free c o (λz=>(NT c z).2.2.1 x c e 9) ho (I.ja x c e);let(e,n,ne,nf,d):=I.pin p hp;have IQ:=λz=>(NT p.1 z).2.2.2 p hp 9;exact#[keep p.1 p.2 ne nf IQ e n,free p.1 p.2 IQ e n,ne,nf,d]
def Inv.un(I:Inv X ε σ H s)(u:Un X.fs [] H H' s.heap h')(bZ:kL X.prog X.w H' h'):Inv X ε σ H' {s with heap:=h',toks:=t'}:=by
 let(m,(o,es,ep,ho,r),_):=id I.loc;let(sl,hL):=u.any ho I.free 6;exact I.step (ch:=[]) (λ_ z=>nomatch z) (λb o _ hb _ e n=>u.keep b o e n hb 6) (λb o _ hb _ e n=>u.slot b o e n hb 6) (λb o _ e n=>u.free b o e n 6) (λb o _ e=>u.there b o e 6) u.yH u.vS u.yI (λm' hm=>by let(o',uR,Y5,qy,r'):=hm;rw[ho] at qy;cases qy;exact#[_,uR,Y5,hL,r']) bZ I.bare
def Inv.call{g':Array GenState}{d':Drawn}{ch:qah}(I:Inv X ε σ H s)(u:Un (Il X.stack) ch H H' s.heap h')(bZ:kL X.prog X.w H' h')(hg:AllBare g')(NT:∀b∈ch,(b∈X.ex\/X.s₀.heap.objs.size<=b)/\b≠X.env.locals/\(∀x c,X.env.cells.lookup x\c->c≠b)/\∀p∈X.pn++ε,p.1≠b) :
  Inv X ε σ H' {s with heap:=h',gens:=g',drawn:=d',toks:=t'}:=by
 let(m,(o,es,ep,ho,r),_):=id I.loc;let(sl,hL):=u.any ho I.free λz=>(NT _ z).2.1 9;exact I.step NT (λb o hL hb hc e n=>u.keep b o e n (λz=>(dQ.mp (I.Bz b z)).elim hL hb) hc) (λb o _ _ hc e n=>u.any e n hc) (λb o hc e n=>u.free b o e n hc) (λb o hc e=>u.there b o e hc) u.yH u.vS u.yI (λm' hm=>by let(o',uR,Y5,qy,r'):=hm;rw[ho] at qy;cases qy;exact#[_,uR,Y5,hL,r']) bZ hg
def Inv.turned(I:Inv X ε σ H s)(k:∀b o,b≠it->s.heap.get? b\o->h'.get? b\o)(hn:H it=none)(hL:it≠X.env.locals)(h1:it∈X.ex\/X.s₀.heap.objs.size<=it)(h2:∀x c,X.env.cells.lookup x\c->c≠it)(h3:∀p∈X.pn++ε,p.1≠it):Inv X ε σ H {s with heap:=h',toks:=t'}:=by
 have Od:∀b u,H b\u->b≠it:=λb u e z=>by rw[z,hn] at e;cases e
 refine I.step (ch:=[it]) (λb hb=>?_) (λb o _ _ hc e _=>k b o (λz=>hc (by simp[z])) e) (λb o _ _ hc e _=>#[o.slots,k b o (λz=>hc (by simp[z])) e]) (λ_ _ _ _ n=>n)
  (λb o hc e=>#[o,k b o (λz=>hc (by simp[z])) e]) (λ_ _ e=>e) (λ_ _ _ e=>e) (λb ps e=>#[([].toArray),by rw[e];simp]) (λm hm=>?_) (λb u e=>?_) I.bare
 have e:b=it:=by simpa using hb
 subst e;exact#[h1,hL,h2,h3];let(o,es,ep,ho,r):=hm;exact#[o,es,ep,k _ o (Ne.symm hL) ho,r];refine (I.bZ b u e).By (λc v hc q=>k c v ?_ q) (λ_ q=>q) λ_ _ q=>q;obtain z|z:=hc
 rw[z];exact Od b u e;exact Od c _ z
def Inv.tok(I:Inv X ε σ H s)(t:Nat):Inv X ε σ H {s with toks:=t}:=I.un Un.refl I.bZ
def Inv.kept(I:Inv X ε σ H s)(k:∀b u,s.heap.get? b\u->h'.get? b\u):Inv X ε σ H {s with heap:=h',toks:=t'}:=I.un (Un.kept k) (I.bZ.kept k)
def Inv.laid{o:HO}(I:Inv X ε σ H s)(k:∀b u,s.heap.get? b\u->h'.get? b\u)(hp:8<=a)(new:cb X.prog X.w (upd H a o) h' a o) :
 Inv X ε σ (upd H a o) {s with heap:=h',toks:=t'}:=I.un (Un.laid k hp (I.bZ.fresh hp)) (I.bZ.laid k hp new)
def Inv.write{x e:Addr}{o:HO}(I:Inv X ε σ H s)(mu:YY (H x))(he:e=x\/H e\.own x)(k:∀b u,b≠e->s.heap.get? b\u->h'.get? b\u)(R7:∃u,h'.get? e\u)(new:cb X.prog X.w (upd H x o) h' x o):Inv X ε σ (upd H x o) {s with heap:=h',toks:=t'}:=I.un (Un.write mu he k R7) (I.bZ.write mu he k R7 new)
def Inv.weak{σ':List (Option V)}(I:Inv X ε σ H s)(hl:σ'.length=σ.length)(w:∀(i:Nat) v,σ'[i]?\some v->σ[i]?\some v):Inv X ε σ' H s :=
 #[I.ok,I.os,I.bare,I.base,let #[m,hn,Oe]:=I.loc;#[m,hn,λi x v e1 e2 e3=>Oe i x v e1 (w i v e2) e3],I.cell,I.free,I.ja,I.pin,I.bZ,hl.trans I.len]
def Inv.DH{DI:qaa}(I:Inv X ε σ H s)(h:∀p∈DI,s.heap.get? p.1\p.2/\H p.1=none/\p.1≠X.env.locals/\p.1∉X.fs/\∀v,p.2.data≠.cell v):Inv X DI σ H s :=
 #[I.ok,I.os,I.bare,I.base,I.loc,I.cell,I.free,I.ja,λp hp=>(fM.mp hp).elim (λz=>I.pin p (hY _ z)) (h p),I.bZ,I.len]
def yK{N:χ}(hN:N.Nodup)(a:N[i]?\x)(b:N[j]?\x):i=j:=by let(h1,e1):=c7.mp a;let(h2,e2):=c7.mp b;exact (List.getElem_inj hN).mp (e1.trans e2.symm)
def uS{M:Model}{E:qad}{v:V}{Q:Unit->Shared->Prop}(I:Inv X ε σ H s)(hN:X.N.Nodup)(hi:X.N[i]?\x)(hx:Loc X.env.scope x)(r:RelV v u)(h:∀s',Inv X ε (σ.set i (some v)) H s'->(∃a,Heap.SameBut a s.heap s'.heap/\(a=X.env.locals\/X.env.cells.lookup x\a))->Q Unit.unit s')(hf:X.fn x=true\/X.env.scope.names.lookup x\.local:=by first|exact .inl rfl|exact .inr rfl|assumption):wpAny M A (storeName X.env x u) Q E s:=by
 let(m,hn,hl):=id I.loc;have ae1:(X.env.scope.kind==.class || (X.env.scope.kind==.module && X.env.locals != X.env.globals))=false:=by rw[I.ok.kind];rfl
 have hiσ:i<σ.length:=by rw[I.len];exact (c7.mp hi).1
 have Oc:=I.Oc;have tracked:∀{a:Addr}{h':Heap},(∃o,s.heap.get? a\o/\H a=none)->Heap.SameBut a s.heap h'->kL X.prog X.w H h':=λ{a h'} ha hs b ob e=>by
  let(_,_,R8):=ha;refine (I.bZ b ob e).By (λc w' hc q=>(hs.2 c ?_).trans q) (λ_ q=>q) λ_ _ q=>q;rintro rfl;obtain rfl|hc:=hc
  rw[R8] at e;cases e;rw[R8] at hc;cases hc
 obtain hk|hk:=hx
 refine wpAny_storeName_local hk hn (λh' hn' hs=>?_) ae1;let(oL,_,_,Of,_):=id hn;refine h _ #[I.ok,I.os,I.bare,#[λb o e n hb hx=>?_,λb o e n hb hx=>?_,I.base.free,λb o e hx=>?_,I.base.yH,I.base.vS,I.base.yI],#[_,hn',λj y v' e1 e2 e3=>?_],λy c e=>?_,I.free,I.ja,λp hp=>?_,tracked #[oL,Of,I.free] hs,by simpa using I.len] #[_,hs,.inl 9];exact (hs.2 b (hV (tY (eS e) I.ok.above))).trans (I.base.keep b o e n hb hx);let(sl,e1):=I.base.slot b o e n hb hx;exact#[sl,(hs.2 b (hV (tY (eS e) I.ok.above))).trans e1];let(o',e1):=I.base.there b o e hx;exact#[o',(hs.2 b (hV (tY (eS e) I.ok.above))).trans e1];by_cases hj:j=i;subst hj;rw[hi] at e1;cases e1;rw[DE hiσ] at e2;cases e2;exact#[u,r,.inl #[hk,by simp]];rw[uO (Ne.symm hj)] at e2;let(u',r',q):=hl j y v' e1 e2 e3;refine#[u',r',?_];obtain⟨k,e⟩|⟨k,c,e,z⟩:=q
 refine .inl #[k,?_];have:y≠x:=λe=>hj (yK hN e1 (e▸hi));simp[this,e];exact .inr #[k,c,e,z.sameBut hs (Oc y c e)];let(w',z):=I.cell y c e;exact#[w',z.sameBut hs (Oc y c e)];let(e,n,ne,nf,d):=I.pin p hp;exact#[(hs.2 p.1 ne).trans e,n,ne,nf,d];have hfn:X.fn x=true:=by
  obtain z|z:=hf
  exact z;rw[z] at hk;cases hk
 let(c,hc):=I.ok.has x (.inl hk);let(w',z):=I.cell x c hc;refine wpAny_storeName_cell I.ok.kind hk hc z (λh' tZ hs=>?_);let(oc,hoc,ae2):=id z;refine h {s with heap:=h'} #[I.ok,I.os,I.bare,#[λb o e n hb hx=>?_,λb o e n hb hx=>?_,I.base.free,λb o e hx=>?_,I.base.yH,I.base.vS,I.base.yI],#[m,hn.sameBut hs (Ne.symm (Oc x c hc)),λj y v' e1 e2 e3=>?_],λy c' e=>?_,I.free,I.ja,λp hp=>?_,tracked #[oc,hoc,I.ja x c hc] hs,by simpa using I.len] #[c,hs,.inr hc];exact (hs.2 b (hV (tY (eS e) (I.ok.Y4 x c hfn hc)))).trans (I.base.keep b o e n hb hx);let(sl,e1):=I.base.slot b o e n hb hx;exact#[sl,(hs.2 b (hV (tY (eS e) (I.ok.Y4 x c hfn hc)))).trans e1];let(o',e1):=I.base.there b o e hx;exact#[o',(hs.2 b (hV (tY (eS e) (I.ok.Y4 x c hfn hc)))).trans e1];by_cases hj:j=i;subst hj;rw[hi] at e1;cases e1;rw[DE hiσ] at e2;cases e2;exact#[u,r,.inr #[.inl hk,c,hc,tZ]];rw[uO (Ne.symm hj)] at e2;let(u',r',q):=hl j y v' e1 e2 e3;refine#[u',r',?_];obtain q|⟨k,c',e,z'⟩:=q
 exact .inl q;refine .inr #[k,c',e,z'.sameBut hs ?_];rintro rfl;exact hj (yK hN e1 (I.ok.inj _ _ _ e hc▸hi));by_cases hcc:c'=c;subst hcc;exact#[_,tZ];let(w2,z2):=I.cell y c' e;exact#[w2,z2.sameBut hs hcc];let(e,n,ne,nf,d):=I.pin p hp;refine#[(hs.2 p.1 ?_).trans e,n,ne,nf,d];intro q;rw[q,hoc] at e;have q':=Option.some.inj e;exact d w' (by rw[<- q'];exact ae2)
def qz{M:Model}{E:qad}{v:V}{Q:Unit->Shared->Prop}(I:Inv X ε σ H s)(hN:X.N.Nodup)(hi:X.N[i]?\x)(hx:Loc X.env.scope x)(r:RelV v u)(h:∀s',Inv X ε (σ.set i (some v)) H s'->Q Unit.unit s')(hf:X.fn x=true\/X.env.scope.names.lookup x\.local:=by first|exact .inl rfl|exact .inr rfl|assumption):wpAny M A (storeName X.env x u) Q E s :=
 uS I hN hi hx r (λs' I' _=>h s' I') hf
def Inv.Y6{ch:qah}(I:Inv X ε σ H s)(ho:s'.os=s.os)(u:Un (Il X.stack) ch H H' s.heap s'.heap)(bZ:kL X.prog X.w H' s'.heap)(hg:AllBare s'.gens)(NT:∀b∈ch,(b∈X.ex\/X.s₀.heap.objs.size<=b)/\b≠X.env.locals/\(∀x c,X.env.cells.lookup x\c->c≠b)/\∀p∈X.pn++ε,p.1≠b):Inv X ε σ H' s':=by let(h',g',d',t',o'):=s';have e:=ho;subst e;exact I.call u bZ hg NT
end
abbrev XK:=Value->qar->Hp->Prop
abbrev St:=List (Option V)
abbrev VK:=V->Hp->Prop
abbrev TE:=St->Hp->VK->Prop
abbrev TT:=St->Hp->(Bool->Hp->Prop)->Prop
abbrev TA:=St->Hp->(List V->Hp->Prop)->Prop
structure Ends where
 nx:St->Hp->Prop
 rt:VK
 bk:St->Hp->Prop:=λ_ _=>False
 ct:St->Hp->Prop:=λ_ _=>False
abbrev TS:=Ends->St->Hp->Prop
def EP(X:Cx)(ε:qaa)(σ:St)(Q:VK)(u:Value)(s':Shared):Prop:=∃v H',Inv X ε σ H' s'/\RelV v u/\Q v H'
def TP(X:Cx)(ε:qaa)(σ:St)(Q:Bool->Hp->Prop)(b:Bool)(s':Shared):Prop:=∃H',Inv X ε σ H' s'/\Q b H'
def AP(X:Cx)(ε:qaa)(σ:St)(Q:List V->Hp->Prop)(us:qag)(s':Shared):Prop:=∃vs H',Inv X ε σ H' s'/\Vals vs us/\Q vs H'
def SP(X:Cx)(ε:qaa)(D:Ends)(f:Flow)(s':Shared):Prop :=
 match f with
 |.next=>∃σ' H',Inv X ε σ' H' s'/\D.nx σ' H'
 |.brk=>∃σ' H',Inv X ε σ' H' s'/\D.bk σ' H'
 |.cont=>∃σ' H',Inv X ε σ' H' s'/\D.ct σ' H'
 |.ret u=>∃v σ' H',Inv X ε σ' H' s'/\RelV v u/\D.rt v H'
def PE(X:Cx)(e:Expr)(t:TE):Prop :=
 ∀(ε:qaa)(s:Shared)(σ:St)(H:Hp)(Q:VK),Inv X ε σ H s->t σ H Q->wpAny (model X.prog X.w) X.A (eval e X.env) (EP X ε σ Q) X.xe s
def PT(X:Cx)(e:Expr)(t:TT):Prop :=
 ∀(ε:qaa)(s:Shared)(σ:St)(H:Hp)(Q:Bool->Hp->Prop),Inv X ε σ H s->t σ H Q->wpAny (model X.prog X.w) X.A (isTrue e X.env (eval e X.env)) (TP X ε σ Q) X.xe s
def PW(X:Cx)(e:Expr)(t:TT):Prop :=
 ∀(whole:Sem Value)(ε:qaa)(s:Shared)(σ:St)(H:Hp)(Q:Bool->Hp->Prop),Inv X ε σ H s->t σ H Q->wpAny (model X.prog X.w) X.A (isTrue e X.env whole) (TP X ε σ Q) X.xe s
def PW.pt{X:Cx}{t:TT}(h:PW X e t):PT X e t:=h _
def PA(X:Cx)(es:qap)(t:TA):Prop :=
 ∀(pos:Pos)(ε:qaa)(s:Shared)(σ:St)(H:Hp)(Q:List V->Hp->Prop),Inv X ε σ H s->t σ H Q->wpAny (model X.prog X.w) X.A (spliced (backTo pos (starEach es X.env))) (AP X ε σ Q) X.xe s
def PS(X:Cx)(st:Stmt)(t:TS):Prop :=
 ∀(ε:qaa)(s:Shared)(σ:St)(H:Hp)(D:Ends),Inv X ε σ H s->t D σ H->wpAny (model X.prog X.w) X.A (exec st X.env) (SP X ε D) X.xe s
def ko(X:Cx)(st:qaq)(t:TS):Prop :=
 ∀(ε:qaa)(s:Shared)(σ:St)(H:Hp)(D:Ends),Inv X ε σ H s->t D σ H->wpAny (model X.prog X.w) X.A (execs st X.env) (SP X ε D) X.xe s
def cT{t:Sem α}{Q Q':α->Shared->Prop}{M:Model}{E:qad}(h:wpAny M A t Q E s)(hQ:∀a s,Q a s->Q' a s):wpAny M A t Q' E s:=zm h hQ λ_ _ x=>x
section
variable{X:Cx}
def IS(i:Nat):TE:=λσ H Q=>∃v,σ[i]?\some v/\Q v H
def tC(v:V):TE:=λ_ H Q=>Q v H
def cM{pos:Pos}(hN:X.N[i]?\x)(hv:nJ X.env.scope x)(hd:gG x:=by decide)(fW:tQ x:=by decide):PE X (.Name x pos) (IS i):=by
 intro ε s σ H Q I h;let(v,e,h):=h;let(m,hn,hl):=I.loc;let(u,r,l):=hl i x v hN e hv;have fin:EP X ε σ Q u s:=#[v,H,I,r,h];obtain⟨hk,hm⟩|⟨hk,c,hc,DJ⟩:=l
 exact wpAny_Name (wpAny_loadName_local I.ok.kind hk hn hm fin) hd;obtain hk|hk:=hk
 exact wpAny_Name (wpAny_loadName_cell I.ok.kind hk hc DJ fin) hd;exact wpAny_Name (wpAny_loadName_free I.ok.kind hk hc DJ fin fW) hd
def Uk{i j pos}:PE X (.Constant (.int i) j pos) (tC (.int i)):=λ_ _ _ H _ I h=>wpAny_Constant_int #[.int i,H,I.tok _,#[_,9],h]
def Y7{b j pos}:PE X (.Constant (.bool b) j pos) (tC (.bl b)):=λ_ _ _ H _ I h=>Constant_bool #[.bl b,H,I,9,h]
def Ul{j pos}:PE X (.Constant .none j pos) (tC .bY):=λ_ _ _ H _ I h=>Constant_none #[.bY,H,I,9,h]
def Um{x j pos}:PE X (.Constant (.str x) j pos) (tC (.str x)):=λ_ _ _ H _ I h=>Calls.Constant_str #[.str x,H,I.tok _,#[_,9],h]
def Gl(X:Cx)(x:Str):Prop:=X.env.kindOf x=some .globalImplicit
def vU{E:qad}{ε:qaa}{σ:St}{H:Hp}{pos:Pos}{Q:qad}(I:Inv X ε σ H s)(hg:Gl X x)(hm:X.mg x\u)(h:Q u s)(hd:gG x:=by decide):wpAny (model X.prog X.w) X.A (eval (.Name x pos) X.env) Q E s :=
 Calls.Name_function_global I.ok.kind hg (Calls.loadGlobal_global (by rw[I.ok.glob];exact I.mod.glob.keeps I.bk) hm h) hd
def nK{E:qad}{ε:qaa}{σ:St}{H:Hp}{pos:Pos}{Q:qad}(I:Inv X ε σ H s)(hg:Gl X x)(hm:X.mg x=none)(hv:bootBuiltins x\u)(h:Q u s)(hn:x≠"__name__":=by decide)(hd:gG x:=by decide):wpAny (model X.prog X.w) X.A (eval (.Name x pos) X.env) Q E s:=by let(mb,h1,h2):=I.mod.blt;exact Calls.Name_function_global I.ok.kind hg (Calls.loadGlobal_builtin (by rw[I.ok.glob];exact I.mod.glob.keeps I.bk) hm (by rw[I.ok.blt];exact h1.keeps I.bk) ((h2 x hn).trans hv) h) hd
def DK{v:V}{pos:Pos}(hg:Gl X x)(hm:X.mg x\u)(r:RelV v u)(hd:gG x:=by decide):PE X (.Name x pos) (tC v) :=
 λ_ _ _ H _ I h=>vU I hg hm #[v,H,I,r,h] hd
def Og{v:V}{pos:Pos}(hg:Gl X x)(hm:X.mg x=none)(hv:bootBuiltins x\u)(r:RelV v u)(hn:x≠"__name__":=by decide)(hd:gG x:=by decide):PE X (.Name x pos) (tC v) :=
 λ_ _ _ H _ I h=>nK I hg hm hv #[v,H,I,r,h] hn hd
variable{a:Expr}{ta tb:TE}{pos:Pos}
def tB(t:TE):TT:=λσ H Q=>t σ H λx H1=>∃c,x=.bl c/\Q c H1
def IT{t:TE}(h:PE X e t)(he:∀whole,isTrue e X.env whole=(do let v <- whole;standAt e.pos;holding [v] (truthy v)):=by intro _;rfl):PT X e (tB t):=by intro ε s σ H Q I hw;refine isTrue_plain (cT (h ε s σ H _ I hw) λv s1 #[x,H1,I1,r1,q1]=>?_) (he _);let(d,rfl,q):=q1;cases r1;exact v9 #[H1,I1,q]
variable{tA Y8:TT}{rest:qap}
def ae3(t u:TT):TT:=λσ H Q=>t σ H λc H1=>if c=true then u σ H1 Q else Q false H1
def tOr(t u:TT):TT:=λσ H Q=>t σ H λc H1=>if c=true then Q true H1 else u σ H1 Q
def ae4(t:TT):TT:=λσ H Q=>t σ H λc H1=>Q (!c) H1
def pw_and1(ha:PT X a tA):PW X (.BoolOp .And [a] pos) tA:=by
 intro wh ε s σ H Q I h;refine isTrue_and (cT (ha ε s σ H Q I h) λc s1 e=>?_);cases c with
 |true=>exact isTrue_and_nil e
 |false=>exact e
def pw_or1(ha:PT X a tA):PW X (.BoolOp .Or [a] pos) tA:=by
 intro wh ε s σ H Q I h;refine isTrue_or (cT (ha ε s σ H Q I h) λc s1 e=>?_);cases c with
 |false=>exact isTrue_or_nil e
 |true=>exact e
def pw_and(ha:PT X a tA)(hb:PW X (.BoolOp .And (b::rest) pos) Y8):PW X (.BoolOp .And (a::b::rest) pos) (ae3 tA Y8):=by
 intro wh ε s σ H Q I h;refine isTrue_and (cT (ha ε s σ H _ I h) λc s1 #[H1,I1,q1]=>?_);cases c with
 |true=>exact hb wh ε s1 σ H1 Q I1 q1
 |false=>exact#[H1,I1,q1]
def pw_or(ha:PT X a tA)(hb:PW X (.BoolOp .Or (b::rest) pos) Y8):PW X (.BoolOp .Or (a::b::rest) pos) (tOr tA Y8):=by
 intro wh ε s σ H Q I h;refine isTrue_or (cT (ha ε s σ H _ I h) λc s1 #[H1,I1,q1]=>?_);cases c with
 |true=>exact#[H1,I1,q1]
 |false=>exact hb wh ε s1 σ H1 Q I1 q1
def Uo(ha:PT X a tA):PT X (.UnaryOp .Not a pos) (ae4 tA):=by intro ε s σ H Q I h;exact isTrue_not (ha ε s σ H (λc H1=>Q (!c) H1) I h)
def Y9(ta tb:TE):TE:=λσ H Q=>ta σ H λx H1=>∃c,x=.bl c/\if c=true then tb σ H1 Q else Q (.bl false) H1
def ae5(ta tb:TE):TE:=λσ H Q=>ta σ H λx H1=>∃c,x=.bl c/\if c=true then Q (.bl true) H1 else tb σ H1 Q
def Up{op}{t:TE}(h:PE X a t):PE X (.BoolOp op [a] pos) t:=λε s σ H Q I hw=>BoolOp_one (h ε s σ H Q I hw)
def Uq(ha:PE X a ta)(hb:PE X (.BoolOp .And (b::rest) pos) tb):PE X (.BoolOp .And (a::b::rest) pos) (Y9 ta tb):=by
 intro ε s σ H Q I h;refine BoolOp_and (cT (ha ε s σ H _ I h) λv s1 #[x,H1,I1,r1,q1]=>?_);let(c,rfl,q1):=q1;cases r1;refine v9 ?_;cases c with
 |true=>exact hb ε s1 σ H1 Q I1 q1
 |false=>exact#[.bl false,H1,I1,9,q1]
def Y_(ha:PE X a ta)(hb:PE X (.BoolOp .Or (b::rest) pos) tb):PE X (.BoolOp .Or (a::b::rest) pos) (ae5 ta tb):=by
 intro ε s σ H Q I h;refine BoolOp_or (cT (ha ε s σ H _ I h) λv s1 #[x,H1,I1,r1,q1]=>?_);let(c,rfl,q1):=q1;cases r1;refine v9 ?_;cases c with
 |false=>exact hb ε s1 σ H1 Q I1 q1
 |true=>exact#[.bl true,H1,I1,9,q1]
def tIf(t:TT)(ta tb:TE):TE:=λσ H Q=>t σ H λc H1=>if c=true then ta σ H1 Q else tb σ H1 Q
def IU(hc:PT X c tA)(ha:PE X a ta)(hb:PE X b tb):PE X (.IfExp c a b pos) (tIf tA ta tb):=by
 intro ε s σ H Q I h;refine wpAny_IfExp (cT (hc ε s σ H _ I h) λd s1 #[H1,I1,q1]=>?_);cases d with
 |true=>exact ha ε s1 σ H1 Q I1 q1
 |false=>exact hb ε s1 σ H1 Q I1 q1
end
def f_(K:qaf)(H:Hp)(a:Addr)(xs:List V):Prop :=
 Rd H a (.lst xs) \/
  ∃(o:Obj)(aR:Array Value)(n:Nat),K.lookup a\o/\o.cls=.type "list"/\o.dict=none/\o.data=.seq aR n/\aR.size<=sizeLine/\Vals xs aR.toList
def e_(K:qaf)(H:Hp)(a:Addr)(xs:List V):Prop :=
 Rd H a (.tup xs) \/
  ∃(o:Obj)(aR:Array Value)(n:Nat),K.lookup a\o/\o.cls=.type "tuple"/\o.data=.seq aR n/\aR.size<=sizeLine/\Vals xs aR.toList
def ae6:Value->Option V
 |.none=>some .bY
 |.bool b=>some (.bl b)
 |.int i _=>some (.int i)
 |.str x _=>some (.str x)
 |.bytes b _=>some (.byt b)
 |.float b _=>some (.flt b)
 |.ref a=>some (.ref a)
 |.type n=>some (.ty n)
 |_=>none
def RelV.abs{x:V}(r:RelV x u):ae6 u\x:=by
 cases x with
 |bY=>cases r;rfl
 |bl _=>cases r;rfl
 |ref _=>cases r;rfl
 |ty _=>cases r;rfl
 |_=>let(t,rfl):=r;rfl
def RelV.inj{x y:V}(r:RelV x u)(q:RelV y u):x=y:=Option.some.inj (r.abs.symm.trans q.abs)
theorem Vals.inj:∀{xs ys:List V}{us:qag},Vals xs us->Vals ys us->xs=ys
 |_,_,_,.nil,.nil=>rfl
 |_,_,_,.cons r t,.cons r' t'=>by rw[r.inj r',Vals.inj t t']
section
variable{X:Cx}{ε:qaa}{σ:St}{H:Hp}{xs ys:List V}
def f_.of{K:qaf}(h:H a\.lst xs):f_ K H a xs:=.inl (.inl h)
def e_.of{K:qaf}(h:H a\.tup xs):e_ K H a xs:=.inl (.inl h)
theorem Inv.list(I:Inv X ε σ H s)(h:f_ X.K H a xs):∃aR:qag,Vals xs aR/\PlainL s.heap a aR.toArray/\xs.length<=sizeLine:=by
 obtain h|⟨o,aR,n,hk,hc,hd,hs,hz,r⟩:=h
 let(z,aR,n,r,e):=h.ok I.bZ;exact#[aR,r,#[_,n,e,9,9,9],z];refine#[aR.toList,r,#[o,n,I.vT a o hk,hc,hd,by simpa using hs],?_];have e:=r.length;simp only[FH] at e
 lia
theorem Inv.tuple(I:Inv X ε σ H s)(h:e_ X.K H a xs):∃aR:qag,Vals xs aR/\IsTup s.heap a aR.toArray/\xs.length<=sizeLine:=by
 obtain h|⟨o,aR,n,hk,hc,hs,hz,r⟩:=h
 let(z,aR,r,p):=h.ok I.bZ;exact#[aR,r,p,z];refine#[aR.toList,r,#[o,I.vT a o hk,hc,n,by simpa using hs],?_];have e:=r.length;simp only[FH] at e
 lia
def Inv.qA(I:Inv X ε σ H s)(h:f_ X.K H a xs)(h':f_ X.K H a ys):xs=ys:=by
 let(aR,r,(o,n,e,_,_,d),_):=I.list h;let(its',r',(o',n',e',_,_,d'),_):=I.list h';rw[e] at e';cases e';rw[d] at d';injection d' with d1 _
 have:aR=its':=by simpa using aaa Array.toList d1
 subst this;exact r.inj r'
def Inv.uT(I:Inv X ε σ H s)(h:e_ X.K H a xs)(h':e_ X.K H a ys):xs=ys:=by
 let(aR,r,(o,e,_,n,d),_):=I.tuple h;let(its',r',(o',e',_,n',d'),_):=I.tuple h';rw[e] at e';cases e';rw[d] at d';injection d' with d1 _
 have:aR=its':=by simpa using aaa Array.toList d1
 subst this;exact r.inj r'
end
abbrev Cx.t_(X:Cx)(E:qad):Cx:={X with xe:=E}
abbrev Cx.vV(X:Cx):Cx:=X.t_ λ_ _=>False
def Cx.Ok.t_{X:Cx}(ok:X.Ok)(E:qad):(X.t_ E).Ok :=
 #[ok.mod,ok.kind,ok.glob,ok.blt,ok.above,ok.inj,ok.has,ok.Y4,ok.hd,ok.frames,ok.stk,ok.exf,ok.bs,ok.Oa,ok.IP,ok.Ob,ok.pM,ok.Uj]
def Cx.Ok.nL{X:Cx}{E:qad}(ok:(X.t_ E).Ok):X.Ok :=
 #[ok.mod,ok.kind,ok.glob,ok.blt,ok.above,ok.inj,ok.has,ok.Y4,ok.hd,ok.frames,ok.stk,ok.exf,ok.bs,ok.Oa,ok.IP,ok.Ob,ok.pM,ok.Uj]
section
variable{X:Cx}{ε:qaa}{σ:St}{H:Hp}{E:qad}
def Inv.t_(I:Inv X ε σ H s)(E:qad):Inv (X.t_ E) ε σ H s:=#[I.ok.t_ E,I.os,I.bare,I.base,I.loc,I.cell,I.free,I.ja,I.pin,I.bZ,I.len]
def Inv.nL(I:Inv (X.t_ E) ε σ H s):Inv X ε σ H s:=#[I.ok.nL,I.os,I.bare,I.base,I.loc,I.cell,I.free,I.ja,I.pin,I.bZ,I.len]
def SP.nL{D:Ends}{f:Flow}(h:SP (X.t_ E) ε D f s'):SP X ε D f s':=by
 cases f with
 |ret u=>let(v,σ',H',I,r,q):=h;exact#[v,σ',H',I.nL,r,q]
 |_=>let(σ',H',I,q):=h;exact#[σ',H',I.nL,q]
def ko.vV{st:qaq}{t:TS}(h:ko X.vV st t):ko X st t:=λε s σ H D I hw=>
 zm (h ε s σ H D (I.t_ _) hw) (λ_ _ q=>q.nL) λ_ _ z=>False.elim z
end
section
variable{X:Cx}{st:Stmt}{rest:qaq}{t u:TS}{te:TE}{pos:Pos}
def R9:TS:=λD σ H=>D.nx σ H
def ae7(t u:TS):TS:=λD σ H=>t {D with nx:=u D} σ H
def DM:ko X [] R9:=λ_ _ σ H _ I h=>aaE #[σ,H,I,h]
def jm(h1:PS X st t)(h2:ko X rest u):ko X (st::rest) (ae7 t u):=by
 intro ε s σ H D I h;refine wpAny_execs_cons (cT (h1 ε s σ H {D with nx:=u D} I h) λf s1 q=>?_);cases f with
 |next=>let(σ',H',I',q):=q;exact h2 ε s1 σ' H' D I' q
 |ret v=>exact q
 |_=>exact q
def l8(h1:PS X st t):ko X [st] t:=by
 intro ε s σ H D I h;refine wpAny_execs_cons (cT (h1 ε s σ H D I h) λf s1 q=>?_);cases f with
 |next=>exact aaE q
 |ret v=>exact q
 |_=>exact q
def Oh:PS X (.Pass pos) R9:=λ_ _ σ H _ I h=>wpAny_Pass #[σ,H,I,h]
def Inv.quiet{ε:qaa}{σ:St}{H:Hp}(I:Inv X ε σ H s):interactive X.env=false:=by simp[interactive,I.ok.kind]
def Y'(te:TE):TS:=λD σ H=>te σ H λ_ H1=>D.nx σ H1
def Oi(he:PE X e te)(hs:swapsWith e none pos.line X.env=pure false:=by rfl):PS X (.Expr e pos) (Y' te):=by intro ε s σ H D I h;exact wpAny_Expr_any (cT (he ε s σ H _ I h) λv s1 #[x,H1,I1,r1,q1]=>#[σ,H1,I1,q1]) I.quiet hs
def ae8(te:TE):TS:=λD σ H=>te σ H D.rt
def BA(he:PE X e te):PS X (.Return (some e) pos) (ae8 te):=by intro ε s σ H D I h;exact wpAny_Return_some (cT (he ε s σ H _ I h) λv s1 #[x,H1,I1,r1,q1]=>#[x,σ,H1,I1,r1,q1])
def ae9(c:TT)(t u:TS):TS:=λD σ H=>c σ H λb H1=>if b=true then t D σ H1 else u D σ H1
def R_{a b:qaq}{tc:TT}(hc:PT X c tc)(ha:ko X a t)(hb:ko X b u):PS X (.If c a b pos) (ae9 tc t u):=by
 intro ε s σ H D I h;refine wpAny_If (cT (hc ε s σ H _ I h) λd s1 #[H1,I1,q1]=>?_);cases d with
 |true=>exact ha ε s1 σ H1 D I1 q1
 |false=>exact hb ε s1 σ H1 D I1 q1
end
abbrev TG:=V->St->Hp->(St->Hp->Prop)->Prop
abbrev Oj:=List V->St->Hp->(St->Hp->Prop)->Prop
def PG(X:Cx)(target:Expr)(t:TG):Prop :=
 ∀(ε:qaa)(s:Shared)(σ:St)(H:Hp)(v:V)(u:Value)(Q:St->Hp->Prop),Inv X ε σ H s->RelV v u->t v σ H Q ->
  wpAny (model X.prog X.w) X.A (assign target X.env u) (λ_ s'=>∃σ' H',Inv X ε σ' H' s'/\Q σ' H') X.xe s
def IV(X:Cx)(ts:qap)(t:Oj):Prop :=
 ∀(ε:qaa)(s:Shared)(σ:St)(H:Hp)(vs:List V)(us:qag)(Q:St->Hp->Prop),Inv X ε σ H s->Vals vs us->t vs σ H Q ->
  wpAny (model X.prog X.w) X.A (assignInOrder ((assignEach ts X.env).map (·.2)) us) (λ_ s'=>∃σ' H',Inv X ε σ' H' s'/\Q σ' H') X.xe s
abbrev IW:=V->V->V->Hp->(Hp->Prop)->Prop
def Ur(X:Cx)(t:IW):Prop :=
 ∀(ε:qaa)(s:Shared)(σ:St)(H:Hp)(o i v:V)(ov iv u:Value)(Q:Hp->Prop),Inv X ε σ H s->RelV o ov->RelV i iv->RelV v u->t o i v H Q ->
  wpAny (model X.prog X.w) X.A (setItem ov iv u) (λ_ s'=>∃H',Inv X ε σ H' s'/\Q H') X.xe s
abbrev Za:=V->V->Hp->VK->Prop
def PIp(X:Cx)(op:Operator)(t:Za):Prop :=
 ∀(ε:qaa)(s:Shared)(σ:St)(H:Hp)(x y:V)(v u:Value)(Q:VK),Inv X ε σ H s->RelV x v->RelV y u->t x y H Q ->
  wpAny (model X.prog X.w) X.A (inplaceOp op v u) (EP X ε σ Q) X.xe s
section
variable{X:Cx}{pos:Pos}
def l9(i:Nat):TG:=λv σ H Q=>Q (σ.set i (some v)) H
def Ol(hN:X.N.Nodup)(hi:X.N[i]?\x)(hx:Loc X.env.scope x)(hf:X.fn x=true\/X.env.scope.names.lookup x\.local:=by first|exact .inl rfl|exact .inr rfl|assumption):PG X (.Name x pos) (l9 i):=by intro ε s σ H v u Q I r h;exact wpAny_assign_Name (qz I hN hi hx r (λs' I'=>#[_,H,I',h]) hf)
def afa:Oj:=λvs σ H Q=>vs=[]/\Q σ H
def Zb(t:TG)(u:Oj):Oj:=λvs σ H Q=>∃v r,vs=v::r/\t v σ H λσ' H'=>u r σ' H' Q
def Om:IV X [] afa:=by intro ε s σ H vs us Q I r h;let(e,h):=h;subst e;cases r;exact assignInOrder_nil #[σ,H,I,h]
def IX{es:qap}{t:TG}{u:Oj}(h1:PG X e t)(h2:IV X es u)(hs:(assignEach (e::es) X.env).map (·.2)=assign e X.env::(assignEach es X.env).map (·.2):=by rfl):IV X (e::es) (Zb t u):=by
 intro ε s σ H vs us Q I r h;let(v,vr,e1,h):=h;subst e1;cases r with
 |cons r rr=>rw[hs];exact assignInOrder_cons (cT (h1 ε s σ H _ _ _ I r h) λ_ s1 #[σ1,H1,I1,q1]=>h2 ε s1 σ1 H1 _ _ Q I1 rr q1)
def afb(K:qaf)(n:Nat)(t:Oj):TG:=λv σ H Q=>∃a xs,v=.ref a/\e_ K H a xs/\xs.length=n/\t xs σ H Q
def Ut{es:qap}{k:Nat}{t:Oj}(hc:X.calm=true)(h:IV X es t)(hn:(assignEach es X.env).length=n:=by rfl)(yL:(assignEach es X.env).findIdx? (·.1)=none:=by rfl):PG X (.Tuple es k pos) (afb X.K n t):=by intro ε s σ H v u Q I r hw;let(a,xs,e1,hq,hl,hw):=hw;subst e1;cases r;let(aR,rv,ht,hz):=I.tuple hq;refine assign_Tuple_tuple (I.ok.hd hc) ht (by simp[hn,<- hl,rv.length]) yL λh' hx=>?_;have I1:=I.kept (t':=s.toks) λb o e=>hx b o (hV (eS e)) e;exact h ε _ σ H xs _ Q I1 (by simpa using rv) hw
def afc(to ti:TE)(t:IW):TG:=λv σ H Q=>to σ H λo H1=>ti σ H1 λi H2=>t o i v H2 λH3=>Q σ H3
def Uu{o i:Expr}{to ti:TE}{t:IW}(ho:PE X o to)(hi:PE X i ti)(hs:Ur X t)(ha:∀v,assign (.Subscript o i pos) X.env v=(do
    let ov <- holding [v] (eval o X.env)
    let iv <- holding [v,ov] (eval i X.env)
    standAt pos
    holding [v,ov,iv] (setItem ov iv v)
    release [v,ov,iv] []):=by intro _;rfl):PG X (.Subscript o i pos) (afc to ti t):=by
 intro ε s σ H v u Q I r h;exact ζ (Ω (cT (ho ε s σ H _ I h) λov s1 #[x,H1,I1,r1,q1]=>ζ (Ω (cT (hi ε s1 σ H1 _ I1 q1) λiv s2 #[y,H2,I2,r2,q2]=>ζ (wpAny_standAt (ζ (Ω (cT (hs ε s2 σ H2 x y v ov iv u _ I2 r1 r2 r q2) λ_ s3 #[H3,I3,q3]=>wpAny_release #[σ,H3,I3,q3]))))))))
def Oo(te:TE)(g:TG):TS:=λD σ H=>te σ H λx H1=>g x σ H1 D.nx
def IY{tg:Expr}{te:TE}{g:TG}(he:PE X e te)(hg:PG X tg g)(hs:swapsWithSole [tg] e pos.line X.env=pure false:=by rfl)(hw:swappedStores [tg] e X.env=pure none:=by rfl)(h1:(assignEach [tg] X.env).map (·.2)=[assign tg X.env]:=by rfl):PS X (.Assign [tg] e pos) (Oo te g):=by intro ε s σ H D I h;refine wpAny_Assign_stores (cT (he ε s σ H _ I h) λv s1 #[x,H1,I1,r1,q1]=>?_) hs hw;rw[h1];exact cT (hg ε s1 σ H1 x v _ I1 r1 q1) λ_ s2 q=>q
def vW{te:TE}(hN:X.N.Nodup)(hi:X.N[i]?\x)(hx:Loc X.env.scope x)(he:PE X e te)(hs:swapsWith e (some (.Name x pos')) pos.line X.env=pure false:=by rfl)(hf:X.fn x=true\/X.env.scope.names.lookup x\.local:=by first|exact .inl rfl|exact .inr rfl|assumption) :
  PS X (.Assign [.Name x pos'] e pos) (Oo te (l9 i)):=by
 intro ε s σ H D I h;exact wpAny_Assign_Name (cT (he ε s σ H _ I h) λv s1 #[y,H1,I1,r1,q1]=>qz I1 hN hi hx r1 (λs2 I2=>#[_,H1,I2,q1]) hf) hs
def afd(i:Nat)(te:TE)(ti:Za):TS:=λD σ H=>∃x,σ[i]?\some x/\te σ H λy H1=>ti x y H1 λz H2=>D.nx (σ.set i (some z)) H2
def Uv{te:TE}{op:Operator}{ti:Za}(hN:X.N.Nodup)(hi:X.N[i]?\x)(hx:Loc X.env.scope x)(he:PE X e te)(ho:PIp X op ti)(hf:X.fn x=true\/X.env.scope.names.lookup x\.local:=by first|exact .inl rfl|exact .inr rfl|assumption) :
  PS X (.AugAssign (.Name x pos') op e pos) (afd i te ti):=by
 intro ε s σ H D I h;let(v,e1,h):=h;let(m,hn,hl):=I.loc;have vis:nJ X.env.scope x:=by obtain k|k:=hx;exact .inl k;exact .inr (.inl k)
 let(u,r,l):=hl i x v hi e1 vis;refine wpAny_AugAssign_Name ?_;have go:wpAny (model X.prog X.w) X.A (eval e X.env) (λw s₂=>wpAny (model X.prog X.w) X.A (inplaceOp op u w) (λr s₃=>wpAny (model X.prog X.w) X.A (storeName X.env x r) (λ_=>SP X ε D .next) X.xe s₃) X.xe s₂) X.xe s:=cT (he ε s σ H _ I h) λw s1 #[y,H1,I1,r1,q1]=>cT (ho ε s1 σ H1 v y u w _ I1 r r1 q1) λz s2 #[zv,H2,I2,r2,q2]=>qz I2 hN hi hx r2 (λs3 I3=>#[_,H2,I3,q2]) hf;obtain⟨hk,hm⟩|⟨hk,c,hc,DJ⟩:=l
 exact wpAny_loadName_local I.ok.kind hk hn hm go;obtain hk|hk:=hk
 exact wpAny_loadName_cell I.ok.kind hk hc DJ go;obtain k|k:=hx
 have:X.env.scope.names.lookup x\.free:=hk;rw[k] at this;cases this;have:X.env.scope.names.lookup x\.free:=hk;rw[k] at this;cases this
def Zd(to ti te:TE)(Oq:V->V->Hp->VK->Prop)(tip:Za)(Ot:IW):TS:=λD σ H=>to σ H λo H1=>ti σ H1 λi H2=>Oq o i H2 λx H3=>te σ H3 λy H4=>tip x y H4 λz H5=>Ot o i z H5 λH6=>D.nx σ H6
def Ze(X:Cx)(t:V->V->Hp->VK->Prop):Prop :=
 ∀(ε:qaa)(s:Shared)(σ:St)(H:Hp)(o i:V)(ov iv:Value)(Q:VK),Inv X ε σ H s->RelV o ov->RelV i iv->t o i H Q ->
  wpAny (model X.prog X.w) X.A (getItem ov iv) (EP X ε σ Q) X.xe s
def Ou{o i:Expr}{to ti te:TE}{Oq:V->V->Hp->VK->Prop}{tip:Za}{Ot:IW}{op:Operator}(ho:PE X o to)(hi:PE X i ti)(hg:Ze X Oq)(he:PE X e te)(hp:PIp X op tip)(hs:Ur X Ot)(ha:∀ov iv new,augStore i ov iv new=(do holding [new,ov,iv] (setItem ov iv new);release [new,ov,iv] [];pure .next):=by intros;rfl):PS X (.AugAssign (.Subscript o i eC) op e pos) (Zd to ti te Oq tip Ot):=by intro ε s σ H D I h;refine wpAny_AugAssign_SubscriptAny (cT (ho ε s σ H _ I h) λov s1 #[x1,H1,I1,r1,q1]=>?_) ha;refine cT (hi ε s1 σ H1 _ I1 q1) λiv s2 #[x2,H2,I2,r2,q2]=>?_;refine cT (hg ε s2 σ H2 x1 x2 ov iv _ I2 r1 r2 q2) λold s3 #[x3,H3,I3,r3,q3]=>?_;refine cT (he ε s3 σ H3 _ I3 q3) λv s4 #[x4,H4,I4,r4,q4]=>?_;refine cT (hp ε s4 σ H4 x3 x4 old v _ I4 r3 r4 q4) λnew s5 #[x5,H5,I5,r5,q5]=>?_;exact cT (hs ε s5 σ H5 x1 x2 x5 ov iv new _ I5 r1 r2 r5 q5) λ_ s6 #[H6,I6,q6]=>#[σ,H6,I6,q6]
end
section
variable{X:Cx}{pos:Pos}
def Uw(c:TT)(tb:TS):TS:=λD σ H=>∃W:Nat->St->Hp->Prop,(∃m,W m σ H)/\∀m σ H,W m σ H ->
 c σ H λb H1=>if b=true then ∃N:St->Hp->Prop,(∀σ' H',N σ' H'->∃m',m'<m/\W m' σ' H')/\tb {D with nx:=N,ct:=N,bk:=D.nx} σ H1 else D.nx σ H1
def yM{body:qaq}{tc:TT}{tb:TS}(hp:PassesOwn (model X.prog X.w) X.A X.env X.xe)(hc:PT X c tc)(hb:ko X body tb):PS X (.While c body [] pos) (Uw tc tb):=by
 intro ε s σ H D I h;let(W,(m0,w0),turn):=h;refine wpAny_While (codeAny_whileLoop (λn s'=>∃σ' H',Inv X ε σ' H' s'/\W n σ' H') ?_ m0 #[σ,H,I,w0]);rintro n s1 ⟨σ1,H1,I1,w1⟩;refine aam hp (cT (hc ε s1 σ1 H1 _ I1 (turn n σ1 H1 w1)) λb s2 #[H2,I2,q2]=>?_);cases b with
 |true=>
  let(N,hN,q2):=q2;refine aam hp (cT (hb ε s2 σ1 H2 _ I2 q2) λf s3 q3=>?_);cases f with
  |next=>let(σ3,H3,I3,n3):=q3;let(m',hm,w3):=hN σ3 H3 n3;exact#[m',hm,σ3,H3,I3,w3]
  |cont=>let(σ3,H3,I3,n3):=q3;let(m',hm,w3):=hN σ3 H3 n3;exact#[m',hm,σ3,H3,I3,w3]
  |brk=>exact q3
  |ret v=>exact q3
 |false=>exact aaE #[σ1,H2,I2,q2]
end
structure It where
 go:Nat->Hp->Prop
 Yd:Nat->Hp->V->Hp->Prop
 stop:Nat->Hp->Prop
def nM(X:Cx)(ε:qaa)(H:Hp)(b:Addr):Prop :=
 H b=none/\b≠X.env.locals/\b∉X.fs/\(b∈X.ex\/X.s₀.heap.objs.size<=b)/\(∀x c,X.env.cells.lookup x\c->c≠b)/\∀p∈X.pn++ε,p.1≠b
def Inv.qB{X:Cx}{ε:qaa}{σ:St}{H H':Hp}{b:Addr}(I:Inv X ε σ H s)(hb:8<=b)(hn:H' b=none):nM X ε H' b:=by refine#[hn,FQ (tY I.lt hb),I.ae0 hb,.inr (kJ I.sz hb),λx c e z=>?_,λp hp z=>?_];let(v,q):=I.cell x c e;exact absurd (tY q.lt (by rw[z];exact hb)) (FL _);exact absurd (tY (eS (I.pin p hp).1) (by rw[z];exact hb)) (FL _)
structure Turn(P:Program)(w:World)(K:qaf)(tg:Expr)(J:It)(fp:qah)(it:Addr)(tn:Nat->Heap->Prop):Prop where
 mem:it∈fp
 obj:∀i h,tn i h->∀b∈fp,∃o,h.get? b\o/\∀v,o.data≠.cell v
 keep:∀i h h',tn i h->(∀b∈fp,∀o,h.get? b\o->h'.get? b\o)->tn i h'
 item:∀(X:Cx),X.prog=P->X.w=w->X.K=K->X.calm=true->∀(i:Nat)(ε:qaa)(s:Shared)(σ:St)(H:Hp)(E:qad),Inv X ε σ H s->(∀b∈fp,nM X ε H b)->tn i s.heap->J.go i H ->
  wpAny (model P w) X.A (pyNext (.ref it)) (λr s1=>∃u,r\u /\
   wpAny (model P w) X.A (letOwnedTupleGo tg (.ref it) u) (λ_ s2=>∃x H',Inv X ε σ H' s2/\RelV x u/\J.Yd i H x H'/\tn (i+1) s2.heap/\∀b∈fp,H' b=none) E s1) E s
 done:∀(X:Cx),X.prog=P->X.w=w->X.K=K->X.calm=true->∀(i:Nat)(ε:qaa)(s:Shared)(σ:St)(H:Hp)(E:qad),Inv X ε σ H s->(∀b∈fp,nM X ε H b)->tn i s.heap->J.stop i H ->
  wpAny (model P w) X.A (pyNext (.ref it)) (λr s1=>r=none/\Inv X ε σ H s1) E s
 self:∀(A:Around)(i:Nat)(s:Shared)(Q:qad)(E:qad),tn i s.heap->Q (.ref it) s->wpAny (model P w) A (pyIter (.ref it)) Q E s
abbrev TI:=St->Hp->(It->Hp->Prop)->Prop
def PIE(X:Cx)(ε:qaa)(σ:St)(tg:Expr)(R:It->Hp->Prop)(itv:Value)(s2:Shared):Prop :=
 ∃(it:Addr)(fp:qah)(tn:Nat->Heap->Prop)(J:It)(H':Hp),itv=.ref it/\Inv X ε σ H' s2/\Turn X.prog X.w X.K tg J fp it tn/\tn 0 s2.heap/\(∀b∈fp,nM X ε H' b)/\R J H'
def PI(X:Cx)(tg iter:Expr)(wi:TI):Prop :=
 ∀(ε:qaa)(s:Shared)(σ:St)(H:Hp)(R:It->Hp->Prop),Inv X ε σ H s->wi σ H R ->
  wpAny (model X.prog X.w) X.A (eval iter X.env) (λv s1=>wpAny (model X.prog X.w) X.A (pyIter v) (PIE X ε σ tg R) X.xe s1) X.xe s
def DN{M:Model}{E:qad}{tg:Expr}{n:String}{vs:Array Value}{Q:Unit->Shared->Prop}(ho:s.heap.get? it\o)(hc:o.cls=.type n)(hd:o.data=.fields vs)(hn:["enumerate","zip","dict_itemiterator","dict_reverseitemiterator","odict_iterator","itertools.zip_longest","itertools.pairwise"].contains n=false)(hQ:Q Unit.unit s):wpAny M A (letOwnedTupleGo tg (.ref it) u) Q E s:=by
 cases tg<;>first
  |exact η hQ
  | (cases u<;>first
      |exact η hQ
      | (refine ζ (wpAny_load ho ?_)
         rw[hc,hd];show wpAny M A (if (["enumerate","zip","dict_itemiterator","dict_reverseitemiterator","odict_iterator","itertools.zip_longest","itertools.pairwise"].contains n && vs[0]?==some (rawInt _))=true then _ else _) Q E s;rw[θ (by intro h;rw[hn,Ig] at h;cases h)];exact η hQ))
def Itl(K:qaf)(a:Addr):It :=
 #[λi H=>∃xs x,f_ K H a xs/\xs[i]?\x,λi H x H'=>H'=H/\∀xs,f_ K H a xs->xs[i]?\x,λi H=>∃xs,f_ K H a xs/\xs.length<=i]
def Itt(K:qaf)(a:Addr):It :=
 #[λi H=>∃xs x,e_ K H a xs/\xs[i]?\x,λi H x H'=>H'=H/\∀xs,e_ K H a xs->xs[i]?\x,λi H=>∃xs,e_ K H a xs/\xs.length<=i]
def Itr(lo:Int)(n:Nat):It:=#[λi _=>i<n,λi H x H'=>H'=H/\x=.int (lo+i),λi _=>n<=i]
def FV{K:qaf}{tg:Expr}(a it:Addr):Turn P w K tg (Itl K a) [it] it (λi h=>h.IsListIter it a i) where
 mem:=by simp
 obj:=λi h st b hb=>by
  have e:b=it:=by simpa using hb
  subst e;let(o,e,c,d):=st;exact#[o,e,λv z=>by rw[d] at z;cases z]
 keep:=λi h h' st k=>st.at λo e=>k it 6 o e
 item:=by intro X hP hw hK hc i ε s σ H E I hf st hg;subst hP hw hK;let(xs,x,hq,hx):=hg;let(aR,rv,p,hz):=I.list hq;let(u,hu,ru):=rv.get hx;let(f0,f1,f2,f3,f4,f5):=hf it 6;refine wpAny_pyNext_list_item st p.isList (by simpa using hu) λh' bp sb=>?_;have I1:=I.turned (t':=s.toks) (λb o hb e=>(sb.2 b hb).trans e) f0 f1 f3 f4 f5;let(o,e,c,d):=id bp;exact#[u,9,DN e c d 15 #[x,H,I1,ru,#[9,λys hy=>by rw[I.qA hy hq];exact hx],bp,λb hb=>(hf b hb).1]]
 done:=by intro X hP hw hK hc i ε s σ H E I hf st hg;subst hP hw hK;let(xs,hq,hx):=hg;let(aR,rv,p,hz):=I.list hq;let(f0,f1,f2,f3,f4,f5):=hf it 6;have hl:=rv.length;exact wpAny_pyNext_list_end (I.ok.hd hc) st p.isList (by simp;lia) λh' eb=>#[9,I.turned (t':=s.toks) (λb o hb e=>eb b o hb e) f0 f1 f3 f4 f5]
 self:=λ_ _ _ _ _ st h=>wpAny_pyIter_listiter st h
def BB{K:qaf}{tg:Expr}(a it:Addr):Turn P w K tg (Itt K a) [it] it (λi h=>h.IsTupleIter it a i) where
 mem:=by simp
 obj:=λi h st b hb=>by
  have e:b=it:=by simpa using hb
  subst e;let(o,e,c,d):=st;exact#[o,e,λv z=>by rw[d] at z;cases z]
 keep:=λi h h' st k=>st.at λo e=>k it 6 o e
 item:=by intro X hP hw hK hc i ε s σ H E I hf st hg;subst hP hw hK;let(xs,x,hq,hx):=hg;let(aR,rv,p,hz):=I.tuple hq;let(u,hu,ru):=rv.get hx;let(f0,f1,f2,f3,f4,f5):=hf it 6;refine wpAny_pyNext_tuple_item st (show s.heap.IsTuple a aR.toArray from p) (by simpa using hu) λh' bp sb=>?_;have I1:=I.turned (t':=s.toks) (λb o hb e=>(sb.2 b hb).trans e) f0 f1 f3 f4 f5;let(o,e,c,d):=id bp;exact#[u,9,DN e c d 15 #[x,H,I1,ru,#[9,λys hy=>by rw[I.uT hy hq];exact hx],bp,λb hb=>(hf b hb).1]]
 done:=by intro X hP hw hK hc i ε s σ H E I hf st hg;subst hP hw hK;let(xs,hq,hx):=hg;let(aR,rv,p,hz):=I.tuple hq;let(f0,f1,f2,f3,f4,f5):=hf it 6;have hl:=rv.length;exact wpAny_pyNext_tuple_end (I.ok.hd hc) st (show s.heap.IsTuple a aR.toArray from p) (by simp;lia) λh' eb=>#[9,I.turned (t':=s.toks) (λb o hb e=>eb b o hb e) f0 f1 f3 f4 f5]
 self:=λ_ _ _ _ _ st h=>wpAny_pyIter_tupleiter st h
def BC{K:qaf}{tg:Expr}(it:Addr)(lo:Int)(n:Nat):Turn P w K tg (Itr lo n) [it] it (λi h=>IsRangeIter h it (lo+(i:Nat) * 1) ((n:Int)-(i:Nat)) 1) where
 mem:=by simp
 obj:=λi h st b hb=>by
  have e:b=it:=by simpa using hb
  subst e;exact#[_,st,λv z=>by have z':=z;cases z']
 keep:=λi h h' st k=>k it 6 _ st
 item:=by intro X hP hw hK hc i ε s σ H E I hf st hg;subst hP hw hK;let(f0,f1,f2,f3,f4,f5):=hf it 6;have W:=Walks.range (prog:=X.prog) (w:=X.w) (I.ok.hd hc) it lo 1 n;refine W.item i s _ _ hg st λv h' tk hv bp kk=>?_;let(t,rfl):=hv;have I1:Inv X ε σ H {s with heap:=h',toks:=tk}:=I.turned (λb o hb e=>kk b o (by simpa using hb) e) f0 f1 f3 f4 f5;refine#[_,9,DN bp 9 9 15 #[.int (lo+i),H,I1,#[t,?_],#[9,9],bp,λb hb=>(hf b hb).1]];rw[Int.mul_one]
 done:=by intro X hP hw hK hc i ε s σ H E I hf st hg;subst hP hw hK;let(f0,f1,f2,f3,f4,f5):=hf it 6;exact wpAny_pyNext_range_end (I.ok.hd hc) st (by have:n<=i:=hg;lia) λh' eb=>#[9,I.turned (λb o hb e=>eb b o hb e) f0 f1 f3 f4 f5]
 self:=λ_ _ _ _ _ st h=>wpAny_pyIter_rangeiter st h
section
variable{X:Cx}{tg:Expr}
theorem IZ{ε:qaa}{σ:St}{H:Hp}{R:It->Hp->Prop}{E:qad}{lo hi:Int}{t u v:Tok}{tk:Nat}(I:Inv X ε σ H s)(h1 : -(2 ^ 62)<=lo)(h2:lo<2 ^ 62)(h3 : -(2 ^ 62)<=hi)(h4:hi<2 ^ 62)(q:R (Itr lo (hi-lo).toNat) H):wpAny (model X.prog X.w) X.A (pyIter (.ref 8)) (PIE X ε σ tg R) E {s with heap:=s.heap.push {cls:=.type "range",data:=.fields ([.int lo t,.int hi u,.int 1 v].toArray)},toks:=tk}:=by
 refine wpAny_pyIter_range (IsRange.new ..) (small_one h1 h2 h3 h4) ?_;have I1:Inv X ε σ H {s with heap:=s.heap.push {cls:=.type "range",data:=.fields ([.int lo t,.int hi u,.int 1 v].toArray)},toks:=tk}:=I.kept λb o e=>dF _ e;refine#[(s.heap.push {cls:=.type "range",data:=.fields ([.int lo t,.int hi u,.int 1 v].toArray)}).objs.size,[(s.heap.push {cls:=.type "range",data:=.fields ([.int lo t,.int hi u,.int 1 v].toArray)}).objs.size],_,_,H,9,
  I1.kept λb o e=>dF _ e,BC _ lo (hi-lo).toNat,?_,λb hb=>?_,q]
 have e1:lo+((0:Nat):Int) * 1=lo:=by simp
 have e2:(((hi-lo).toNat:Nat):Int)-((0:Nat):Int)=Builtin.Range.rangeSize lo hi 1:=by rw[rangeSize_one];split<;>lia
 rw[e1,e2];exact gQ _ 9;have e:b=(s.heap.push {cls:=.type "range",data:=.fields ([.int lo t,.int hi u,.int 1 v].toArray)}).objs.size:=by simpa using hb
 subst e;exact I1.qB (cL _) (I1.bZ.fresh (cL _))
def Zf(ta:TA):TI:=λσ H R=>ta σ H λvs H1=>∃j:Int,vs=[.int j]/\-(2 ^ 62)<=j/\j<2 ^ 62/\R (Itr 0 j.toNat) H1
theorem FW{a:Expr}{ta:TA}{pos:Pos}(hg:Gl X "range")(hm:X.mg "range"=none)(ha:PA X [a] ta)(hs:starEach [a] X.env=[(false,eval a X.env)]:=by rfl):PI X tg (.Call (.Name "range" p) [a] [] pos) (Zf ta):=by
 intro ε s σ H R I h;refine Call_ (nK I hg hm boot_range (ab2 (cT (ha pos ε s σ H _ I h) λus s1 #[vs,H1,I1,r1,q1]=>?_) hs 9));let(j,e,q1,q2,q):=q1;subst e;cases r1 with
 |cons r rr=>cases rr;let(t,rfl):=r;exact call_range_1 (IZ I1 () () q1 q2 (by simpa using q))
def afe(wi:TI)(g:TG)(tb:TS):TS:=λD σ H=>wi σ H λJ H1=>∃W:Nat->Nat->St->Hp->Prop,(∃m,W 0 m σ H1)/\∀i m σ H,W i m σ H ->
 (J.stop i H/\D.nx σ H)\/(J.go i H/\∃N:St->Hp->Prop,(∀σ' H',N σ' H'->∃m',m'<m/\W (i+1) m' σ' H')/\∀x H',J.Yd i H x H'->g x σ H' λσ2 H2=>tb {D with nx:=N,ct:=N,bk:=D.nx} σ2 H2)
def qC(fp:qah)(h:Heap):qaa:=fp.filterMap λb=>(h.get? b).map λo=>(b,o)
def iE{fp:qah}{b:Addr}(hb:b∈fp)(e:h.get? b\o):(b,o)∈qC fp h:=acJ.mpr #[b,hb,by rw[e];rfl]
def FY{fp:qah}{p:Addr×Obj}(hp:p∈qC fp h):p.1∈fp/\h.get? p.1\p.2:=by
 let(b,hb,e):=acJ.mp hp;cases q:h.get? b with
 |none=>rw[q] at e;cases e
 |some o=>rw[q] at e;have e':=Option.some.inj e;subst e';exact#[hb,q]
def Inv.pinned{ε:qaa}{σ:St}{H:Hp}{fp:qah}(I:Inv X ε σ H s)(hf:∀b∈fp,nM X ε H b)(ho:∀b∈fp,∃o,s.heap.get? b\o/\∀v,o.data≠.cell v):Inv X (ε++qC fp s.heap) σ H s :=
 I.DH λp hp=>(fM.mp hp).elim (λz=>I.pin p (jZ _ z)) λz=>by let(hb,e):=FY z;let(f0,f1,f2,_):=hf p.1 hb;let(o,e',d):=ho p.1 hb;rw[e] at e';cases e';exact#[e,f0,f1,f2,d]
def Inv.l_{ε pl:qaa}{σ:St}{H:Hp}(I:Inv X (ε++pl) σ H s):Inv X ε σ H s:=I.DH λp hp=>I.pin p (jZ _ (hY _ hp))
def BD{body:qaq}{wi:TI}{g:TG}{tb:TS}{pos:Pos}(hp:PassesOwn (model X.prog X.w) X.A X.env X.xe)(hc:X.calm=true)(hi:PI X tg iter wi)(hg:PG X tg g)(hb:ko X body tb)(hs:∀x,foldedSetIterable iter X.env x=pure x:=by intro _;rfl):PS X (.For tg iter body [] pos) (afe wi g tb):=by
 intro ε s σ H D I h;refine wpAny_For (cT (hi ε s σ H _ I h) λv s1 h1=>cT h1 λitv s2 h2=>?_) hs;let(it,fp,tn,J,H2,e,I2,T,vX,f2,W,(m0,w0),turn):=h2;subst e;have Ux:∀{H':Hp},(∀b∈fp,H' b=none)->∀b∈fp,nM X ε H' b:=λhn b hb=>#[hn b hb,(f2 b hb).2];refine codeAny_forLoop_any (λn s'=>∃i σ' H',Inv X ε σ' H' s'/\tn i s'.heap/\(∀b∈fp,H' b=none)/\W i n σ' H') ?_ m0 #[0,σ,H2,I2,vX,λb hb=>(f2 b hb).1,w0];rintro n s3 ⟨i,σ3,H3,I3,Uy,Zg,w3⟩;rcases turn i n σ3 H3 w3 with⟨stop,qn⟩|⟨go,N,hN,step⟩
 . refine aam hp (cT (T.done X 9 9 9 hc i ε s3 σ3 H3 X.xe I3 (Ux Zg) Uy stop) λr s4 #[hr,I4]=>?_);subst hr;exact aaE #[σ3,H3,I4,qn]
 refine aam hp (cT (T.item X 9 9 9 hc i ε s3 σ3 H3 X.xe I3 (Ux Zg) Uy go) λr s4 #[u,hr,h4]=>?_);subst hr;refine aam hp (cT h4 λ_ s5 #[x,H5,I5,r5,y5,R',fr5]=>?_);have I5':=I5.pinned (Ux fr5) (T.obj _ _ R');refine aam hp (cT (hg _ s5 σ3 H5 x u _ I5' r5 (step x H5 y5)) λ_ s6 #[σ6,H6,I6,q6]=>aam hp (cT (hb _ s6 σ6 H6 _ I6 q6) λf s7 q7=>?_));have again:∀{σ7:St}{H7:Hp},Inv X (ε++qC fp s5.heap) σ7 H7 s7->N σ7 H7->∃m,m<n/\∃i σ' H',Inv X ε σ' H' s7/\tn i s7.heap/\(∀b∈fp,H' b=none)/\W i m σ' H':=λ{σ7 H7} I7 n7=>by let(m',hm,w7):=hN σ7 H7 n7;refine#[m',hm,i+1,σ7,H7,I7.l_,T.keep _ _ _ R' λb hb o e=>(I7.pin (b,o) (jZ _ (jZ _ (iE hb e)))).1,λb hb=>?_,w7];let(o,e,d):=T.obj _ _ R' b hb;exact (I7.pin (b,o) (jZ _ (jZ _ (iE hb e)))).2.1
 cases f with
 |brk=>let(σ7,H7,I7,q7):=q7;exact#[σ7,H7,I7.l_,q7]
 |ret v=>let(x7,σ7,H7,I7,r7,q7):=q7;exact#[x7,σ7,H7,I7.l_,r7,q7]
 |_=>let(σ7,H7,I7,n7):=q7;exact again I7 n7
end
abbrev R2:=V->V->Hp->VK->Prop
def fF(X:Cx)(f:Value->Value->Sem Value)(r:R2):Prop :=
 ∀(ε:qaa)(s:Shared)(σ:St)(H:Hp)(x y:V)(v u:Value)(Q:VK),Inv X ε σ H s->RelV x v->RelV y u->r x y H Q ->
  wpAny (model X.prog X.w) X.A (f v u) (EP X ε σ Q) X.xe s
def UnR(X:Cx)(f:Value->Sem Value)(r:V->Hp->VK->Prop):Prop :=
 ∀(ε:qaa)(s:Shared)(σ:St)(H:Hp)(x:V)(v:Value)(Q:VK),Inv X ε σ H s->RelV x v->r x H Q ->
  wpAny (model X.prog X.w) X.A (f v) (EP X ε σ Q) X.xe s
def dh(X:Cx)(f:Value)(r:List V->Hp->VK->Prop):Prop :=
 ∀(ε:qaa)(s:Shared)(σ:St)(H:Hp)(xs:List V)(us:qag)(Q:VK),Inv X ε σ H s->Vals xs us->r xs H Q ->
  wpAny (model X.prog X.w) X.A (call f us) (EP X ε σ Q) X.xe s
def Zh(r:R2)(ta tb:TE):TE:=λσ H Q=>ta σ H λx H1=>tb σ H1 λy H2=>r x y H2 Q
def tUn(r:V->Hp->VK->Prop)(ta:TE):TE:=λσ H Q=>ta σ H λx H1=>r x H1 Q
def rI(C:Int->Int->Prop)(g:Int->Int->V):R2:=λx y H Q=>∃i j,x=.int i/\y=.int j/\C i j/\Q (g i j) H
def tR(g:Int->Int->V):R2:=λx y H Q=>∃i j,x=.int i/\y=.int j/\Q (g i j) H
def rU(g:Int->V):V->Hp->VK->Prop:=λx H Q=>∃i,x=.int i/\Q (g i) H
section
variable{X:Cx}{a:Expr}{ta tb tc:TE}{pos:Pos}
def Uz(ha:PE X a ta)(hb:PE X b tb){ε:qaa}{σ:St}{H:Hp}{R:V->V->Hp->Prop}(I:Inv X ε σ H s)(h:ta σ H λx H1=>tb σ H1 λy H2=>R x y H2){Q:qad}{f:Value->Value->Sem Value}(hf:∀v u s2 x y H2,Inv X ε σ H2 s2->RelV x v->RelV y u->R x y H2->wpAny (model X.prog X.w) X.A (f v u) Q X.xe s2) :
 wpAny (model X.prog X.w) X.A (eval a X.env) (λv s₁=>wpAny (model X.prog X.w) X.A (eval b X.env) (λu s₂=>wpAny (model X.prog X.w) X.A (f v u) Q X.xe s₂) X.xe s₁) X.xe s:=cT (ha ε s σ H _ I h) λv s1 #[x,H1,I1,r1,q1]=>cT (hb ε s1 σ H1 _ I1 q1) λu s2 #[y,H2,I2,r2,q2]=>hf v u s2 x y H2 I2 r1 r2 q2
def I8{op:Operator}{r:R2}(ho:fF X (binaryOp op) r)(ha:PE X a ta)(hb:PE X b tb):PE X (.BinOp a op b pos) (Zh r ta tb):=by intro ε s σ H Q I h;exact wpAny_BinOp (Uz ha hb I h λv u s2 x y H2 I2 rx ry q=>ho ε s2 σ H2 x y v u Q I2 rx ry q)
def Sa{op:UnaryOp}{r:V->Hp->VK->Prop}(ho:UnR X (unaryOp op) r)(ha:PE X a ta):PE X (.UnaryOp op a pos) (tUn r ta):=by intro ε s σ H Q I h;exact UnaryOp_ (cT (ha ε s σ H _ I h) λv s1 #[x,H1,I1,r1,q1]=>ho ε s1 σ H1 x v Q I1 r1 q1)
def Ye{f:Value->Value->Sem Value}{C:Int->Int->Prop}{g:Int->Int->Int}(rule:∀(i j:Int) (t u:Tok) (s:Shared) (Q:qad) (E:qad),C i j->Q (.int (g i j) s.toks) {s with toks:=s.toks+1}->wpAny (model X.prog X.w) X.A (f (.int i t) (.int j u)) Q E s) :
  fF X f (rI C λi j=>.int (g i j)):=by
 intro ε s σ H x y v u Q I rx ry h;let(i,j,rfl,rfl,hc,q):=h;let(t,rfl):=rx;let(t',rfl):=ry;exact rule i j t t' s _ _ hc #[.int (g i j),H,I.tok _,#[_,9],q]
def FZ{f:Value->Value->Sem Value}{g:Int->Int->Int}(rule:∀(i j:Int) (t u:Tok) (s:Shared) (Q:qad) (E:qad),Q (.int (g i j) s.toks) {s with toks:=s.toks+1}->wpAny (model X.prog X.w) X.A (f (.int i t) (.int j u)) Q E s) :
  fF X f (tR λi j=>.int (g i j)):=by
 intro ε s σ H x y v u Q I rx ry h;let(i,j,rfl,rfl,q):=h;let(t,rfl):=rx;let(t',rfl):=ry;exact rule i j t t' s _ _ #[.int (g i j),H,I.tok _,#[_,9],q]
def UA{f:Value->Value->Sem Value}{g:Int->Int->Bool}(rule:∀(i j:Int) (t u:Tok) (s:Shared) (Q:qad) (E:qad),Q (.bool (g i j)) s->wpAny (model X.prog X.w) X.A (f (.int i t) (.int j u)) Q E s) :
  fF X f (tR λi j=>.bl (g i j)):=by
 intro ε s σ H x y v u Q I rx ry h;let(i,j,rfl,rfl,q):=h;let(t,rfl):=rx;let(t',rfl):=ry;exact rule i j t t' s _ _ #[.bl (g i j),H,I,9,q]
def Zi(i j:Int):Prop:=0<j/\j<1073741824
def Ov(i j:Int):Prop:=0<=j/\j<=1000000/\i.natAbs<2 ^ 64
def I9(i j:Int):Prop:=(-(2 ^ 64)<i/\i<2 ^ 64)\/(-(2 ^ 64)<j/\j<2 ^ 64)
def I9.ok{i j:Int}(h:I9 i j):IntMulOk i j:=by
 obtain⟨h1,h2⟩|⟨h1,h2⟩:=h
 exact .of_left (intBits_le_64 h1 h2);exact .of_right (intBits_le_64 h1 h2)
def BE(k:Nat):(0:Int)<=2 ^ k:=Int.natCast_nonneg _
def UB:fF X (binaryOp .Add) (tR λi j=>.int (i+j)):=FZ λ_ _ _ _ _ _ _ q=>add_int q
def UC:fF X (binaryOp .Sub) (tR λi j=>.int (i-j)):=FZ λ_ _ _ _ _ _ _ q=>sub_int q
def UD:fF X (binaryOp .Mult) (rI I9 λi j=>.int (i * j)):=Ye λ_ _ _ _ _ _ _ hc q=>mul_int q hc.ok
theorem Ow:fF X (binaryOp .FloorDiv) (rI Zi λi j=>.int (i / j)):=Ye λi j _ _ _ _ _ hc q=>by have h1:=hc.1;have h2:=hc.2;exact floordiv_int () (by rw[Int.fdiv_eq_ediv_of_nonneg i ()];exact q) (.inl (PyProof.noPylong_small ()))
theorem UE:fF X (binaryOp .Mod) (rI (λ_ j=>0<j) λi j=>.int (i % j)):=Ye λi j _ _ _ _ _ hc q=>mod_int' () (by rw[Int.fmod_eq_emod_of_nonneg i ()];exact q)
def UG:fF X (binaryOp .Pow) (rI Ov λi j=>.int (i ^ j.toNat)):=Ye λ_ _ _ _ _ _ _ hc q=>pow_int_small hc.1 hc.2.1 hc.2.2 q
def UH:fF X (binaryOp .LShift) (rI Ov λi j=>.int (i * 2 ^ j.toNat)):=Ye λ_ _ _ _ _ _ _ hc q=>lshift_int_small hc.1 hc.2.1 hc.2.2 q
def UI:fF X (binaryOp .RShift) (rI (λ_ j=>0<=j) λi j=>.int (i / 2 ^ j.toNat)):=Ye λi j _ _ _ _ _ hc q=>
 rshift_int hc (by rw[Int.fdiv_eq_ediv_of_nonneg i (BE _)];exact q)
def I_:fF X (binaryOp .BitAnd) (tR λi j=>.int (Builtin.bitAnd i j)):=FZ λ_ _ _ _ _ _ _ q=>and_int q
def Zj:fF X (binaryOp .BitOr) (tR λi j=>.int (Builtin.bitOr i j)):=FZ λ_ _ _ _ _ _ _ q=>or_int q
def Oy:fF X (inplaceOp .Add) (tR λi j=>.int (i+j)):=FZ λ_ _ _ _ _ _ _ q=>iadd_int q
def k8:fF X (inplaceOp .BitOr) (tR λi j=>.int (Builtin.bitOr i j)):=FZ λ_ _ _ _ _ _ _ q=>ior_int q
def unI{f:Value->Sem Value}{g:Int->Int}(rule:∀(i:Int) (t:Tok) (s:Shared) (Q:qad) (E:qad),Q (.int (g i) s.toks) {s with toks:=s.toks+1}->wpAny (model X.prog X.w) X.A (f (.int i t)) Q E s) :
  UnR X f (rU λi=>.int (g i)):=by
 intro ε s σ H x v Q I rx h;let(i,rfl,q):=h;let(t,rfl):=rx;exact rule i t s _ _ #[.int (g i),H,I.tok _,#[_,9],q]
def UJ:UnR X (unaryOp .USub) (rU λi=>.int (-i)):=unI λ_ _ _ _ _ q=>neg_int q
def UK:UnR X (unaryOp .Invert) (rU λi=>.int (Builtin.bitNot i)):=unI λ_ _ _ _ _ q=>invert_int q
end
section
variable{X:Cx}{a:Expr}{ta tb tc:TE}{pos:Pos}
def BF{ε:qaa}{σ:St}{H:Hp}{Q:VK}{k k':Bool}(I:Inv X ε σ H s)(q:Q (.bl k) H)(e:k=k'):EP X ε σ Q (.bool k') s:=by subst e;exact#[.bl k,H,I,9,q]
def Zk:fF X (compareOp .Lt) (tR λi j=>.bl (decide (i<j))):=UA λ_ _ _ _ _ _ _ q=>lt_int q
def Sb:fF X (compareOp .LtE) (tR λi j=>.bl (decide (i<=j))):=UA λ_ _ _ _ _ _ _ q=>le_int q
def Zl:fF X (compareOp .Gt) (tR λi j=>.bl (decide (j<i))):=UA λ_ _ _ _ _ _ _ q=>gt_int q
def F1:fF X (compareOp .In) (λx y H Q=>∃i j,x=.str i/\y=.str j/\Q (.bl (!(Builtin.Str.occurrences j i 0 j.length 1).isEmpty)) H):=by intro ε s σ H x y v u Q I rx ry h;let(i,j,rfl,rfl,q):=h;let(t,rfl):=rx;let(t',rfl):=ry;exact in_str (BF I q 9)
def UL:fF X (compareOp .Is) (λx y H Q=>y=.bY/\Q (.bl (decide (x=.bY))) H):=by
 intro ε s σ H x y v u Q I rx ry h;let(rfl,q):=h;cases ry;refine is_none_gen (BF I q ?_);cases x<;>first
  | (cases rx;rfl)
  | (let(t,rfl):=rx;rfl)
def Oz:fF X (compareOp .IsNot) (λx y H Q=>y=.bY/\Q (.bl (!decide (x=.bY))) H):=by
 intro ε s σ H x y v u Q I rx ry h;let(rfl,q):=h;cases ry;refine isnot_none_gen (BF I q ?_);cases x<;>first
  | (cases rx;rfl)
  | (let(t,rfl):=rx;rfl)
def fF.or{f:Value->Value->Sem Value}{r r':R2}(h:fF X f r)(h':fF X f r'):fF X f (λx y H Q=>r x y H Q\/r' x y H Q):=by
 intro ε s σ H x y v u Q I rx ry q;obtain q|q:=q
 exact h ε s σ H x y v u Q I rx ry q;exact h' ε s σ H x y v u Q I rx ry q
def jn(b:Expr){op:CmpOp}(h:op≠.In:=by decide)(h2:op≠.NotIn:=by decide):behindInMarks op b=false:=by
 have e1:(op==CmpOp.In)=false:=by cases op<;>first|rfl|exact absurd 9 h
 have e2:(op==CmpOp.NotIn)=false:=by cases op<;>first|rfl|exact absurd 9 h2
 cases b<;>simp[behindInMarks,e1,e2]
def OA{op:CmpOp}{r:R2}(ho:fF X (compareOp op) r)(ha:PE X a ta)(hb:PE X b tb)(hm:behindInMarks op b=false):PE X (.Compare a [op] [b] pos) (Zh r ta tb):=by intro ε s σ H Q I h;exact wpAny_Compare1 (Uz ha hb I h λv u s2 x y H2 I2 rx ry q=>ho ε s2 σ H2 x y v u Q I2 rx ry q) hm
def Sd(t:TE):TT:=λσ H Q=>t σ H λx H'=>∃k,x=.bl k/\Q k H'
def OB{op:CmpOp}{r:R2}(ho:fF X (compareOp op) r)(ha:PE X a ta)(hb:PE X b tb)(hm:behindInMarks op b=false):PT X (.Compare a [op] [b] pos) (Sd (Zh r ta tb)):=by
 intro ε s σ H Q I h;refine wpAny_isTrue_Compare1 (cT (ha ε s σ H _ I h) λv s1 #[x,H1,I1,r1,q1]=>cT (hb ε s1 σ H1 _ I1 q1) λu s2 #[y,H2,I2,r2,q2] =>
  cT (ho ε s2 σ H2 x y v u _ I2 r1 r2 q2) λc s3 #[z,H3,I3,r3,k,e,q3]=>?_) hm
 subst e;cases r3;exact v9 #[H3,I3,q3]
def Ja(r r':R2)(ta tb tc:TE):TE:=λσ H Q=>ta σ H λx H1=>tb σ H1 λy H2=>r x y H2 λz H3=>∃k,z=.bl k /\
 (if k=true then tc σ H3 λw' H4=>r' y w' H4 Q else Q (.bl false) H3)
def Jb{op UM:CmpOp}{r r':R2}(ho:fF X (compareOp op) r)(qy:fF X (compareOp UM) r')(ha:PE X a ta)(hb:PE X b tb)(hc:PE X c tc)(hm:lastMarks [op,UM] [b,c]=false:=by with_unfolding_all rfl):PT X (.Compare a [op,UM] [b,c] pos) (Sd (Ja r r' ta tb tc)):=by
 intro ε s σ H Q I h;refine isTrue_chain (cT (ha ε s σ H _ I h) λv s1 #[x,H1,I1,r1,q1]=>test_link (cT (hb ε s1 σ H1 _ I1 q1) λu s2 #[y,H2,I2,r2,q2] =>
  cT (ho ε s2 σ H2 x y v u _ I2 r1 r2 q2) λd s3 #[z,H3,I3,r3,k,e,q3]=>?_)) hm
 subst e;cases r3;refine v9 ?_;cases k with
 |false=>let(k',e',q'):=q3;cases e';exact ite_ff #[H3,I3,q']
 |true=>refine ite_tt (test_last (cT (hc ε s3 σ H3 _ I3 q3) λw' s4 #[z',H4,I4,r4,q4]=>cT (qy ε s4 σ H4 y z' u w' _ I4 r2 r4 q4) λd' s5 #[z2,H5,I5,r5,k2,e2,q5]=>?_));subst e2;cases r5;exact v9 #[H5,I5,q5]
def k9:(sizeLine:Nat)<2 ^ 63:=by rw[π];decide
def BG:fF X (binaryOp .Add) (λx y H Q=>∃i j,x=.str i/\y=.str j/\i.length+j.length<=sizeLine/\Q (.str (i++j)) H):=by intro ε s σ H x y v u Q I rx ry h;let(i,j,rfl,rfl,hz,q):=h;let(t,rfl):=rx;let(t',rfl):=ry;exact add_str (λt' tk=>#[.str (i++j),H,I.tok _,#[_,9],q]) hz
def vals1{x:V}{us:qag}(r:Vals [x] us):∃u,us=[u]/\RelV x u:=by
 cases r with
 |cons r1 r2=>cases r2;exact#[_,9,r1]
def vals2{x y:V}{us:qag}(r:Vals [x,y] us):∃u w',us=[u,w']/\RelV x u/\RelV y w':=by
 cases r with
 |cons r1 r2=>
  cases r2 with
  |cons r3 r4=>cases r4;exact#[_,_,9,r1,r3]
end
structure F2(h:Heap)(x dx C:Addr)(mA:qae):Prop where
 obj:h.get? x\W.instObj C dx
 ns:h.Ns1 dx mA
 ne:dx≠x
def F3{mA:qae}(n:h.Ns1 dx mA):∃od,h.get? dx\od/\∀name,W.lookIn name od\mA name:=by
 let(o,es,ep,ho,hd,hk,_,hm):=n;refine#[o,ho,λname=>?_];have e:=hm name;unfold nsFind findBy at e;rw[<- Array.find?_toList] at e;unfold W.lookIn;rw[hd];dsimp only;split
 rename_i y q
 rw[q] at e;exact aaa some e
 rename_i q
 rw[q] at e;have a:es.toList.any (·.refKey)=false:=by rw[List.any_eq_false];intro y hy;let(z,t,yN):=hk y (Array.mem_toList_iff.mp hy);simp[DictEntry.refKey,yN]
 have a':¬ es.toList.any (·.refKey)=true:=by rw[a];exact iC
 rw[θ a'];exact aaa some e
def F2.look{x:Addr}{mA:qae}(I:F2 h x dx C mA):∃od,PySem.W.InstAt h x (W.instObj C dx) C (some od)/\∀name,W.lookIn name od\mA name :=
 let #[od,ho,hl]:=F3 I.ns
 #[od,#[I.obj,9,9,ho],hl]
section
variable{E:qad}{K:qaf}{x:Addr}{mA:qae}{name:Str}{v:Value}
def get_map{expr:Bool}{Q:qad}(X:K.In s.heap)(I:F2 s.heap x dx C mA)(hg:W.plainGet K C name=true)(hh:W.hasDictIn K C=true)(ha:W.findIn K (.ref C) name\none)(hv:mA name\v)(yO:W.handedIn v=true)(h:Q v {s with toks:=s.toks+1}) :
  wpAny 14 A (getAttr (.ref x) name expr) Q E s:=by
 let(od,J,hl):=I.look;exact W.get_value X J (W.plainGet_of hg).1 (W.findObj_own hh ha 9 (by rw[hl,hv])) yO h
theorem OC{ns:χ}{Q:Unit->Shared->Prop}(X:K.In s.heap)(I:F2 s.heap x dx C mA)(hs:W.findIn K (.ref C) "__setattr__"\some (.builtin "object.__setattr__"))(hp:W.plainOver K C=true)(ht:W.takerIn K C name\none)(hh:W.hasDictIn K C=true)(hw:PySem.Within mA ns)(hsz:ns.length<=sizeLine)(h:∀h',F2 h' x dx C (λy=>if y=name then some v else mA y)->Heap.SameBut dx s.heap h'->Q Unit.unit {s with heap:=h',toks:=s.toks+2}) :
  wpAny 14 A (setAttr (.ref x) name v) Q E s:=by
 let(od,J,hl):=I.look;refine W.set_plain X J hs (W.osa_open X J hp ht λb=>?_);let(cd,hc,hd'):=W.any_some hh;have hx:=I.obj;refine ζ (η (ζ (ζ (wpAny_loadPart hx (ζ (PySem.W.Looks.here (W.looks_clsIn X hc) ?_))))));rw[hd'];refine η (ζ (η (ζ (wpAny_nsSet1 I.ns λh' Se BH=>?_))));let(oD,esD,epD,hoD,hdD,hcD):=Se.count (PySem.Within.cons name v hw);exact ζ (wpAny_lookBehind hoD (by rw[hdD];exact pastItsLine_dict (kJ hcD (by rw[vR];lia))) (η (h _ #[(BH.2 _ (Ne.symm I.ne)).trans I.obj,Se,I.ne] BH)))
def Jc{R:Result->Shared->Prop}{vs:qag}{kw:List (Str×Value)}(X:K.In s.heap)(hm:W.makesIn K C=true)(hi:W.findIn K (.ref C) "__init__"\some (.ref f))(hf:W.typeIn K (.ref f)\.type "function")(h:codeAny 14 (A.under (.builtin "type.__call__" #[.ref C::vs,kw])) (.call (.ref f) #[.ref (8+1)::vs,kw]) (PySem.W.InitBack (8+1) R)
   {s with heap:=(s.heap.push W.emptyDict).push (W.instObj C 8)}) :
 codeAny 14 A (.call (.ref C) #[vs,kw]) R s:=W.make_core (W.makes_of X hm) (W.looks_findIn X hi) (λself=>W.bind_fn X self hf) 5 h
end
def jo(f:Str)(v:V):List (Str×V)->List (Str×V)
 |[]=>[(f,v)]
 | (g,x)::r=>if g=f then (g,v)::r else (g,x)::jo f v r
theorem oQ(f g:Str)(v:V):∀fs:List (Str×V),(jo f v fs).lookup g=if g=f then some v else fs.lookup g
 |[]=>by show List.lookup g [(f,v)]=_;by_cases h:g=f;have hb:=aaS.mpr h;simp only[List.lookup,hb,ι h];have hb:=aag.mpr h;simp only[List.lookup,hb,θ h]
 | (k,x)::r=>by have ih:=oQ f g v r;rw[show jo f v ((k,x)::r)=(if k=f then (k,v)::r else (k,x)::jo f v r) from 9];by_cases hk:k=f;rw[ι hk];by_cases h:g=k;have hb:=aaS.mpr h;simp only[List.lookup,hb,ι (h.trans hk)];have hb:=aag.mpr h;simp only[List.lookup,hb,θ (λe:g=f=>h (e.trans hk.symm))];rw[θ hk];by_cases h:g=k;have hb:=aaS.mpr h;simp only[List.lookup,hb,θ (λe:g=f=>hk (h.symm.trans e))];have hb:=aag.mpr h;simp only[List.lookup,hb];exact ih
theorem nN(f:Str)(v:V):∀fs:List (Str×V),f∈(jo f v fs).map (·.1)/\∀g,g∈fs.map (·.1)->g∈(jo f v fs).map (·.1)
 |[]=>#[by simp[jo],λg h=>by simp at h]
 | (k,x)::r=>by
  let(i1,i2):=nN f v r;rw[show jo f v ((k,x)::r)=(if k=f then (k,v)::r else (k,x)::jo f v r) from 9];by_cases hk:k=f;rw[ι hk];subst hk;exact#[by simp,λg h=>by simpa using h];rw[θ hk];refine#[?_,λg h=>?_];rw[kH];exact iB _ i1;rw[kH] at h ⊢;rcases dQ.mp h with e|e
  exact dQ.mpr (.inl e);exact iB _ (i2 g e)
theorem oR(f:Str)(v:V):∀fs:List (Str×V),(jo f v fs).length<=fs.length+1
 |[]=>by simp[jo]
 | (k,x)::r=>by have ih:=oR f v r;rw[show jo f v ((k,x)::r)=(if k=f then (k,v)::r else (k,x)::jo f v r) from 9];by_cases hk:k=f;rw[ι hk,vR,vR];lia;rw[θ hk,vR,vR];lia
def l7.some_of{v:V}{o:Option Value}(r:l7 (some v) o):∃u,o\u/\RelV v u:=by
 cases o with
 |none=>exact (show False from r).elim
 |some u=>exact#[u,9,r]
def F4{v:V}(r:RelV v u):W.handedIn u=true:=by
 cases v with
 |bY=>cases (show u=Value.none from r);rfl
 |bl b=>cases (show u=Value.bool b from r);rfl
 |int i=>let(t,e):=(show ∃t,u=Value.int i t from r);cases e;rfl
 |str x=>let(t,e):=(show ∃t,u=Value.str x t from r);cases e;rfl
 |byt b=>let(t,e):=(show ∃t,u=Value.bytes b t from r);cases e;rfl
 |flt b=>let(t,e):=(show ∃t,u=Value.float b t from r);cases e;rfl
 |ref a=>cases (show u=Value.ref a from r);rfl
 |ty n=>cases (show u=Value.type n from r);rfl
section
variable{H H':Hp}{fs fs':List (Str×V)}
def DO(bZ:kL P w H h)(e:H a\.ins C dx fs):∃mA,F2 h a dx C mA/\(∀f,l7 (fs.lookup f) (mA f))/\PySem.Within mA (fs.map (·.1))/\fs.length<=1000/\H dx\.own a:=by let(d,z,ne,ob,mA,n,r,q):=(show cb P w H h a (.ins C dx fs) from bZ a _ e);exact#[mA,#[ob,n,ne],r,q,z,d]
end
structure Im(K:qaf)(C:Addr):Prop where
 pg:W.plainGet K C Str.empty=true
 hd:W.hasDictIn K C=true
 po:W.plainOver K C=true
 sa:W.findIn K (.ref C) "__setattr__"\some (.builtin "object.__setattr__")
def Im.get{K:qaf}{C:Addr}(c:Im K C)(f:Str):W.plainGet K C f=true:=c.pg
def cN(K:qaf)(C:Addr)(f:Str):Prop:=W.findIn K (.ref C) f=some none
def cN.Zm{K:qaf}{f:Str}(n:cN K C f):W.takerIn K C f\none:=by unfold W.takerIn;rw[show W.findIn K (.ref C) f\none from n];rfl
section
variable{X:Cx}{ε:qaa}{σ:St}{H:Hp}{fs:List (Str×V)}{f:Str}{v:V}{E:qad}
def BI{b:Bool}{Q:qad}(I:Inv X ε σ H s)(e:H a\.ins C dx fs)(c:Im X.K C)(n:cN X.K C f)(l:fs.lookup f\v)(h:∀u s',Inv X ε σ H s'->RelV v u->Q u s'):wpAny (model X.prog X.w) A (getAttr (.ref a) f b) Q E s:=by let(mA,O,r,_,_,_):=DO I.bZ e;let(u,hu,ru):=l7.some_of (by rw[<- l];exact r f);exact get_map I.vT O (c.get f) c.hd n hu (F4 ru) (h u _ (I.tok _) ru)
theorem BJ{y:V}{Q:Unit->Shared->Prop}(I:Inv X ε σ H s)(e:H a\.ins C dx fs)(c:Im X.K C)(n:cN X.K C f)(hl:fs.length<1000)(ry:RelV y u)(h:∀s',Inv X ε σ (upd H a (.ins C dx (jo f y fs))) s'->Q Unit.unit s'):wpAny (model X.prog X.w) A (setAttr (.ref a) f u) Q E s:=by
 let(mA,O,r,wi,_,ho):=DO I.bZ e;have hz:(fs.map (·.1)).length<=sizeLine:=by rw[bS,π];lia
 refine OC I.vT O c.sa c.po n.Zm c.hd wi hz λh' O' sb=>h _ ?_;have hd:∃o,h'.get? dx\o:=let #[o,_,_,e',_]:=O'.ns;#[o,e'];refine I.write (by rw[e];exact True.intro) (.inr ho) (λb q hb z=>(sb.2 b hb).trans z) hd #[by rw[aG O.ne];exact ho,?_,O.ne,O'.obj,_,O'.ns,λg=>?_,λg hg=>?_];have:=oR f y fs;lia;rw[oQ];by_cases q:g=f;rw[ι q,ι q];exact ry;rw[θ q,θ q];exact r g;by_cases q:g=f;rw[q];exact (nN f y fs).1;refine (nN f y fs).2 g (wi g λz=>hg ?_);show (if g=f then some u else mA g)=none;rw[θ q];exact z
def Inv.made(I:Inv X ε σ H s):Inv X ε σ (upd (upd H 8 (.own (8+1))) (8+1) (.ins C 8 []))
  {s with heap:=(s.heap.push W.emptyDict).push (W.instObj C 8)}:=by
 have e1:(s.heap.push W.emptyDict).get? 8\W.emptyDict:=gQ s.heap 9;have e2:((s.heap.push W.emptyDict).push (W.instObj C 8)).get? (8+1)\W.instObj C 8:=by
  have:=gQ (s.heap.push W.emptyDict) (o:=W.instObj C 8) 9
  rwa [uP] at this
 have e3:(s.heap.push W.emptyDict).Ns 8 (λ_=>none):=#[W.emptyDict,([].toArray),_,e1,9,(λe he=>absurd he 6),λ_=>rfl];have I1:=I.laid (o:=.own (8+1)) (t':=s.toks) (λb u q=>dF _ q) (cL _) #[_,e1];refine I1.laid (t':=s.toks) (λb u q=>dF _ q) (Yb (uP _ _)) ?_;have ne:8≠8+1:=hV (qw _);refine#[by rw[aG ne,aK],fB _,ne,e2,λ_=>none,(Heap.Ns1.of_empty e3).at λo q=>dF _ q,λ_=>True.intro,λy hy=>absurd 9 hy]
def OD{env:Env}{f:Str}{pos:Pos}{Q:qad}(hb:attributeBase e f env (eval e env)=eval e env)(h:wpAny 14 A (eval e env) (λo s₁=>wpAny 14 A (getAttr o f true) Q E s₁) E s):wpAny 14 A (eval (.Attribute e f pos) env) Q E s :=
 Attribute_any_ h (by rw[arm_eval_Attribute,hb])
end
def aff(K:qaf)(ta:TE)(f:Str):TE:=λσ H Q=>ta σ H λx H1=>∃a C dx fs v,x=.ref a/\H1 a\.ins C dx fs/\Im K C/\cN K C f/\fs.lookup f\v/\Q v H1
def afg(K:qaf)(ta tv:TE)(f:Str):TS:=λD σ H=>tv σ H λy H1=>ta σ H1 λx H2=>∃a C dx fs,x=.ref a/\H2 a\.ins C dx fs/\Im K C/\cN K C f/\fs.length<1000 /\
 D.nx σ (upd H2 a (.ins C dx (jo f y fs)))
section
variable{X:Cx}{o value:Expr}{f:Str}{pos:Pos}{ta tv:TE}
def BK(he:PE X e ta)(hb:attributeBase e f X.env (eval e X.env)=eval e X.env):PE X (.Attribute e f pos) (aff X.K ta f):=by intro ε s σ H Q I h;refine OD hb (cT (he ε s σ H _ I h) λu s1 #[x,H1,I1,rx,a,C,dx,fs,v,ex,ea,c,n,l,q]=>?_);subst ex;obtain rfl:=rx;exact BI I1 ea c n l λu' s2 I2 ru=>#[v,H1,I2,ru,q]
def UN(ha:PE X o ta)(hv:PE X value tv)(hs:swapsWith value (some (.Attribute o f pos')) pos.line X.env=pure false):PS X (.Assign [.Attribute o f pos'] value pos) (afg X.K ta tv f):=by intro ε s σ H D I h;refine plainObj_wpAny_Assign_Attribute (cT (hv ε s σ H _ I h) λu s1 #[y,H1,I1,ry,q]=>cT (ha ε s1 σ H1 _ I1 q) λov s2 #[x,H2,I2,rx,a,C,dx,fs,ex,ea,c,n,l,q2]=>?_) hs;subst ex;obtain rfl:=rx;exact BJ I2 ea c n l ry λs3 I3=>#[σ,_,I3,q2]
end
structure bG(k:Nat)(A:Around):Prop where
 hd:A.handled=none
 dp:A.depth+3 * k+05<recursionLimit
 un:A.units+16 * k+200<cLine
def bG.mono{k:Nat}(r:bG k A)(h:j<=k):bG j A:=#[r.hd,by have:=r.dp;lia,by have:=r.un;lia]
def bG.deeper{k:Nat}(r:bG (k+1) A)(env:Env):bG k (A.deeper env) :=
 #[r.hd,by have:=r.dp;show A.depth+1+3 * k+05<_;lia,by have:=r.un;show A.units+3+16 * k+200<_;lia]
def BL{us:qag}{kw:List (Str×Value)}:(A.under (.builtin "type.__call__" #[.ref C::us,kw])).depth=A.depth+1:=by first|rfl|simp[Around.under,Code.weight,Code.isCreation,Code.isGuard,Code.isCaller,Code.frames,Code.isFrame,guardIds]
def BM{us:qag}{kw:List (Str×Value)}:(A.under (.builtin "type.__call__" #[.ref C::us,kw])).units=A.units+1:=by first|rfl|simp[Around.under,Code.cUnits,Code.frames,Code.isFrame]
def bG.make{k:Nat}(r:bG (k+1) A)(C:Addr)(us:qag)(kw:List (Str×Value)):bG k (A.under (.builtin "type.__call__" #[.ref C::us,kw])) :=
 #[r.hd,by have:=r.dp;rw[BL];lia,by have:=r.un;rw[BM];lia]
def bG.depth{k:Nat}(r:bG k A):A.depth<recursionLimit:=by have:=r.dp;lia
def afh:TA:=λ_ H Q=>Q [] H
def Zn(ta:TE)(tr:TA):TA:=λσ H Q=>ta σ H λx H1=>tr σ H1 λxs H2=>Q (x::xs) H2
section
variable{X:Cx}{es:qap}{te:TE}{t:TA}{pos:Pos}
def cV:PA X [] afh:=λ_ _ _ _ H Q I h=>Calls.spliced_nil #[[],H,I,.nil,h]
def bD(ha:PE X e te)(hr:PA X es t)(hs:starEach (e::es) X.env=(false,eval e X.env)::starEach es X.env:=by rfl):PA X (e::es) (Zn te t):=by intro pos ε s σ H Q I h;rw[hs];exact YS (cT (ha ε s σ H _ I h) λu s1 #[x,H1,I1,r1,q1]=>cT (hr pos ε s1 σ H1 _ I1 q1) λus s2 #[xs,H2,I2,r2,q2]=>#[x::xs,H2,I2,.cons r1 r2,q2])
def afi(t:TA):TE:=λσ H Q=>t σ H λxs H1=>xs.length<=sizeLine/\∀p,H1 p=none->Q (.ref p) (upd H1 p (.tup xs))
def afj(t:TA):TE:=λσ H Q=>t σ H λxs H1=>xs.length<=sizeLine/\∀p,H1 p=none->Q (.ref p) (upd H1 p (.lst xs))
def qD{x1}(h:PA X es t):PE X (.Tuple es x1 pos) (afi t):=by intro ε s σ H Q I hq;refine wpAny_Tuple_spliced (cT (h pos ε s σ H _ I hq) λus s1 #[xs,H1,I1,r,z,q]=>#[by rw[<- r.length];exact z,?_]);have hf:=I1.bZ.fresh (cL _);refine#[.ref s1.heap.objs.size,upd H1 s1.heap.objs.size (.tup xs),I1.laid (λb u e=>dF _ e) (cL _) ?_,9,q _ hf];exact#[z,us,r,#[_,gQ _ 9,9,_,9]]
def UO(h:PA X es t):PE X (.List es pos) (afj t):=by intro ε s σ H Q I hq;refine wpAny_List_spliced (cT (h pos ε s σ H _ I hq) λus s1 #[xs,H1,I1,r,z,q]=>#[by rw[<- r.length];exact z,?_]);have hf:=I1.bZ.fresh (cL _);refine#[.ref s1.heap.objs.size,upd H1 s1.heap.objs.size (.lst xs),I1.laid (λb u e=>dF _ e) (cL _) ?_,9,q _ hf];exact#[z,us,0,r,gQ _ 9]
end
abbrev Sp:=List V->Hp->VK->XK->Prop
abbrev Io:=List Env->Hp->Shared->XK->qad
structure BO(P:Program)(w:World)(K:qaf)(mg:qae)(base:Heap)(A:Around)(outer:List Env)(s:Shared)(H:Hp):Prop where
 frames:A.frames\outer
 mod:Mod K mg base
 bs:∀b o,base.get? b\o->s.heap.get? b\o/\H b=none
 Oa:base.objs.size<=8
 pM:s.heap.FunFrames base outer
 Uj:∀b∈Il outer,H b=none
 bZ:kL P w H s.heap
 bare:AllBare s.gens
def CE(outer:List Env)(P:Program)(w:World)(H:Hp)(s:Shared)(Q:VK)(u:Value)(s':Shared):Prop :=
 ∃v H',s'.os=s.os/\AllBare s'.gens/\Un (Il outer) [] H H' s.heap s'.heap/\kL P w H' s'.heap/\RelV v u/\Q v H'
def CR(CX:Io)(outer:List Env)(P:Program)(w:World)(H:Hp)(s:Shared)(Q:VK)(E:XK)(r:Result)(s':Shared):Prop :=
 match r with
 |.ok (.ret u)=>CE outer P w H s Q u s'
 |.ok _=>False
 |.error e=>CX outer H s E e s'
structure eD(P:Program)(w:World)(K:qaf)(mg:qae)(base:Heap)(CX:Io)(k:Nat)(f:Addr)(fd:FuncData)(ps:χ)(sp:Sp):Prop where
 len:∀vs H Q E,sp vs H Q E->vs.length=ps.length
 run:∀(A:Around)(outer:List Env)(s:Shared)(H:Hp)(args:Args)(us:qag)(vs:List V)(Q:VK)(E:XK),bG k A->BO P w K mg base A outer s H->BindsTo s fd args (ps.zip us)->Vals vs us->sp vs H Q E ->
  codeAny (model P w) A (.call (.ref f) args) (CR CX outer P w H s Q E) s
def BO.make{K:qaf}{mg:qae}{outer:List Env}{H:Hp}(e:BO P w K mg base A outer s H)(C:Addr)(us:qag)(kw:List (Str×Value)) :
 BO P w K mg base (A.under (.builtin "type.__call__" #[.ref C::us,kw])) outer s H:=#[by first|exact e.frames|(simpa[Around.under,Code.envs,Code.isFrame,pushEnvs] using e.frames),e.mod,e.bs,e.Oa,e.pM,e.Uj,e.bZ,e.bare]
section
variable{X:Cx}{ε:qaa}{σ:St}{H:Hp}
def Inv.Zo(I:Inv X ε σ H s):BO X.prog X.w X.K X.mg X.base X.A X.stack s H :=
 #[I.ok.frames,I.ok.mod,I.bs,kJ I.ok.Oa I.sz,I.stack,I.DG,I.bZ,I.bare]
def Inv.after{Q:VK}(I:Inv X ε σ H s)(h:CE X.stack X.prog X.w H s Q u s'):EP X ε σ Q u s':=by let(v,H',os,bare,un,bZ,r,q):=h;let(hh,g,d,t,os'):=s';obtain rfl:=os;exact#[v,H',I.call un bZ bare (λb z=>absurd z 6),r,q]
end
def Zp(sp:Sp)(yP:List V)(E:XK)(t:TA):TE:=λσ H Q=>t σ H λvs H1=>sp (vs++yP) H1 Q E
def Zq(C:Addr)(sp:Sp)(yP:List V)(E:XK)(t:TA):TE:=λσ H Q=>t σ H λvs H1=>∀x dx,H1 x=none->H1 dx=none->dx≠x ->
 sp (.ref x::(vs++yP)) (upd (upd H1 dx (.own x)) x (.ins C dx [])) (λv H2=>v=.bY/\Q (.ref x) H2) E
def Binds(K:qaf)(fd:FuncData)(ps:χ)(ds:qag):Prop :=
 ∀(s:Shared)(us:qag),K.In s.heap->(us++ds).length=ps.length->BindsTo s fd #[us,[]] (ps.zip (us++ds))
def Binds.all{K:qaf}{ps:χ}(h:∀us:qag,us.length=ps.length->bindArgs fd #[us,[]]=pure (ps.zip us)):Binds K fd ps []:=λs us _ hl=>by rw[Ie] at hl ⊢;exact .of_eq (h us hl)
def Passes(CX:Io)(X:Cx)(E:XK):Prop:=∀(ε:qaa)(σ:St)(H:Hp)(s:Shared)(e:Value)(s':Shared),Inv X ε σ H s->CX X.stack H s E e s'->X.xe e s'
section
variable{X:Cx}{CX:Io}{k:Nat}{ps:χ}{sp:Sp}{yP:List V}{ds:qag}{E:XK}{m:Str}{pos:Pos}{o:Expr}{es:qap}{ta:TE}{t:TA}
def UP{ε:qaa}{σ:St}{H:Hp}{Q:VK}{us:qag}{vs:List V}(F:eD X.prog X.w X.K X.mg X.base CX k f fd ps sp)(hr:bG k X.A)(hb:Binds X.K fd ps ds)(hd:Vals yP ds)(hx:Passes CX X E)(I:Inv X ε σ H s)(r:Vals vs us)(h:sp (vs++yP) H Q E):wpAny (model X.prog X.w) X.A (call (.ref f) us) (EP X ε σ Q) X.xe s:=by
 have r2:=r.append hd;have hl:(us++ds).length=ps.length:=by rw[<- r2.length];exact F.len _ _ _ _ h
 refine wpAny_call (aax (F.run X.A X.stack s H #[us,[]] (us++ds) (vs++yP) Q E hr I.Zo (hb s us I.vT hl) r2 h) λr s' hq=>?_);cases r with
 |error e=>exact hx ε σ H s e s' I hq
 |ok fl=>
  cases fl with
  |ret u=>exact I.after hq
  |_=>exact False.elim hq
def j1(F:eD X.prog X.w X.K X.mg X.base CX k f fd ps sp)(hr:bG k X.A)(hg:Gl X x)(hm:X.mg x\.ref f)(hk:W.keepIn X.K (.ref f)=true)(hb:Binds X.K fd ps ds)(hd:Vals yP ds)(hx:Passes CX X E)(ha:PA X (e::es) t)(ua:gG x:=by decide)(he:starEach (e::es) X.env=(false,eval e X.env)::starEach es X.env:=by rfl)(j2:(backTo pos (starEach es X.env)).any (·.1)=false:=by rfl) :
  PE X (.Call (.Name x p) (e::es) [] pos) (Zp sp yP E t):=by
 intro ε s σ H Q I h;exact aaw (vU I hg hm (W.callWith_K I.ok.mod.kin hk (cT (ha pos ε s σ H _ I h) λus s1 #[vs,H1,I1,r,q]=>#[I1.vT,UP F hr hb hd hx I1 r q]) he j2) ua)
structure Mk(K:qaf)(C f:Addr):Prop where
 makes:W.makesIn K C=true
 init:W.findIn K (.ref C) "__init__"\some (.ref f)
 fn:W.isFn K (.ref f)=true
 kp:W.keepIn K (.ref C)=true
theorem Jd{ε:qaa}{σ:St}{H:Hp}{Q:VK}{us:qag}{vs:List V}(M:Mk X.K C f)(F:eD X.prog X.w X.K X.mg X.base CX k f fd ps sp)(hr:bG (k+1) X.A)(hb:Binds X.K fd ps ds)(hd:Vals yP ds)(hx:Passes CX X E)(I:Inv X ε σ H s)(r:Vals vs us)(h:∀x dx,H x=none->H dx=none->dx≠x->sp (.ref x::(vs++yP)) (upd (upd H dx (.own x)) x (.ins C dx [])) (λv H2=>v=.bY/\Q (.ref x) H2) E) :
  wpAny (model X.prog X.w) X.A (call (.ref C) us) (EP X ε σ Q) X.xe s:=by
 have hq:=h (8+1) 8 (I.bZ.fresh (IK _)) (I.bZ.fresh (cL _)) (hV (qw _));have I2:=Inv.made (C:=C) I;have r2:Vals (V.ref (8+1)::(vs++yP)) (Value.ref (8+1)::(us++ds)):=.cons 9 (r.append hd);have hl:(Value.ref (8+1)::us++ds).length=ps.length:=by have e:=r2.length;rw[F.len _ _ _ _ hq] at e;exact e.symm
 refine wpAny_call (Jc I.vT M.makes M.init (aaS.mp M.fn) (aax (F.run _ X.stack _ _ #[Value.ref (8+1)::us,[]] (Value.ref (8+1)::(us++ds)) _ _ E (hr.make C us [])
  (I2.Zo.make C us []) (hb _ (Value.ref (8+1)::us) I2.vT hl) r2 hq) λr s' tS=>?_))
 cases r with
 |error e=>exact hx ε σ _ _ e s' I2 tS
 |ok fl=>
   cases fl with
   |ret u=>let(v,H',I3,rv,ev,q3):=I2.after tS;subst ev;exact#[rv,#[V.ref (8+1),H',I3,9,q3]]
   |_=>exact False.elim tS
def DP(M:Mk X.K C f)(F:eD X.prog X.w X.K X.mg X.base CX k f fd ps sp)(hr:bG (k+1) X.A)(hg:Gl X x)(hm:X.mg x\.ref C)(hb:Binds X.K fd ps ds)(hd:Vals yP ds)(hx:Passes CX X E)(ha:PA X (e::es) t)(ua:gG x:=by decide)(he:starEach (e::es) X.env=(false,eval e X.env)::starEach es X.env:=by rfl)(j2:(backTo pos (starEach es X.env)).any (·.1)=false:=by rfl) :
  PE X (.Call (.Name x p) (e::es) [] pos) (Zq C sp yP E t):=by
 intro ε s σ H Q I h;exact aaw (vU I hg hm (W.callWith_K I.ok.mod.kin M.kp (cT (ha pos ε s σ H _ I h) λus s1 #[vs,H1,I1,r,q]=>#[I1.vT,Jd M F hr hb hd hx I1 r q]) he j2) ua)
end
section
variable{X:Cx}{CX:Io}{k:Nat}{ps ks:χ}{sp:Sp}{E:XK}{m:Str}{pos OE:Pos}{o:Expr}{es:qap}{kws:List Keyword}{te ta:TE}{t tk:TA}{nm:Option Str}
variable{g:qag->qag->qag}{gV:List V->List V->List V}
end
structure az(N P:χ)(sc:Scope):Prop where
 kind:sc.kind=.function
 co:sc.isCoroutine=false
 gen:sc.isGenerator=false
 nd:N.Nodup
 pre:N.take P.length=P
 par:∀x∈P,sc.names.lookup x\.local\/sc.names.lookup x\.cell
 UQ:∀y∈sc.names,y.2≠.free
def eU{N P:χ}(a:sc.kind=.function:=by rfl)(b:sc.isCoroutine=false:=by rfl)(c:sc.isGenerator=false:=by rfl)(d:N.Nodup:=by decide +kernel)(e:N.take P.length=P:=by rfl)(f:∀x∈P,sc.names.lookup x\.local\/sc.names.lookup x\.cell:=by decide +kernel)(g:∀y∈sc.names,y.2≠.free:=by decide +kernel):az N P sc:=#[a,b,c,d,e,f,g]
theorem uU{kindOf:Str->Option NameKind}{x:Str}:∀{binds:List (Str×Value)}{m:qae},(∀v,(x,v)∉binds)->bindL kindOf binds m x=m x
 |[],_,_=>rfl
 | (n,v)::r,m,h=>by
  unfold bindL;rw[uU λw hw=>h w (iB _ hw)];split;have:x≠n:=by rintro rfl;exact h v iz
  simp[this];rfl
theorem uV{kindOf:Str->Option NameKind}{x:Str}:∀{binds:List (Str×Value)}{m:qae},(∀v,(x,v)∉binds)->bindC kindOf binds m x=m x
 |[],_,_=>rfl
 | (n,v)::r,m,h=>by
  unfold bindC;rw[uV λw hw=>h w (iB _ hw)];split;rfl;have:x≠n:=by rintro rfl;exact h v iz
  simp[this]
theorem uW{kindOf:Str->Option NameKind}{x:Str}{v:Value}:∀{P:χ}{vs:qag}{i:Nat}{m:qae},P.Nodup->P[i]?\x->vs[i]?\v->kindOf x\.local ->
  bindL kindOf (P.zip vs) m x\v
 |[],_,_,_,_,h,_,_=>by simp at h
 |_::_,[],_,_,_,_,h,_=>by simp at h
 |p::P,w::vs,0,m,nd,h1,h2,hk=>by simp at h1 h2;subst h1;subst h2;show bindL kindOf ((p,w)::P.zip vs) m p=_;unfold bindL;rw[uU λv hv=>(qx.mp nd).1 (List.of_mem_zip hv).1,ι hk];simp
 |p::P,w::vs,i+1,m,nd,h1,h2,hk=>by unfold bindL;exact uW (qx.mp nd).2 (by simpa using h1) (by simpa using h2) hk
theorem uX{kindOf:Str->Option NameKind}{x:Str}{v:Value}:∀{P:χ}{vs:qag}{i:Nat}{m:qae},P.Nodup->P[i]?\x->vs[i]?\v->kindOf x≠some .local ->
  bindC kindOf (P.zip vs) m x\v
 |[],_,_,_,_,h,_,_=>by simp at h
 |_::_,[],_,_,_,_,h,_=>by simp at h
 |p::P,w::vs,0,m,nd,h1,h2,hk=>by simp at h1 h2;subst h1;subst h2;show bindC kindOf ((p,w)::P.zip vs) m p=_;unfold bindC;rw[uV λv hv=>(qx.mp nd).1 (List.of_mem_zip hv).1,θ hk];simp
 |p::P,w::vs,i+1,m,nd,h1,h2,hk=>by unfold bindC;exact uX (qx.mp nd).2 (by simpa using h1) (by simpa using h2) hk
def start(N:χ)(vs:List V):St:=vs.map some++List.replicate (N.length-vs.length) none
def h7(CX:Io)(P:Program)(w:World)(K:qaf)(mg:qae)(base:Heap)(N:χ)(qual:Str)(scope:Scope)(f:Addr)(cd:Value)(A:Around)(outer:List Env)(s:Shared)(H:Hp)(E:XK):Cx where
 prog:=P
 w:=w
 K:=K
 mg:=mg
 base:=base
 A:=A.deeper (envOfC qual scope 8 f cd)
 N:=N
 s₀:=s
 H₀:=H
 env:=envOfC qual scope 8 f cd
 outer:=outer
 stack:=envOfC qual scope 8 f cd::outer
 ex:=[]
 calm:=true
 fn:=λ_=>true
 pn:=[]
 xe:=λe s'=>wpAny (model P w) (A.deeper (envOfC qual scope 8 f cd)) (leaving (envOfC qual scope 8 f cd) e) (λ_ Yf=>CX outer H s E e Yf) (λe' Yf=>CX outer H s E e' Yf) s'
def yQ(h:sc.names.lookup x\.cell):∃c,(cellsFrom n sc.names []).lookup x\c:=by have q:=W.cellsFrom_some sc.names n [] (.inl h);exact Option.isSome_iff_exists.mp q
def F5{CX:Io}{K:qaf}{mg:qae}{N ps:χ}{scope:Scope}{cd:Value}{outer:List Env}{s1:Shared}{H:Hp}{E:XK}{us:qag}{vs:List V}(S:az N ps scope)(hd:A.handled=none)(e0:BO P w K mg base A outer s H)(hl:vs.length=ps.length)(r:Vals vs us)(x:InCallC s 8 (bindL (envOfC qual scope 8 f cd).kindOf (ps.zip us) λ_=>none) (cellsFrom (8+1) scope.names []) (bindC (envOfC qual scope 8 f cd).kindOf (ps.zip us) λ_=>none) s1) :
  Inv (h7 CX P w K mg base N qual scope f cd A outer s H E) [] (start N vs) H s1:=by
 have j2:ps.length<=N.length:=by have:=aaa List.length S.pre;rw[N5] at this;lia
 let(h1,tk,rfl,hk):=x.done;have Zr:∀b:Addr,b∉(h7 CX P w K mg base N qual scope f cd A outer s H E).ex:=λb z=>absurd (show b∈([]:qah) from z) 6;refine#[#[e0.mod,S.kind,9,9,cL _,λy z c h1 h2=>?_,λy hy=>?_,λy c _ h=>?_,λ_=>hd,Around.frames_deeper e0.frames,.inr #[9,9],λb z=>absurd z (Zr b),e0.bs,e0.Oa,λb _ _=>Zr b,λb z=>absurd z (Zr b),e0.pM,e0.Uj],
  rfl,e0.bare,Un.kept hk,#[_,x.toInCall.ns,λi y v h1 h2 h3=>?_],λy c h=>#[_,x.cell y c h],e0.bZ.fresh (cL _),λy c h=>?_,λp hp=>absurd (show p∈([]:qaa) from hp) 6,e0.bZ.kept hk,?_]
 exact name_of_addr x.apart (RY h1) (RY h2);have hy:=hy;obtain hy|hy:=hy
 exact yQ hy;exact absurd 9 (S.UQ _ (RY hy));exact T' (x.above y c (RY h));have hi:i<vs.length:=by unfold start at h2;by_cases hi:i<vs.length;exact hi;rw[uN (by simpa using hi)] at h2;rw[Ib] at h2;split at h2<;>cases h2
 have ha:vs[i]?\v:=by
  unfold start at h2;rw[pI (by simpa using hi),fU] at h2;cases e:vs[i]? with
  |none=>rw[e] at h2;cases h2
  |some a=>rw[e] at h2;cases h2;rfl
 let(u,hu,rv):=r.get ha;have hp:ps[i]?\y:=by rw[<- S.pre,List.getElem?_take_of_lt ()];exact h1
 have ndP:ps.Nodup:=by rw[<- S.pre];exact S.nd.sublist (List.take_sublist _ _)
 refine#[u,rv,?_];rcases S.par y (fL hp) with k|k
 exact .inl #[k,uW ndP hp hu k];let(c,e):=yQ k;refine .inr #[.inl k,c,e,?_];have q:=x.cell y c e;rw[uX ndP hp hu (by show scope.names.lookup y≠_;rw[k];decide)] at q;exact q;exact e0.bZ.fresh (T' (x.above y c (RY h)));unfold start;show _=N.length;rw[fS,bS,NN]
 lia
theorem DQ{CX:Io}{K:qaf}{mg:qae}{k:Nat}{name:Str}{params:Arguments}{body:qaq}{scope:Scope}{dV kV doc pm bL ct oc:Value}{an od:qar}{BP:Array (Option Value)}{N ps:χ}{sp:Sp}(lk:K.lookup f=some #[oc,od,.func (W.fnOf name qual params body scope dV kV doc pm an bL ct),BP])(fW:W.codeIn K bL qual=true)(S:az N ps scope)(len:∀vs H Q E,sp vs H Q E->vs.length=ps.length)(fG:∀(A:Around) (outer:List Env) (s:Shared) (H:Hp) (vs:List V) (Q:VK) (E:XK),bG k (A.deeper (envOfC qual scope 8 f bL))->sp vs H Q E ->
    ∃t,ko (h7 CX P w K mg base N qual scope f bL A outer s H E) body t/\t {nx:=λ_ H'=>Q .bY H',rt:=Q} (start N vs) H) :
  eD P w K mg base CX (k+1) f (W.fnOf name qual params body scope dV kV doc pm an bL ct) ps sp:=by
 refine#[len,λA outer s H args us vs Q E hr e0 hb r Sg=>?_];have hl:=len _ _ _ _ Sg;have KX:=e0.mod.kin.keeps λb o e=>(e0.bs b o e).1;have lim:=e0.mod.nolimit.keeps λb o e=>(e0.bs b o e).1;have Zs:∀y∈ps.zip us,scope.names.lookup y.1\.local\/(scope.names.lookup y.1\.cell/\((cellsFrom (8+1) scope.names []).lookup y.1).isSome=true):=λ#[n,v] hy=>by
  rcases S.par n (List.of_mem_zip hy).1 with q|q
  exact .inl q;exact .inr #[q,W.cellsFrom_some _ _ _ (.inl q)]
 refine codeAny_call_function hr.depth (KX _ _ lk) 9 S.co S.gen 9 (W.codeRec_of KX fW) (hb _ _ _ _ (wpAny_newFunctionEnv_cells S.kind Zs λenv he s1 x=>?_));subst he;refine#[lim.keeps x.toInCall.keep,codeAny_func ?_];let(t,ht,hq):=fG A outer s H vs Q E (hr.deeper _) Sg;have I:Inv (h7 CX P w K mg base N qual scope f bL A outer s H E) [] (start N vs) H s1:=F5 S hr.hd e0 hl r x;refine zm (ht [] s1 (start N vs) H _ I hq) (λfl s' hs=>?_) λe s' hs=>hs;have fin:∀{σ':St}{H':Hp}{v:V}{u:Value},Inv (h7 CX P w K mg base N qual scope f bL A outer s H E) [] σ' H' s'->RelV v u->Q v H'->CE outer P w H s Q u s' :=
  λ{σ' H' v u} J rv q=>#[v,H',J.os,J.bare,J.base,J.bZ,rv,q]
 cases fl with
 |ret u=>let(v,σ',H',J,rv,q):=hs;exact fin J rv q
 |next=>let(σ',H',J,q):=hs;exact fin (v:=V.bY) J 9 q
 |brk=>let(_,_,_,q):=hs;exact False.elim q
 |cont=>let(_,_,_,q):=hs;exact False.elim q
section
variable{X:Cx}{pos:Pos}{es:qap}{t:TA}{id T:String}{r:List V->Hp->VK->Prop}
def tCB(r:List V->Hp->VK->Prop)(t:TA):TE:=λσ H Q=>t σ H λvs H1=>r vs H1 Q
def jq(hc:dh X (.builtin id) r)(hg:Gl X x)(hm:X.mg x=none)(hv:bootBuiltins x\.builtin id)(ha:PA X (e::es) t)(hn:x≠"__name__":=by decide)(ua:gG x:=by decide)(he:starEach (e::es) X.env=(false,eval e X.env)::starEach es X.env:=by rfl)(j2:(backTo pos (starEach es X.env)).any (·.1)=false:=by rfl):PE X (.Call (.Name x p) (e::es) [] pos) (tCB r t):=by intro ε s σ H Q I h;exact aaw (nK I hg hm hv (PyProof.Rows.callWith_builtin1 (cT (ha pos ε s σ H _ I h) λus s1 #[vs,H1,I1,r1,q1]=>hc ε s1 σ H1 vs us Q I1 r1 q1) he j2) hn ua)
def nP(hc:dh X (.type T) r)(hg:Gl X x)(hm:X.mg x=none)(hv:bootBuiltins x\.type T)(ha:PA X (e::es) t)(hn:x≠"__name__":=by decide)(ua:gG x:=by decide)(he:starEach (e::es) X.env=(false,eval e X.env)::starEach es X.env:=by rfl)(j2:(backTo pos (starEach es X.env)).any (·.1)=false:=by rfl):PE X (.Call (.Name x p) (e::es) [] pos) (tCB r t):=by intro ε s σ H Q I h;exact aaw (nK I hg hm hv (ab2 (cT (ha pos ε s σ H _ I h) λus s1 #[vs,H1,I1,r1,q1]=>hc ε s1 σ H1 vs us Q I1 r1 q1) he j2) hn ua)
end
end L2
variable{K:qaf}{X:L2.Cx}{H H':L2.Hp}{σ:L2.St}{E Q:qad}{v:L2.V}{ε:qaa}{mg:qae}{ps ys:χ}{es elts:qap}{te ta:L2.TE}{net:qan}{us:qag}{ks:List (List L2.Key)}{sp:L2.Sp}{rest:qaq}{fp:qah}{bj:List (List L2.Key×L2.V)}
abbrev qac:=List (PySem.Str×L2.V)
abbrev qak:=List L2.V
namespace HT
open PySem PyProof.Rows
section
open PySem.SeqAt
open PySem.AutoSeq1 (wpAny_loadPart')
open PySem.MeetsSeq PySem.MeetsSeq2 PySem.MeetsSeq3
end
section
def OF{t b:Addr}{vs ws:qag}(ht:IsTup s.heap t vs.toArray)(hb:IsTup s.heap b ws.toArray)(hv:vs≠[])(h1:ws=[]->Q (.ref t) s)(h2:ws≠[]->Q (.ref 8) {s with heap:=s.heap.push {cls:=.type "tuple",data:=.seq (vs++ws).toArray} })(hsz:vs.length+ws.length<=sizeLine):wpAny 14 A (binaryOp .Add (.ref t) (.ref b)) Q E s:=by
 let((cls,dd,data,sl),ho,hc,n,hd):=id ht;let((Zt,Yg,data2,Yh),Ip,OG,n2,hd2):=id hb;subst hc hd OG hd2;have e:vs.toArray++ws.toArray=(vs++ws).toArray:=by simp
 by_cases hw:ws=[];exact concat_meets #[_,ho,9] #[_,Ip,9] noFill_tuple_add seq_tuple_add acS acO (acL _ _)
  (tuple_addW1 t b vs.toArray ws.toArray n n2 dd Yg sl Yh (by simpa using hv) (by simp[hw])) #[ho,Ip,h1 hw]
 refine concat_meets #[_,ho,9] #[_,Ip,9] noFill_tuple_add seq_tuple_add acS acO (acL _ _)
  (tuple_addW2 t b vs.toArray ws.toArray n n2 dd Yg sl Yh (by simpa using hv) (by simpa using hw) (by rw[iD,iD];exact hsz)) #[ho,Ip,?_]
 rw[e];exact h2 hw
def fD(n d:Nat):Option Int->Nat
 |none=>d
 |some v=>if v<0 then (v+(n:Int)).toNat else min v.toNat n
def Je(n d:Nat):fD n d none=d:=rfl
def OH(n d k:Nat):fD n d (some (k:Int))=min k n:=by show (if k<0 then (k+(n:Int)).toNat else min (k:Int).toNat n)=min k n;rw[θ (),i_]
def afk(n d:Nat)(hd:d<=n)(o:Option Int):fD n d o<=n:=by
 cases o with
 |none=>exact hd
 |some v=>show (if v<0 then (v+n).toNat else min v.toNat n)<=n;by_cases hv:v<0;rw[ι hv];lia;rw[θ hv];exact Nat.min_le_right _ _
def DR(v:Int)(n d:Nat):(if v<0 then max (v+(n:Int)) 0 else min v (n:Int))=((fD n d (some v):Nat):Int):=by show (if v<0 then max (v+n) 0 else min v n)=(((if v<0 then (v+n).toNat else min v.toNat n):Nat):Int);by_cases hv:v<0;simp only[ι hv];lia;simp only[θ hv];lia
def BQ(lo hi:Option Int)(n:Nat):Builtin.Slice.sliceAdjust lo hi 1 (n:Int)=(((fD n 0 lo:Nat):Int),((fD n n hi:Nat):Int)):=by
 unfold Builtin.Slice.sliceAdjust;refine Prod.ext ?_ ?_;cases lo with
 |none=>rfl
 |some v=>exact DR v n 0
 cases hi with
 |none=>rfl
 |some v=>exact DR v n n
def BR(i j:Nat):Builtin.Slice.slicePlaces (i:Int) (j:Int) 1=j-i:=by unfold Builtin.Slice.slicePlaces;split<;>lia
def qF{v:Value}{o:Option Int}{Q:Option Int->Shared->Prop}(p:IsPart v o)(h:Q o s):wpAny 14 A (Builtin.Slice.slicePartIndex v) Q E s:=by
 cases p with
 |none=>exact slicePart_none h
 |int i t=>exact slicePart_int h
def nQ{sl:Addr}{vl vu:Value}{lo hi:Option Int}{Q:Int×Int×Nat->Shared->Prop}(hs:s.heap.IsSliceOf sl vl vu .none)(pl:IsPart vl lo)(pu:IsPart vu hi)(h:Q (((fD n 0 lo:Nat):Int),1,fD n n hi-fD n 0 lo) s):wpAny 14 A (Builtin.Slice.sliceApplied (.ref sl) (pure (n:Int))) Q E s:=by let(os,Zu,hcs,hds):=id hs;refine ζ (ζ (Φ Zu hds 9 (ζ (Φ Zu hds 9 (ζ (Φ Zu hds 9 (η (ζ (slicePart_none (ζ (qF pl (ζ (qF pu (ζ (η ?_)))))))))))))));show wpAny _ _ (match Builtin.Slice.sliceAdjust lo hi 1 n with|(lo,hi)=>pure (lo,(1:Int),Builtin.Slice.slicePlaces lo hi 1)) _ _ s;rw[BQ lo hi n];show wpAny _ _ (pure (((fD n 0 lo:Nat):Int),(1:Int),Builtin.Slice.slicePlaces ((fD n 0 lo:Nat):Int) ((fD n n hi:Nat):Int) 1)) _ _ s;rw[BR];exact η h
def Jf(xs:Array Value)(i k:Nat):((List.range k).filterMap λ(m:Nat)=>xs[((i:Int)+(m:Int) * 1).toNat]?).toArray=((xs.toList.drop i).take k).toArray:=by
 have e:(λ(m:Nat)=>xs[(i+(m:Int) * 1).toNat]?)=λm=>xs[i+m]?:=by
  funext m;have:(i+(m:Int) * 1).toNat=i+m:=by lia
  rw[this]
 rw[e];have:=pick_run xs i k;rw[List.filterMap_map] at this;have e2:((λx=>xs[x]?) ∘ λx=>i+x)=λm=>xs[i+m]?:=rfl;rw[e2] at this;rw[this]
def ma{t sl:Addr}{items:Array Value}{vl vu:Value}{lo hi:Option Int}(ht:IsTup s.heap t items)(hs:s.heap.IsSliceOf sl vl vu .none)(pl:IsPart vl lo)(pu:IsPart vu hi)(hw:¬ (fD items.size 0 lo=0/\fD items.size items.size hi=items.size))(h:Q (.ref 8) {s with heap:=s.heap.push {cls:=.type "tuple",data:=.seq ((items.toList.drop (fD items.size 0 lo)).take (fD items.size items.size hi-fD items.size 0 lo)).toArray} })(hsz:items.size<=sizeLine):wpAny 14 A (getItem (.ref t) (.ref sl)) Q E s:=by
 have DS:sizeOk (.seq ((items.toList.drop (fD items.size 0 lo)).take (fD items.size items.size hi-fD items.size 0 lo)).toArray):=by
  show ((items.toList.drop (fD items.size 0 lo)).take (fD items.size items.size hi-fD items.size 0 lo)).toArray.size<=sizeLine;rw[iD,N5,X9,FH]
  lia
 let(os,Zu,hcs,hds):=id hs;have hTs:s.TypeIs (.ref sl) "slice":=#[os,Zu,hcs];unfold getItem
 try with_reducible refine Ω ?_
 first|refine ζ (η ?_)|skip
 refine ζ (wpAny_sequenceKey ht.typeIs 15 ?_);refine ζ (ψ ht.typeIs acn
  (υ acn ht.typeIs entry_tuple_getitem ?_ (args_tuple_getitem _ _)))
 show wpAny _ _ (Builtin.Tuple.tupleItemsOf (.ref t) >>= _) _ _ s;refine ζ (tupleItemsOf_ ht (ζ (wpAny_typeOf hTs (ζ (nQ hs pl pu ?_)))));have hno:¬ ((((fD items.size 0 lo:Nat):Int)==0 && (1:Int)==1 && (fD items.size items.size hi-fD items.size 0 lo)==items.size)=true):=by intro q;rw[pK,pK] at q;have q1:=eq_of_beq q.1.1;have q2:=eq_of_beq q.2;exact hw #[(),()]
 show wpAny _ _ (if (((fD items.size 0 lo:Nat):Int)==0 && (1:Int)==1 && (fD items.size items.size hi-fD items.size 0 lo)==items.size)=true then _ else _) _ _ s;rw[θ hno,Jf]
 first
  |exact ζ (Δ (η #[_,9,η h]) DS)
  |exact ζ (Δ (ζ (η (η #[_,9,η h]))) DS)
  |exact ζ (ζ (Δ (η (η #[_,9,η h])) DS))
  |exact ζ (ζ (Δ (η #[_,9,η h]) DS))
end
end HT
variable{vs xs:qak}
namespace L2
open PySem PySem.Spec PyProof.Rows
abbrev TO:=St->Hp->(Option Int->Hp->Prop)->Prop
def PO(X:Cx)(e:Option Expr)(t:TO):Prop :=
 ∀(ε:qaa)(s:Shared)(σ:St)(H:Hp)(Q:Option Int->Hp->Prop),Inv X ε σ H s->t σ H Q ->
  wpAny (model X.prog X.w) X.A (evalPart e X.env) (λu s'=>∃o H',Inv X ε σ H' s'/\IsPart u o/\Q o H') X.xe s
def OI:TO:=λ_ H Q=>Q none H
def Zv(t:TE):TO:=λσ H Q=>t σ H λx H1=>∃i,x=.int i/\Q (some i) H1
def intsAre_of{ns:qan}:∀{us:qag},Vals (ns.map V.int) us->IntsAre us ns:=by
 induction ns with
 |nil=>intro us r;rw[Yc] at r;cases r;exact .nil
 |cons n ns ih=>
  intro us r;cases r with
  |cons r1 r2=>let(t,e):=r1;subst e;exact .cons n t (ih r2)
section
variable{lo hi:Option Expr}{tl th:TO}{pos:Pos}
def OJ:PO X none OI:=by intro ε s σ H Q I h;exact η #[none,H,I,.none,h]
def OL(h:PE X e te):PO X (some e) (Zv te):=by intro ε s σ H Q I hw;refine cT (h ε s σ H _ I hw) λu s1 #[x,H1,I1,r1,q1]=>?_;let(i,rfl,q):=q1;let(t,rfl):=r1;exact#[some i,H1,I1,.int i t,q]
def Jg(X:Cx)(r:V->Option Int->Option Int->Hp->VK->Prop):Prop :=
 ∀(ε:qaa)(s:Shared)(σ:St)(H:Hp)(x:V)(v vl vu:Value)(lo hi:Option Int)(sl:Addr)(Q:VK),Inv X ε σ H s->RelV x v->s.heap.IsSliceOf sl vl vu .none->IsPart vl lo->IsPart vu hi->r x lo hi H Q ->
  ∃T id,typeLookup (.type T) "__getitem__"=pure (some (.builtin id))/\s.TypeIs v T/\wpAny (model X.prog X.w) X.A (getItem v (.ref sl)) (EP X ε σ Q) X.xe s
def Jg.or{r r':V->Option Int->Option Int->Hp->VK->Prop}(h:Jg X r)(h':Jg X r'):Jg X (λx lo hi H Q=>r x lo hi H Q\/r' x lo hi H Q):=by
 intro ε s σ H x v vl vu lo hi sl Q I rx hs pl pu q;obtain q|q:=q
 exact h ε s σ H x v vl vu lo hi sl Q I rx hs pl pu q;exact h' ε s σ H x v vl vu lo hi sl Q I rx hs pl pu q
def tSl(r:V->Option Int->Option Int->Hp->VK->Prop)(te:TE)(tl th:TO):TE:=λσ H Q=>te σ H λx H1=>tl σ H1 λl H2=>th σ H2 λu H3=>r x l u H3 Q
def Jh{r:V->Option Int->Option Int->Hp->VK->Prop}(hr:Jg X r)(he:PE X e te)(hl:PO X lo tl)(hu:PO X hi th):PE X (.Subscript e (.Slice lo hi none p2) pos) (tSl r te tl th):=by intro ε s σ H Q I h;refine Subscript_ (cT (he ε s σ H _ I h) λv s1 #[x,H1,I1,r1,q1]=>wpAny_Slice (cT (hl ε s1 σ H1 _ I1 q1) λvl s2 #[l,H2,I2,pl,q2]=>cT (hu ε s2 σ H2 _ I2 q2) λvu s3 #[u,H3,I3,pu,q3]=>η ?_));have I4:Inv X ε σ H3 {s3 with heap:=s3.heap.push {cls:=.type "slice",data:=.fields ([vl,vu,.none].toArray)} }:=I3.kept λb ob q=>dF _ q;let(T,id,hT,ht,hg):=hr ε {s3 with heap:=s3.heap.push {cls:=.type "slice",data:=.fields ([vl,vu,.none].toArray)} } σ H3 x v vl vu l u s3.heap.objs.size Q I4 r1 (Heap.IsSliceOf.new ..) pl pu q3;exact tail_any ht hT hg (by with_unfolding_all rfl)
def F6(xs:qak)(lo hi:Option Int):qak:=(xs.drop (HT.fD xs.length 0 lo)).take (HT.fD xs.length xs.length hi-HT.fD xs.length 0 lo)
theorem oS(xs:qak)(lo hi:Option Int):(F6 xs lo hi).length<=xs.length:=by
 unfold F6;rw[N5,X9]
 lia
def Zw(K:qaf):V->Option Int->Option Int->Hp->VK->Prop:=λx lo hi H Q=>∃a xs,x=.ref a/\e_ K H a xs /\
 ¬ (HT.fD xs.length 0 lo=0/\HT.fD xs.length xs.length hi=xs.length)/\∀p,H p=none->Q (.ref p) (upd H p (.tup (F6 xs lo hi)))
def UR:Jg X (Zw X.K):=by
 intro ε s σ H x v vl vu lo hi sl Q I rx hs pl pu h;let(a,xs,rfl,hx,hw,q):=h;cases rx;let(aR,r,ht,hz):=I.tuple hx;have hlen:aR.toArray.size=xs.length:=by rw[iD];exact r.length.symm
 refine#["tuple",_,acn.lookup,ht.typeIs,HT.ma ht hs pl pu (by rw[hlen];exact hw) ?_ (by rw[hlen];exact hz)];rw[hlen];refine#[.ref 8,_,I.laid (λb ob q=>dF _ q) (cL _) ?_,9,q _ (I.bZ.fresh (cL _))];exact#[kJ (oS xs lo hi) hz,_,(r.drop (HT.fD xs.length 0 lo)).take (HT.fD xs.length xs.length hi-HT.fD xs.length 0 lo),IsTup.new _ _]
def Vals.iF(r:Vals xs us):us=[]↔xs=[]:=by
 cases r with
 |_=>simp
end
def vY(n:Nat)(i:Int):Option Nat:=if 0<=i then (if i<n then some i.toNat else none) else if -(n:Int)<=i then some (i+n).toNat else none
def h9{α:Type}(xs:List α)(i:Int):Option α:=(vY xs.length i).bind λj=>xs[j]?
def DT{i:Int}(h:vY n i\j):seqIndex? i n\j/\j<n/\-(n:Int)<=i/\i<n:=by unfold vY at h;by_cases h0:0<=i;rw[ι h0] at h;by_cases h1:i<n;rw[ι h1] at h;have e:=Option.some.inj h;exact#[by rw[seqIndex_of h0 h1,e],(),(),h1];rw[θ h1] at h;cases h;rw[θ h0] at h;by_cases h1 : -n<=i;rw[ι h1] at h;have e:=Option.some.inj h;exact#[by rw[seqIndex_neg () h1,e],(),h1,()];rw[θ h1] at h;cases h
def p9{xs:List α}{i:Int}{v:α}(h:h9 xs i\v):∃j,seqIndex? i xs.length\j/\xs[j]?\v/\j<xs.length/\-(xs.length:Int)<=i/\i<xs.length:=by
 unfold h9 at h;cases e:vY xs.length i with
 |none=>rw[e] at h;cases h
 |some j=>rw[e] at h;let(h1,h2,h3,h4):=DT e;exact#[j,h1,h,h2,h3,h4]
def ai{xs:List α}{v:α}(h:xs[j]?\v):h9 xs (j:Int)\v:=by
 have hj:=(c7.mp h).1;have e:vY xs.length j\j:=by unfold vY;rw[ι (),ι ()];simp
 unfold h9;rw[e];exact h
theorem aaU{a:α}{l:List α}:h9 (a::l) 0\a:=ai (j:=0) 9
theorem aaV{a b:α}{l:List α}:h9 (a::b::l) 1\b:=ai (j:=1) 9
theorem aaW{a b c:α}{l:List α}:h9 (a::b::c::l) 2\c:=ai (j:=2) 9
theorem aaX{a b c d:α}{l:List α}:h9 (a::b::c::d::l) 3\d:=ai (j:=3) 9
theorem aaY{a b c d e:α}{l:List α}:h9 (a::b::c::d::e::l) 04\e:=ai (j:=04) 9
def qG(xs:List α)(v:α):h9 (xs++[v]) (-1)\v:=by
 have hl:(xs++[v]).length=xs.length+1:=by simp
 have e:vY (xs++[v]).length (-1)\xs.length:=by
  unfold vY;rw[hl,θ 15,ι ()]
  congr 1
  lia
 unfold h9;rw[e];simp
def vZ(b:Expr):Prop:=∀o i,subscripted b false o i=operate [o,i] (getItem o i)
def OM(X:Cx)(r:R2):Prop :=
 ∀(value slice:Expr)(ε:qaa)(s:Shared)(σ:St)(H:Hp)(x y:V)(v u:Value)(Q:VK),Inv X ε σ H s->RelV x v->RelV y u->r x y H Q ->
  subscripted slice false v u=operate [v,u] (getItem v u)->wpAny (model X.prog X.w) X.A (subscriptTail value slice v u) (EP X ε σ Q) X.xe s
def Sh(X:Cx)(id:String)(r:V->qak->Hp->VK->Prop):Prop :=
 ∀(ε:qaa)(s:Shared)(σ:St)(H:Hp)(x:V)(xs:qak)(v:Value)(us:qag)(Q:VK),Inv X ε σ H s->RelV x v->Vals xs us->r x xs H Q ->
  wpAny (model X.prog X.w) X.A (call (.builtin id) (v::us)) (EP X ε σ Q) X.xe s
section
variable{a:Expr}{tb:TE}{pos:Pos}
def OM.or{r r':R2}(h:OM X r)(h':OM X r'):OM X (λx y H Q=>r x y H Q\/r' x y H Q):=by
 intro value slice ε s σ H x y v u Q I rx ry q hs;obtain q|q:=q
 exact h value slice ε s σ H x y v u Q I rx ry q hs;exact h' value slice ε s σ H x y v u Q I rx ry q hs
def Si{r:R2}(hr:OM X r)(ha:PE X a ta)(hb:PE X b tb)(hs:vZ b):PE X (.Subscript a b pos) (Zh r ta tb):=by intro ε s σ H Q I h;exact Subscript_ (Uz ha hb I h λv u s2 x y H2 I2 rx ry q=>hr a b ε s2 σ H2 x y v u Q I2 rx ry q (hs _ _))
def UT(K:qaf):R2:=λx y H Q=>∃p xs i v,x=.ref p/\y=.int i/\f_ K H p xs/\h9 xs i\v/\Q v H
def Zx(K:qaf):R2:=λx y H Q=>∃p xs i v,x=.ref p/\y=.int i/\e_ K H p xs/\h9 xs i\v/\Q v H
def Zy:R2:=λx y H Q=>∃z i c,x=.str z/\y=.int i/\z.length<=sizeLine/\h9 z.cps.toList i\c/\Q (.str #[([c].toArray)]) H
theorem ON:OM X (UT X.K):=by
 intro value slice ε s σ H x y v u Q I rx ry h hs;let(p,xs,i,z,rfl,rfl,hq,he,q):=h;cases rx;let(t,rfl):=ry;let(aR,r,pl,hz):=I.list hq;let(j,h1,h2,h3,h4,h5):=p9 he;let(w,ew,rw'):=r.get h2;have hl:=r.length;have hn:=k9;have fin:EP X ε σ Q w s:=#[z,H,I,rw',q];by_cases h0:0<=i;have hj:i.toNat=j:=by rw[seqIndex_of h0 h5] at h1;exact Option.some.inj h1
 exact item_listR pl.isList h0 () (by rw[hj];simpa using ew) fin hs;have hj:(i+(aR.toArray.size:Int)).toNat=j:=by rw[seqIndex_neg () h4] at h1;rw[iD,<- hl];exact Option.some.inj h1
 exact subscriptTail_builtinR pl.isList.typeIs slot_list_getitem.lookup
  (wpAny_getItem_list_neg pl.isList () (by rw[iD]<;>lia) () (by rw[hj];simpa using ew) #[9,fin]) hs
theorem UU:OM X (Zx X.K):=by
 intro value slice ε s σ H x y v u Q I rx ry h hs;let(p,xs,i,z,rfl,rfl,hq,he,q):=h;cases rx;let(t,rfl):=ry;let(aR,r,pl,hz):=I.tuple hq;let(j,h1,h2,h3,h4,h5):=p9 he;let(w,ew,rw'):=r.get h2;have hl:=r.length;have hn:=k9;have fin:EP X ε σ Q w s:=#[z,H,I,rw',q];exact subscriptTail_builtinR pl.typeIs slot_tuple_getitem.lookup
  (getItem_tuple pl () () (by rw[iD,<- hl];exact h1) (by simpa using ew) #[9,fin]) hs
theorem UW:OM X Zy:=by
 intro value slice ε s σ H x y v u Q I rx ry h hs;let(z,i,c,rfl,rfl,hz,he,q):=h;let(t,rfl):=rx;let(t',rfl):=ry;let(j,h1,h2,h3,h4,h5):=p9 he;have hl:z.cps.toList.length=z.length:=by simp[Str.length]
 rw[hl] at h1 h4 h5;have hn:=k9;exact tail_any (typeIs_str s z t) slot_str_getitem.lookup (getItem_str (by have e1:decide (i < -(2 ^ 63:Int))=false:=ς ();have e2:decide (i ≥ 2 ^ 63)=false:=ς ();rw[e1,e2,Bool.or_false]) (by rw[h1];simpa using h2) #[.str #[([c].toArray)],H,I.tok _,#[_,9],q]) hs
def rIx(K:qaf):R2:=λx y H Q=>UT K x y H Q\/Zx K x y H Q\/Zy x y H Q
def Ji:OM X (rIx X.K):=ON.or (UU.or UW)
def BU(aR:qag)(n j:Nat)(u:Value):Obj.mapSeq (·.setIfInBounds j u) {cls:=.type "list",data:=.seq aR.toArray n}={cls:=.type "list",data:=.seq (aR.set j u).toArray n}:=by simp[Obj.mapSeq]
def Inv.lst{p:Addr}(I:Inv X ε σ H s)(h:H p\.lst xs) :
  ∃(aR:qag)(n:Nat),Vals xs aR/\s.heap.get? p=some {cls:=.type "list",data:=.seq aR.toArray n}/\xs.length<=sizeLine:=by
 let(z,aR,n,r,e):=I.bZ p _ h;exact#[aR,n,r,e,z]
def Inv.UX{p:Addr}{ys:qak}{aR its':qag}{n':Nat}{f:Obj->Obj}(I:Inv X ε σ H s)(h:H p\.lst xs)(ho:s.heap.get? p=some {cls:=.type "list",data:=.seq aR.toArray n})(hf:f {cls:=.type "list",data:=.seq aR.toArray n}={cls:=.type "list",data:=.seq its'.toArray n'})(r:Vals ys its')(hz:ys.length<=sizeLine)(t:Nat) :
  Inv X ε σ (upd H p (.lst ys)) {s with heap:=s.heap.update p f,toks:=t}:=by
 have e:(s.heap.update p f).get? p=some {cls:=.type "list",data:=.seq its'.toArray n'}:=by rw[T3 f ho (by rw[hf]<;>rfl),hf]
 refine I.write (by rw[h];trivial) 5 (λb u hb q=>(Heap.get?_update_other _ _ (Ne.symm hb)).trans q) #[_,e] ?_;exact#[hz,its',n',r,e]
def Zz:V->V->V->Hp->(Hp->Prop)->Prop:=λo i v H Q=>∃p xs k j,o=.ref p/\i=.int k/\H p\.lst xs/\vY xs.length k\j/\Q (upd H p (.lst (xs.set j v)))
theorem set_list:Ur X Zz:=by
 intro ε s σ H o i v ov iv u Q I ro ri rv h;let(p,xs,k,j,rfl,rfl,hp,hj,q):=h;cases ro;let(t,rfl):=ri;let(aR,n,r,ho,hz):=I.lst hp;let(h1,h2,h3,h4):=DT hj;have hl:=r.length;have hn:=k9;have I' :=
  I.UX hp ho (BU aR n j u) (r.set rv j) (by rw[List.length_set];exact hz) s.toks
 by_cases h0:0<=k;have hk:k.toNat=j:=by rw[seqIndex_of h0 h4] at h1;exact Option.some.inj h1
 exact W.ki_setAt ho h0 () (by rw[iD,<- hl];exact h4) (by rw[hk];exact#[_,I',q]);have hk:(k+(aR.toArray.size:Int)).toNat=j:=by rw[seqIndex_neg () h3] at h1;rw[iD,<- hl];exact Option.some.inj h1
 exact W.ki_setBack ho () (by rw[iD,<- hl];exact h3) () (by rw[hk];exact#[_,I',q])
theorem v5(lo hi:Option Int)(n:Nat):(sliceBounds lo hi none n).1=((HT.fD n 0 lo:Nat):Int)/\(sliceBounds lo hi none n).2.1=((HT.fD n n hi:Nat):Int)/\(sliceBounds lo hi none n).2.2=1:=by
 refine#[?_,?_,9];cases lo with
 |none=>simp[sliceBounds,HT.fD]
 |some i=>simp only[sliceBounds,HT.fD,acW,show 1 > 0 by decide,aaT];by_cases h:i<0;simp only[h,aaT]<;>lia;simp only[h,aau]<;>lia
 cases hi with
 |none=>simp[sliceBounds,HT.fD]
 |some i=>simp only[sliceBounds,HT.fD,acW,show 1 > 0 by decide,aaT];by_cases h:i<0;simp only[h,aaT]<;>lia;simp only[h,aau]<;>lia
def uc(aR:qag)(lo hi:Option Int):slicePick aR.toArray lo hi none=((aR.drop (HT.fD aR.length 0 lo)).take (HT.fD aR.length aR.length hi-HT.fD aR.length 0 lo)).toArray:=by let(h1,h2,h3):=v5 lo hi aR.toArray.size;unfold slicePick;rw[h1,h2,h3];simp only[sliceRange_one,pick_run,iD]<;>rfl
def ZA(K:qaf):V->Option Int->Option Int->Hp->VK->Prop:=λx lo hi H Q=>∃a xs,x=.ref a/\f_ K H a xs/\∀p,H p=none->Q (.ref p) (upd H p (.lst (F6 xs lo hi)))
theorem OQ:Jg X (ZA X.K):=by intro ε s σ H x v vl vu lo hi sl Q I rx hs pl pu h;let(a,xs,rfl,hx,q):=h;cases rx;let(aR,r,ht,hz):=I.list hx;have hlen:=r.length;refine#["list",_,slot_list_getitem.lookup,ht.isList.typeIs,wpAny_getItem_list_slice ht.isList hs pl pu .none 6 ?_ (by rw[iD]<;>lia)];rw[uc,<- hlen];refine#[.ref 8,_,I.laid (λb ob q=>dF _ q) (cL _) ?_,9,q _ (I.bZ.fresh (cL _))];exact#[kJ (oS xs lo hi) hz,_,0,(r.drop (HT.fD xs.length 0 lo)).take (HT.fD xs.length xs.length hi-HT.fD xs.length 0 lo),gQ _ 9]
def jr:V->Bool
 |.bY=>true
 |.bl _=>true
 |.int _=>true
 |.str _=>true
 |_=>false
def NU:V->V->Bool
 |.bY,.bY=>true
 |.bl a,.bl b=>a==b
 |.bl a,.int b=>(if a then 1 else 0)==b
 |.int a,.bl b=>a==(if b then 1 else 0)
 |.int a,.int b=>a==b
 |.str a,.str b=>a==b
 |_,_=>false
def UY{y x:V}{v:Value}(ry:RelV y u)(rx:RelV x v)(fy:jr y=true)(fx:jr x=true):SeqAt.EqAt A s u v (NU y x):=by
 cases y with
 |bY=>
  cases ry;cases x with
  |bY=>cases rx;exact SeqAt.EqAt.same _
  |bl b=>cases rx;exact SeqAt.EqAt.none_bool b
  |int b=>let(t,rfl):=rx;exact SeqAt.EqAt.none_int b t
  |str b=>let(t,rfl):=rx;exact SeqAt.EqAt.none_str b t
  |_=>exact absurd (show false=true from fx) iC
 |bl a=>
  cases ry;cases x with
  |bY=>cases rx;exact SeqAt.EqAt.bool_none a
  |bl b=>cases rx;exact SeqAt.EqAt.bool_bool a b
  |int b=>let(t,rfl):=rx;exact SeqAt.EqAt.bool_int a b t
  |str b=>let(t,rfl):=rx;exact SeqAt.EqAt.bool_str a b t
  |_=>exact absurd (show false=true from fx) iC
 |int a=>
  let(t',rfl):=ry;cases x with
  |bY=>cases rx;exact SeqAt.EqAt.int_none a t'
  |bl b=>cases rx;exact SeqAt.EqAt.int_bool a t' b
  |int b=>let(t,rfl):=rx;exact SeqAt.EqAt.int_int a t' b t
  |str b=>let(t,rfl):=rx;exact SeqAt.EqAt.int_str a t' b t
  |_=>exact absurd (show false=true from fx) iC
 |str a=>
  let(t',rfl):=ry;cases x with
  |bY=>cases rx;exact SeqAt.EqAt.str_none a t'
  |bl b=>cases rx;exact SeqAt.EqAt.str_bool a t' b
  |int b=>let(t,rfl):=rx;exact SeqAt.EqAt.str_int a t' b t
  |str b=>let(t,rfl):=rx;exact SeqAt.EqAt.str_str a t' b t
  |_=>exact absurd (show false=true from fx) iC
 |_=>exact absurd (show false=true from fy) iC
def BV(x:V)(u:Value):Bool:=match u with
 |.none=>NU .bY x
 |.bool b=>NU (.bl b) x
 |.int i _=>NU (.int i) x
 |.str z _=>NU (.str z) x
 |_=>false
def Jj{x y:V}(r:RelV y u)(f:jr y=true):BV x u=NU y x:=by
 cases y with
 |bY=>cases r;rfl
 |bl b=>cases r;rfl
 |int i=>let(t,rfl):=r;rfl
 |str z=>let(t,rfl):=r;rfl
 |_=>exact absurd (show false=true from f) iC
theorem mf{x:V}:∀{xs:qak}{us:qag},Vals xs us->xs.all jr=true->us.any (BV x)=xs.any λy=>NU y x
 |_,_,.nil,_=>rfl
 |y::xs,u::us,.cons r t,f=>by rw[List.all_cons,pK] at f;rw[FN,FN,Jj r f.1,mf t f.2]
theorem jt{A:Around}{s:Shared}{x:V}{v:Value}(rx:RelV x v)(fx:jr x=true):∀{xs:qak}{us:qag},Vals xs us->xs.all jr=true->∀u∈us,SeqAt.EqAt A s u v (BV x u)
 |_,_,.nil,_=>λu hu=>by cases hu
 |y::xs,u::us,.cons r t,f=>λu' hu=>by
  rw[List.all_cons,pK] at f;rcases dQ.mp hu with rfl|hu
  rw[Jj r f.1];exact UY r rx f.1 fx;exact jt rx fx t f.2 u' hu
def inV(x:V)(xs:qak):Bool:=xs.any λy=>NU y x
def rIn(K:qaf)(neg:Bool):R2:=λx y H Q=>∃p xs,y=.ref p/\(f_ K H p xs\/e_ K H p xs)/\jr x=true/\xs.all jr=true/\Q (.bl (if neg then !inV x xs else inV x xs)) H
def F7:fF X (compareOp .In) (rIn X.K false):=by
 intro ε s σ H x y v u Q I rx ry h;let(p,xs,rfl,hq,fx,fs,q):=h;cases ry;obtain hq|hq:=hq
 let(aR,r,pl,hz):=I.list hq;refine SeqAt.in_listAt (BV x) pl.isList (λw hw=>jt rx fx r fs w (by simpa using hw)) #[.bl _,H,I,9,?_];rw[show aR.toArray.any (BV x)=aR.any (BV x) by simp,mf r fs];exact q;let(aR,r,pl,hz):=I.tuple hq;refine SeqAt.in_tupleAt (BV x) pl (λw hw=>jt rx fx r fs w (by simpa using hw)) #[.bl _,H,I,9,?_];rw[show aR.toArray.any (BV x)=aR.any (BV x) by simp,mf r fs];exact q
def v7:fF X (compareOp .NotIn) (rIn X.K true):=by
 intro ε s σ H x y v u Q I rx ry h;let(p,xs,rfl,hq,fx,fs,q):=h;cases ry;obtain hq|hq:=hq
 let(aR,r,pl,hz):=I.list hq;refine SeqAt.notIn_listAt (BV x) pl.isList (λw hw=>jt rx fx r fs w (by simpa using hw)) #[.bl _,H,I,9,?_];rw[show aR.toArray.any (BV x)=aR.any (BV x) by simp,mf r fs];exact q;let(aR,r,pl,hz):=I.tuple hq;refine SeqAt.notIn_tupleAt (BV x) pl (λw hw=>jt rx fx r fs w (by simpa using hw)) #[.bl _,H,I,9,?_];rw[show aR.toArray.any (BV x)=aR.any (BV x) by simp,mf r fs];exact q
def v8:fF X (compareOp .NotIn) (λx y H Q=>∃i j,x=.str i/\y=.str j/\Q (.bl (!(!(Builtin.Str.occurrences j i 0 j.length 1).isEmpty))) H):=by intro ε s σ H x y v u Q I rx ry h;let(i,j,rfl,rfl,q):=h;let(t,rfl):=rx;let(t',rfl):=ry;exact notIn_str #[.bl _,H,I,9,q]
theorem v_:dh X (.builtin "len") (λxs H Q=>∃p ys,xs=[.ref p]/\(f_ X.K H p ys\/e_ X.K H p ys)/\Q (.int ys.length) H):=by
 intro ε s σ H xs us Q I r h;let(p,ys,rfl,hq,q):=h;let(u,rfl,rx):=vals1 r;cases rx;have hn:=k9;obtain hq|hq:=hq
 let(aR,r',pl,hz):=I.list hq;have hlen:=r'.length;exact Calls.call_len_list pl.isList (by simp only[iD]<;>lia) #[.int ys.length,H,I.tok _,#[s.toks+1,by rw[iD,hlen]],q];let(aR,r',pl,hz):=I.tuple hq;have hlen:=r'.length;exact len_tuple pl (by simp only[iD]<;>lia) #[.int ys.length,H,I.tok _,#[s.toks+1,by rw[iD,hlen]],q]
theorem wc:dh X (.builtin "len") (λxs H Q=>∃z,xs=[.str z]/\z.length<=sizeLine/\Q (.int z.length) H):=by intro ε s σ H xs us Q I r h;let(z,rfl,hz,q):=h;let(u,rfl,t,rfl):=vals1 r;have hn:=k9;exact len_str () #[.int z.length,H,I.tok _,#[_,9],q]
def dh.or{f:Value}{r r':qak->Hp->VK->Prop}(h:dh X f r)(h':dh X f r'):dh X f (λxs H Q=>r xs H Q\/r' xs H Q):=by
 intro ε s σ H xs us Q I rs q;obtain q|q:=q
 exact h ε s σ H xs us Q I rs q;exact h' ε s σ H xs us Q I rs q
theorem iG:dh X (.type "list") (λxs H Q=>∃p ys,xs=[.ref p]/\(f_ X.K H p ys\/e_ X.K H p ys)/\∀l,H l=none->Q (.ref l) (upd H l (.lst ys))):=by
 intro ε s σ H xs us Q I r h;let(p,ys,rfl,hq,q):=h;let(u,rfl,rx):=vals1 r;cases rx;have fin:∀aR,Vals ys aR->ys.length<=sizeLine->∀h' c',(∀b o',s.heap.get? b\o'->h'.get? b\o') ->
   h'.get? 8=some {cls:=.type "list",dict:=none,data:=.seq aR.toArray c',slots:=([].toArray)}->EP X ε σ Q (.ref 8) {s with heap:=h'}:=λaR r' hz h' c' kp e=>
  #[.ref 8,_,I.laid kp (cL _) (show cb X.prog X.w _ h' _ (.lst ys) from#[hz,aR,c',r',e]),9,q _ (I.bZ.fresh (cL _))]
 obtain hq|hq:=hq
 let(aR,r',pl,hz):=I.list hq;have hlen:=r'.length;let(o,ho,hc,n,hd):=pl.isList;exact call_list_seq p 5 ho hc hd (λh' c' kp e=>fin aR r' hz h' c' kp e) (by simp only[iD]<;>lia);let(aR,r',pl,hz):=I.tuple hq;have hlen:=r'.length;let(o,ho,hc,n,hd):=pl;exact call_list_seq p (.inr 9) ho hc hd (λh' c' kp e=>fin aR r' hz h' c' kp e) (by simp only[iD]<;>lia)
theorem kM:dh X (.type "tuple") (λxs H Q=>∃p ys,xs=[.ref p]/\((f_ X.K H p ys/\∀l,H l=none->Q (.ref l) (upd H l (.tup ys)))\/(e_ X.K H p ys/\Q (.ref p) H))):=by
 intro ε s σ H xs us Q I r h;let(p,ys,rfl,h):=h;let(u,rfl,rx):=vals1 r;cases rx;obtain⟨hq,q⟩|⟨hq,q⟩:=h
 let(aR,r',pl,hz):=I.list hq;have hlen:=r'.length;refine call_tuple_list pl.isList (λh' kp=>?_) (by simp only[iD]<;>lia);have I1:=I.kept (t':=s.toks) kp;have I2 :=
  I1.laid (t':=s.toks) (λb o e=>dF _ e) (cL _) (show cb X.prog X.w _ _ _ (.tup ys) from#[hz,aR,r',IsTup.new _ _])
 exact#[.ref h'.objs.size,_,I2,9,q _ (I1.bZ.fresh (cL _))];let(aR,r',pl,hz):=I.tuple hq;exact call_tuple_same pl #[.ref p,H,I,9,q]
def tyV(K:qaf)(T:String)(x:V)(H:Hp):Prop:=match x with
 |.str _=>T="str"
 |.int _=>T="int"
 |.ref p=>(T="list"/\∃xs,f_ K H p xs)\/(T="tuple"/\∃o,K.lookup p\o/\o.cls=.type "tuple"/\o.dict=none) \/
  (T="dict"/\((∃bj,H p\.dK bj)\/∃bj,H p\.dT bj))\/(T="set"/\∃S n,H p\.set S n)
 |_=>False
theorem Jk{T:String}{x:V}{v:Value}(I:Inv X ε σ H s)(r:RelV x v)(ty:tyV X.K T x H) :
  s.TypeIs v T/\∀a,v=.ref a->∃ob,s.heap.get? a\ob/\ob.dict=none:=by
 cases x with
 |str z=>let(t,rfl):=r;cases (show T="str" from ty);exact#[typeIs_str s z t,λ_ e=>nomatch e]
 |int i=>let(t,rfl):=r;cases (show T="int" from ty);exact#[aaH s i t,λ_ e=>nomatch e]
 |ref p=>
   cases r;obtain⟨rfl,xs,hq⟩|⟨rfl,o,hk,hc,hd⟩|⟨rfl,hk⟩|⟨rfl,S,n,hk⟩:=ty
   let(aR,_,pl,_):=I.list hq;refine#[pl.isList.typeIs,λa e=>?_];cases e;let(o,n,e,c,hd,_):=pl;exact#[o,e,hd];refine#[#[o,I.vT p o hk,hc],λa e=>?_];cases e;exact#[o,I.vT _ o hk,hd];have z:∃o,s.heap.get? p\o/\o.ExactDict:=by
    obtain⟨bj,hk⟩|⟨bj,hk⟩:=hk
    let(_,_,_,_,o,_,_,e,ex,_):=I.bZ p _ hk;exact#[o,e,ex];let(_,_,_,_,o,_,_,e,ex,_):=I.bZ p _ hk;exact#[o,e,ex]
   let(o,e,ex):=z;refine#[#[o,e,ex.1],λa e2=>?_];cases e2;exact#[o,e,ex.2.1];let(o,_,_,_,e,ex,_):=I.bZ p _ hk;refine#[#[o,e,ex.1],λa e2=>?_];cases e2;exact#[o,e,ex.2.1]
 |_=>exact False.elim ty
def afl(K:qaf)(T:String)(r:V->qak->Hp->VK->Prop)(to:TE):TE:=λσ H Q=>to σ H λx H1=>tyV K T x H1/\r x [] H1 Q
def tBM(K:qaf)(T:String)(r:V->qak->Hp->VK->Prop)(to:TE)(t:TA):TE:=λσ H Q=>to σ H λx H1=>tyV K T x H1/\t σ H1 λxs H2=>r x xs H2 Q
variable{o:Expr}{to:TE}{t:TA}{name:Str}{T id:String}{r:V->qak->Hp->VK->Prop}
def BW(pa:PlainAttrs T)(slot:Slot T name id)(UZ:typeOf (.builtin id)=pure (.type "method_descriptor"))(hm:Sh X id r)(ho:PE X o to)(du:attributeBase o name X.env (eval o X.env)=eval o X.env:=by rfl)(dw:(apos.endLine==bM.line)=true:=by rfl):PE X (.Call (.Attribute o name apos) [] [] bM) (afl X.K T r to):=by intro ε s σ H Q I h;refine wpAny_Call_method0_late du dw (cT (ho ε s σ H _ I h) λv s1 #[x,H1,I1,r1,ty,q1]=>?_);let(h1,h2):=Jk I1 r1 ty;exact#[T,id,pa,slot,UZ,h1,h2,YL 9 (PySem.evalArgs_none (hm ε s1 σ H1 x [] v [] Q I1 r1 .nil q1))]
def yR(pa:PlainAttrs T)(slot:Slot T name id)(UZ:typeOf (.builtin id)=pure (.type "method_descriptor"))(hm:Sh X id r)(ho:PE X o to)(ha:PA X (e::es) t)(du:attributeBase o name X.env (eval o X.env)=eval o X.env:=by rfl)(qH:((backTo bM (starEach (e::es) X.env)).all (λx=>!x.1) && (backToKw bM (keywordEach [] X.env)).all (λx=>x.1.isSome)
    && decide ((e::es).length+([]:List Keyword).length+(if ([]:List Keyword).isEmpty then 0 else 1)<30))=true:=by rfl)(dw:(apos.endLine==bM.line)=true:=by rfl)(hs:starEach (e::es) X.env=(false,eval e X.env)::starEach es X.env:=by rfl)(gi:(backTo bM (starEach es X.env)).any (·.1)=false:=by rfl) :
  PE X (.Call (.Attribute o name apos) (e::es) [] bM) (tBM X.K T r to t):=by
 intro ε s σ H Q I h;refine wpAny_Call_method_late du qH dw 9 (cT (ho ε s σ H _ I h) λv s1 #[x,H1,I1,r1,ty,q1]=>?_);let(h1,h2):=Jk I1 r1 ty;refine#[T,id,pa,slot,UZ,h1,h2,?_];have hA:=ha bM ε s1 σ H1 _ I1 q1;rw[hs] at hA ⊢;exact YL (by show (false || (backTo bM (starEach es X.env)).any (·.1))=false;rw[gi]<;>rfl) (Calls.evalArgs_plain (cT hA λus s2 #[vs,H2,I2,r2,q2]=>hm ε s2 σ H2 x vs v us Q I2 r1 r2 q2))
end
def MtM(X:Cx)(id:String)(r:V->qak->Hp->VK->Prop):Prop :=
 ∀(ε:qaa)(s:Shared)(σ:St)(H:Hp)(x:V)(xs:qak)(v:Value)(us:qag)(Q:VK),Inv X ε σ H s->RelV x v->Vals xs us->r x xs H Q ->
  wpAny (model X.prog X.w) X.A (call (.builtin id) (v::us)) (EP X ε σ Q) X.xe s
theorem Vals.one:∀{x:V}{us:qag},Vals [x] us->∃u,us=[u]/\RelV x u
 |_,_,.cons r .nil=>#[_,9,r]
theorem Vals.zero:∀{us:qag},Vals [] us->us=[]
 |_,.nil=>rfl
def Vals.dropLast(h:Vals xs us):Vals xs.dropLast us.dropLast:=by
 induction h with
 |nil=>exact .nil
 |cons r t ih=>
  cases t with
  |nil=>exact .nil
  |cons q t'=>exact .cons r ih
theorem Vals.rep{xs:qak}{us:qag}(h:Vals xs us):∀k:Nat,Vals (List.replicate k xs).flatten (List.replicate k us).flatten
 |0=>.nil
 |k+1=>Vals.append h (Vals.rep h k)
def BX(l:List α):l.eraseIdx (l.length-1)=l.dropLast:=by
 induction l with
 |nil=>rfl
 |cons a r ih=>
  cases r with
  |nil=>rfl
  |cons b r=>
   have e:(a::b::r).length-1=((b::r).length-1)+1:=by
    have h1:(a::b::r).length=r.length+2:=rfl;have h2:(b::r).length=r.length+1:=rfl
    lia
   rw[e,List.eraseIdx_cons_succ,ih]
   all_goals rfl
theorem foldl_rep(aR:qag):∀(k:Nat)(acc:qag),
  List.foldl (λx1 x2=>x1++x2) acc.toArray (List.replicate k aR.toArray)=(acc++(List.replicate k aR).flatten).toArray
 |0,acc=>by simp
 |k+1,acc=>by
   have e:acc.toArray++aR.toArray=(acc++aR).toArray:=by simp
   have e2:(acc++aR)++(List.replicate k aR).flatten=acc++(List.replicate (k+1) aR).flatten:=by rw[Ic,X8,yD]
   rw[<- e2,<- foldl_rep aR k (acc++aR),<- e,Ic,YU]
section
variable{l b:Addr}{ys zs:qak}
def Inv.OR{aR its':qag}{f:Array Value->Array Value}(I:Inv X ε σ H s)(hH:H l\.lst xs)(e:s.heap.get? l=some {cls:=.type "list",data:=.seq aR.toArray n})(hf:f aR.toArray=its'.toArray)(hv:Vals ys its')(hz:ys.length<=sizeLine) :
  Inv X ε σ (upd H l (.lst ys)) {s with heap:=s.heap.update l (Obj.mapSeq f),toks:=t'}:=by
 have q:=PySem.IsL.update e f;rw[hf] at q;refine I.write (by rw[hH];exact trivial) 5 (λb' u hb hu=>(Heap.get?_update_other s.heap (Obj.mapSeq f) (Ne.symm hb)).trans hu) #[_,q] ?_;exact#[hz,its',_,hv,q]
def Inv.ZC{aR:qag}(I:Inv X ε σ H s)(hv:Vals ys aR)(hz:ys.length<=sizeLine) :
  Inv X ε σ (upd H 8 (.lst ys)) {s with heap:=s.heap.push {cls:=.type "list",data:=.seq aR.toArray},toks:=t'} :=
 I.laid (λ_ _ q=>dF _ q) (cL _) #[hz,aR,0,hv,gQ _ 9]
def Inv.fresh(I:Inv X ε σ H s):H 8=none:=I.bZ.fresh (cL _)
def Inv.F8(I:Inv X ε σ H s)(hH:H l\.lst xs):xs.length<=sizeLine/\∃(aR:qag)(n:Nat),Vals xs aR/\xs.length=aR.length/\s.heap.get? l=some {cls:=.type "list",data:=.seq aR.toArray n}:=by let(z,aR,n,r,e):=I.bZ l _ hH;exact#[z,aR,n,r,r.length,e]
theorem qI(h:n<=sizeLine):Builtin.List.listTooLong n=false:=ς ()
end
section
def DU:V->qak->Hp->VK->Prop:=λx vs H Q=>∃l xs y,x=.ref l/\vs=[y]/\H l\.lst xs/\xs.length<sizeLine/\Q .bY (upd H l (.lst (xs++[y])))
def bo:MtM X "list.append" DU:=by
 intro ε s σ H x vs v us Q I rx rv h;let(l,xs,y,rfl,rfl,hH,hz,q):=h;cases rx;let(u,rfl,ru):=rv.one;let(z,aR,n,r,hl,e):=I.F8 hH;refine aaI F.slot_list_append #[_,e,9] F.entry_list_append (F.args_list_append_2 _ _) (PySem.list_append l aR.toArray n u (by rw[iD];lia)) #[e,#[.bY,_,I.OR hH e 6 (r.append (.cons ru .nil)) ?_,9,q]];rw[fS,NO]
 lia
def OS:V->qak->Hp->VK->Prop:=λx vs H Q=>∃l b xs zs,x=.ref l/\vs=[.ref b]/\H l\.lst xs/\H b\.lst zs/\xs.length+zs.length<=sizeLine/\Q .bY (upd H l (.lst (xs++zs)))
def F9:MtM X "list.extend" OS:=by
 intro ε s σ H x vs v us Q I rx rv h;let(l,b,xs,zs,rfl,rfl,hH,hB,hz,q):=h;cases rx;let(u,rfl,ru):=rv.one;cases ru;let(z,aR,n,r,hl,e):=I.F8 hH;let(z2,kq,n2,r2,Yi,e2):=I.F8 hB;have hsz:aR.toArray.size+kq.toArray.size<=sizeLine:=by rw[iD,iD];lia
 have yS:¬ (!aR.toArray.isEmpty && Builtin.List.listTooLong (aR.toArray.size+kq.toArray.size))=true:=by rw[qI hsz,YW];exact iC
 refine aaI F.slot_list_extend #[_,e,9] F.entry_list_extend (F.args_list_extend_2 _ _)
  (AutoSeq1.list_extend_list_list_0 l aR.toArray n b kq.toArray n2 yS (by rw[iD];lia) ()) #[e,e2,?_]
 refine#[.bY,_,I.OR (its':=aR++kq) hH e 6 (r.append r2) ?_,9,q];rw[fS]
 lia
def ZD:V->qak->Hp->VK->Prop:=λx vs H Q=>∃l xs y,x=.ref l/\vs=[]/\H l\.lst xs/\xs[xs.length-1]?\y/\Q y (upd H l (.lst xs.dropLast))
def we:MtM X "list.pop" ZD:=by
 intro ε s σ H x vs v us Q I rx rv h;let(l,xs,y,rfl,rfl,hH,hy,q):=h;cases rx;have hus:=rv.zero;subst hus;let(z,aR,n,r,hl,e):=I.F8 hH;let(u,hu,ru):=r.get hy;have U0:aR.toArray[aR.toArray.size-1]?\u:=by show aR.toArray[aR.length-1]?=some u;rw[<- DF,<- hl];exact hu
 refine aaI F.slot_list_pop #[_,e,9] F.entry_list_pop (F.args_list_pop_1 _) (MeetsSeq.list_pop_last l aR.toArray n u U0 (by rw[iD];lia)) #[e,#[y,_,I.OR hH e ?_ r.dropLast ?_,ru,q]];rw[iD,List.eraseIdxIfInBounds_toArray,BX];rw[Bt]
 lia
def afm:R2:=λx y H Q=>∃l k xs,x=.ref l/\y=.int k/\H l\.lst xs/\-(2 ^ 63)<=k/\k<2 ^ 63/\xs.length * k.toNat<=sizeLine /\
 ∀p,H p=none->Q (.ref p) (upd H p (.lst (List.replicate k.toNat xs).flatten))
def len_rep(xs:List α)(k:Nat):(List.replicate k xs).flatten.length=k * xs.length:=by
 induction k with
 |zero=>simp
 |succ k ih=>rw[Ic,X8,fS,ih,Nat.succ_mul,Nat.add_comm]
def U1:fF X (binaryOp .Mult) afm:=by
 intro ε s σ H x y v u Q I rx ry h;let(l,k,xs,rfl,rfl,hH,h1,h2,hz,q):=h;cases rx;let(t,rfl):=ry;let(z,aR,n,r,hl,e):=I.F8 hH;have hlen:aR.toArray.size * k.toNat<=sizeLine:=by rw[iD,<- hl];exact hz
 have afn:¬ aR.toArray.size * k.toNat > (2 ^ 63-1) / 08:=by
  have:sizeLine<=(2 ^ 63-1) / 08:=by decide
  lia
 have afo:¬ (!Builtin.List.listFitsIndex k)=true:=by rw[fitsIndex_both h1 h2];exact iC
 have yS:¬ Builtin.List.listTooLong (aR.toArray.size * k.toNat)=true:=by rw[qI hlen];exact iC
 have afp:List.foldl (λx1 x2=>x1++x2) ([].toArray) (List.replicate (if aR.toArray.isEmpty=true then 0 else k.toNat) aR.toArray)=(List.replicate k.toNat aR).flatten.toArray:=by
  have f0:=λm=>by have:=foldl_rep aR m [];rw[List.nil_append] at this;exact this
  rw[f0];cases aR with
  |nil=>simp
  |cons a r'=>rw[θ 6]
 refine wpAny_binaryOp_repeat_ref 15 #[_,e,9] (λs'=>aaH s' k t) noFill_list_mul F.fills_int_mul F.slot_int_rmul repeat_list F.slot_int_index.lookup
  (aaI F.slot_int_rmul (aaH s k t) F.entry_int_rmul (F.args_int_rmul_2 _ _) (int___rmul___int_list k t l aR.toArray n)
   #[e,9,#[_,e,9],aaI F.slot_list_mul #[_,e,9] F.entry_list_mul (F.args_list_mul_2 _ _) (AutoListH.list___mul___list_int_3 l aR.toArray n k t afo afn yS) #[e,?_]])
 rw[afp];exact#[.ref _,_,I.ZC (r.rep k.toNat) (by rw[len_rep,Nat.mul_comm];exact hz),9,q _ I.fresh]
end
end L2
namespace Att
open PySem PySem.W PySem.Calls PyProof.Rows
def pN{P:Params}:∀(ns:qan)(vs:qag),WellAll P h vs (ns.map WData.int)->IntsAre vs ns:=by
 intro ns;induction ns with
 |nil=>intro vs w;cases w;exact .nil
 |cons n ns ih=>
  intro vs w;cases w with
  |cons a b=>cases a;exact .cons _ _ (ih _ b)
theorem F_{l:OpenLaw}(hn:l.most\n){P:Params}{args:List WData}{vals:qag}(mh:l.row.toRowW.claim.pre args=true)(U2:WellAll P h vals args) :
  ∃a vs ns,vals=[Value.ref a]/\args=[WData.list (ns.map WData.int)]/\h.get? a=some {cls:=.type "list",data:=.seq vs.toArray}/\IntsAre vs ns/\ns.length<=n:=by
 have hsh:=(pre_splitW mh).1;have hc:l.pre.holds [] {args:=args}=true:=(pre_splitW mh).2;let(d,r,rfl,h1,h2):=hasAllW_cons hsh;obtain rfl:=hasAllW_nil h2;let(xs,rfl,h3):=hasW_list h1;let(ns,rfl):=items_int h3;have hlen:ns.length<=n:=by
  have h4:(WTm.not (.lt (.lit (.int n)) (.len (.arg 0)))).holds [] {args:=[.list (ns.map .int)]}=true:=by have h4:=(holds_andW hc).1;rw[hn] at h4;exact h4
  have h5:=condW_of h4 (w_not (w_lt w_lit (w_len_list (w_arg 9))))
  first
   | (rw[ο q'] at h5;exact absurd h5 15)
   | (simp at h5;lia)
 cases U2 with
 |cons w1 w2=>
   cases w2;cases w1 with
   |list ho pO=>exact#[_,_,ns,9,9,ho,pN ns _ pO,hlen]
def F'(l:OpenLaw)(args:List WData):l.row.toRowW.claim.post args (.bool true) args=true :=
 postW_of
  (show WShape.has [] (.bool true) .bool=true by first|rfl|decide|simp[WShape.has,WShape.arms,WShape.armsAll])
  (show (WTm.eq .res (.lit (.bool true))).value [] {args:=args,res:=some (.bool true),after:=args}\.bool (true==true) from w_eq_bool (w_res 9) w_lit) 9
def yT{l:OpenLaw}{q:Program}{loose:χ}{XP:(qae)->Heap->Prop}{YP:World->Heap->Prop}{d:DefRec}(hn:l.most\n)(hdf:d.params.defaults=[])(call:∀(w:World) (s₀ s₁:Shared) (mg mb:qae) (fa:Addr) (o:Obj) (pm cd doc:Value) (a:Addr) (vs:qag) (ns:qan),
    Ground q loose [] XP w s₀ mg mb s₁.heap->YP w s₁.heap ->
    s₁.heap.get? fa\o->o.data=.func (docDef d.name d.params d.body d.scope pm cd doc)->s₁.heap.CodeRec cd d.name->mg d.name\.ref fa ->
    s₁.heap.get? a=some {cls:=.type "list",data:=.seq vs.toArray}->IntsAre vs ns->ns.length<=n->s₁.gens=([].toArray) ->
    codeAny (model l.prog w) callerA (.call (.ref fa) #[[.ref a],[]]) (λr s'=>r=.ok (.ret (.bool true))/\OldK s₁.heap s'.heap/\s'.os=s₁.os/\AllBare s'.gens) s₁) :
  WalkO q loose XP YP l.row.toRowW d [] (λf vs=>PySem.call f vs):=by
 intro w s₀ s₁ mg mb G Y fa o pm cd doc dV kV ho hd fW hD ZE hg args vals as mh ZF hrd U2 hlo;obtain rfl:=Dflts.none hD hdf;obtain rfl:=Dflts.noKw hD;let(a,vs,ns,rfl,rfl,U3,hints,hlen):=F_ hn mh U2;refine enter_call (aax (call w s₀ s₁ mg mb fa o pm cd doc a vs ns G Y ho (fd_plain hd) fW ZE U3 hints hlen hg) λr s' hq=>?_);let(rfl,h2,h3,h4):=hq;exact#[.inl #[.bool true,.bool true,[],9,λ_=>rfl,.bool true,F' l _,λ_=>#[List.Pairwise.nil,λ_ hm=>(nomatch hm)]],h2,h3,h4]
end Att
namespace L2
open PySem PySem.Spec PyProof.Rows
theorem uY:∀{vs:qag}{ns:qan},IntsAre vs ns->Vals (ns.map V.int) vs
 |_,_,.nil=>.nil
 |_,_,.cons n t h=>.cons #[t,9] (uY h)
def ZG(H:Hp):Prop:=∀b,H b=none\/∃o xs,H b\.k7 o (.lst xs)
theorem Jl{mb:qae}{CX:Io}{k:Nat}{fa:Addr}{s₁:Shared}{vs:qag}{ns:qan}(KX:K.In s₁.heap)(hns:s₁.heap.Ns mainGlobals mg)(hb:s₁.heap.Ns builtinsNs mb)(hbb:∀x:Str,x≠"__name__"->mb x=bootBuiltins x)(afq:s₁.heap.NoLimit)(hg:s₁.gens=([].toArray))(ha:s₁.heap.get? a=some {cls:=.type "list",data:=.seq vs.toArray})(hi:IntsAre vs ns)(hl:ns.length<=sizeLine)(hr:bG k callerA)(F:∀base:Heap,K.In base->base.Ns mainGlobals mg->eD P w K mg base CX k fa fd [x] sp)(ZH:∀(s:Shared) (u:Value),BindsTo s fd #[[u],[]] [(x,u)])(Sg:∀H:Hp,ZG H->f_ K H a (ns.map V.int)->sp [.ref a] H (λv _=>v=.bl true) λ_ _ _=>False)(hCX:∀H e s',CX [] H s₁ (λ_ _ _=>False) e s'->False) :
  codeAny (model P w) callerA (.call (.ref fa) #[[.ref a],[]]) (λr s'=>r=.ok (.ret (.bool true))/\OldK s₁.heap s'.heap/\s'.os=s₁.os/\AllBare s'.gens) s₁:=by
 have rv:=uY hi;have afr:=hi.length;have core:∀H:Hp,ZG H->f_ K H a (ns.map V.int)->kL P w H s₁.heap->(∀b,H b≠none->b=a)->(H a≠none->K.lookup a=none) ->
   codeAny (model P w) callerA (.call (.ref fa) #[[.ref a],[]]) (λr s'=>r=.ok (.ret (.bool true))/\OldK s₁.heap s'.heap/\s'.os=s₁.os/\AllBare s'.gens) s₁:=by
  intro H hO hS bZ hA hK;have DW:∀{b:Addr}{o:Obj},s₁.heap.get? b\o->H b=none->(yJ s₁.heap H).get? b\o:=λe n=>IM e n;have Zr:∀{b:Addr}{o:Obj}{es:Array DictEntry}{ep:Nat},s₁.heap.get? b\o->o.data=.dict es ep->H b=none:=λ{b o es ep} e d=>by
   cases q:H b with
   |none=>rfl
   |some u=>have e':=hA b (by rw[q];simp);subst e';rw[ha] at e;cases e;have d':=d;cases d'
  have nsK:∀{b:Addr}{m:qae},s₁.heap.Ns b m->(yJ s₁.heap H).Ns b m:=λ{b m} #[o,es,ep,e,d,r]=>#[o,es,ep,DW e (Zr e d),d,r];have hKb:=λb o e=>DW (KX b o e) (by
   cases q:H b with
   |none=>rfl
   |some u=>have e':=hA b (by rw[q];simp);subst e';rw[hK (by rw[q];simp)] at e;cases e)
  have hM:Mod K mg (yJ s₁.heap H):=#[hKb,nsK hns,#[mb,nsK hb,hbb],let #[mc,h1,h2]:=afq;#[mc,nsK h1,h2]];have e0:BO P w K mg (yJ s₁.heap H) callerA [] s₁ H:=#[9,hM,λb o e=>N' e,Yb (FU _ _),trivial,λb hb=>absurd (show b∈([]:qah) from hb) 6,bZ,.of_eq hg];refine aax ((F _ hKb (nsK hns)).run callerA [] s₁ H #[[.ref a],[]] [.ref a] [.ref a] _ _ hr e0 (ZH s₁ (.ref a)) (.cons 9 .nil) (Sg H hO hS)) λr s' h=>?_;cases r with
  |error e=>exact (hCX H e s' h).elim
  |ok fl=>
    cases fl with
    |ret u=>
      let(v,H',os,bare,un,afs,r',q):=h;have q':=q;subst q';obtain rfl:=r';refine#[9,OldK.of_keep λb o e=>?_,os,bare];cases q:H b with
      |none=>exact un.keep b o e q (by intro z;exact absurd (show b∈([]:qah) from z) 6) 6
      |some u=>
        rcases hO b with z|⟨ob,xs,z⟩
        rw[q] at z;cases z;have z2:=un.vS b ob _ z;let(e1,_):=bZ b _ z;let(e2,_):=afs b _ z2;rw[e] at e1;cases e1;exact e2
    |_=>exact False.elim h
 cases hk:K.lookup a with
 |some o=>have e:=KX a o hk;rw[ha] at e;cases e;refine core (λ_=>none) (λ_=>.inl 9) (.inr #[_,vs.toArray,_,hk,9,9,9,by rw[iD,afr];exact hl,by simpa using rv]) (λb u z=>by have z':=z;cases z') (λb z=>absurd 9 z) λz=>absurd 9 z
 |none=>refine core (λb=>if b=a then some (.k7 {cls:=.type "list",data:=.seq vs.toArray} (.lst (ns.map V.int))) else none) (λb=>?_) (.inl (.inr #[{cls:=.type "list",data:=.seq vs.toArray},ι 9])) (λb u z=>?_) (λb z=>?_) λ_=>hk;by_cases hb:b=a;exact .inr #[_,_,ι hb];exact .inl (θ hb);by_cases hb:b=a;have z':=(ι hb).symm.trans z;cases z';subst hb;exact#[ha,by rw[bS];exact hl,vs,_,rv,ha];have z':=(θ hb).symm.trans z;cases z';by_cases hb:b=a;exact hb;exact absurd (θ hb) z
def inClass(s:Stmt)(j:Nat):Stmt:=match s with
 |.ClassDef _ _ _ body _ _ _ _ _ _ _=>body.getD j (.Pass #[0,0,0,0])
 |_=>.Pass #[0,0,0,0]
def cn(s:Stmt):Arguments:=match s with
 |.FunctionDef _ a _ _ _ _ _ _ _ _=>a
 |_=>{posonlyargs:=[],args:=[],vararg:=none,kwonlyargs:=[],kw_defaults:=[],kwarg:=none,defaults:=[]}
def bH(s:Stmt):qaq:=match s with
 |.FunctionDef _ _ b _ _ _ _ _ _ _=>b
 |_=>[]
def ar(s:Stmt):Scope:=match s with
 |.FunctionDef _ _ _ _ _ _ sc _ _ _=>sc
 |_=>{kind:=.function,names:=[],isGenerator:=false,isCoroutine:=false}
abbrev iA:Io:=λ_ _ _ _ _ _=>False
abbrev E0:XK:=λ_ _ _=>False
def oU:Passes iA X E0:=λ_ _ _ _ _ _ _ h=>h.elim
structure Iq(K:qaf)(x qual:Str)(st:Stmt)(f:Addr)(fd:FuncData):Prop where
 ex:∃(oc:Value)(od:qar)(kV doc pm:Value)(an:qar)(bL ct:Value)(BP:Array (Option Value)),
  fd=W.fnOf x qual (cn st) (bH st) (ar st) .none kV doc pm an bL ct/\K.lookup f=some #[oc,od,.func fd,BP]/\W.codeIn K bL qual=true
 kp:W.keepIn K (.ref f)=true
section
def Iq.ok{st:Stmt}{N:χ}{k:Nat}(F:Iq K x qual st f fd)(S:az N ps (ar st))(len:∀vs H Q E,sp vs H Q E->vs.length=ps.length)(fG:∀(bL:Value) (A:Around) (outer:List Env) (s:Shared) (H:Hp) (vs:qak) (Q:VK) (E:XK),bG k (A.deeper (envOfC qual (ar st) 8 f bL))->sp vs H Q E ->
    ∃t,ko (h7 iA P w K mg base N qual (ar st) f bL A outer s H E).vV (bH st) t/\t {nx:=λ_ H'=>Q .bY H',rt:=Q} (start N vs) H):eD P w K mg base iA (k+1) f fd ps sp:=by
 let(oc,od,kV,doc,pm,an,bL,ct,BP,rfl,lk,fW):=F.ex;refine DQ lk fW S len λA outer s H vs Q E hr Sg=>?_;let(t,h,q):=fG bL A outer s H vs Q E hr Sg;exact#[t,h.vV,q]
def Iq.binds{st:Stmt}(F:Iq K x qual st f fd)(h:∀(kV doc pm:Value) (an:qar) (bL ct:Value) (us:qag),us.length=ps.length->bindArgs (W.fnOf x qual (cn st) (bH st) (ar st) .none kV doc pm an bL ct) #[us,[]]=pure (ps.zip us)):Binds K fd ps []:=by let(oc,od,kV,doc,pm,an,bL,ct,BP,rfl,lk,fW):=F.ex;exact .all (h kV doc pm an bL ct)
def qJ{st:Stmt}{oc:Value}{od an:qar}{BP:Array (Option Value)}{kV doc pm bL ct:Value}(l:K.lookup f=some #[oc,od,.func (W.fnOf x qual (cn st) (bH st) (ar st) .none kV doc pm an bL ct),BP])(c:W.codeIn K bL qual=true)(k:W.keepIn K (.ref f)=true):Iq K x qual st f (W.fnOf x qual (cn st) (bH st) (ar st) .none kV doc pm an bL ct):=#[#[oc,od,kV,doc,pm,an,bL,ct,BP,9,l,c],k]
end
def Ga(h:n<=1000):n<sizeLine:=Nat.lt_of_le_of_lt h 15
def ZI{A:Prop}(h:B):if false=true then A else B:=h
def ZJ{A:Prop}(h:A):if true=true then A else B:=h
def Gb{c A:Prop}[Decidable c](h1:c->A)(h2:¬ c->B):if c then A else B:=by by_cases h:c;rw[ι h];exact h1 h;rw[θ h];exact h2 h
def aW(H H':Hp):Prop:=∀b o,H b\o->H' b\o
def aW.refl(H:Hp):aW H H:=λ_ _ h=>h
def aW.trans{H1 H2:Hp}(a:aW H H1)(b:aW H1 H2):aW H H2:=λc o h=>b c o (a c o h)
section
theorem iH{env:Env}{f:Str×NameKind->List (Str×Addr)->Sem (ForInStep (List (Str×Addr)))}:∀(l:List (Str×NameKind))(cs:List (Str×Addr)),
  (∀p∈l,∀r,(p.2=.free->∃c,env.cells.lookup p.1\c/\f p r=pure (.yield ((p.1,c)::r)))/\(p.2≠.free->f p r=pure (.yield r))) ->
  ∃cl,forIn l cs f=pure cl/\(∀y c,cl.lookup y\c->cs.lookup y\c\/env.cells.lookup y\c)/\(∀y,(cs.lookup y).isSome=true->(cl.lookup y).isSome=true) /\
   ∀p∈l,p.2=.free->(cl.lookup p.1).isSome=true
 |[],cs,_=>#[cs,by rw[List.forIn_nil],λ_ _ h=>.inl h,λ_ h=>h,λ_ h=>nomatch h]
 |p::l,cs,hf=>by
   have hr:=λq hq r=>hf q (iB _ hq) r;by_cases hp:p.2=.free;let(c,hc,e):=(hf p iz cs).1 hp;let(cl,h1,h2,h3,h4):=iH l ((p.1,c)::cs) hr;refine#[cl,?_,λy d h=>?_,λy h=>h3 y ?_,λq hq hqf=>?_];rw[List.forIn_cons,e];exact h1;rcases h2 y d h with z|z
   rw[N6] at z;cases hy:y==p.1 with
   |true=>rw[hy] at z;have ey:=eq_of_beq hy;cases z;rw[ey];exact .inr hc
   |false=>rw[hy] at z;exact .inl z
   exact .inr z;rw[N6];cases hy:y==p.1 with
   |true=>rfl
   |false=>exact h
   rcases dQ.mp hq with z|z
   subst z;refine h3 _ ?_;rw[N6,beq_self_eq_true];rfl;exact h4 q z hqf;have e:=(hf p iz cs).2 hp;let(cl,h1,h2,h3,h4):=iH l cs hr;refine#[cl,?_,h2,h3,λq hq hqf=>?_];rw[List.forIn_cons,e];exact h1;rcases dQ.mp hq with z|z
   subst z;exact absurd hqf hp;exact h4 q z hqf
def jb{scope:Scope}{env:Env}(h:∀p∈scope.names,p.2=.free->∃c,env.cells.lookup p.1\c) :
  ∃cl,closureFor scope env=pure cl/\(∀y c,cl.lookup y\c->env.cells.lookup y\c)/\∀p∈scope.names,p.2=.free->∃c,cl.lookup p.1\c:=by
 have key:∃cl,closureFor scope env=pure cl/\(∀y c,cl.lookup y\c->([]:List (Str×Addr)).lookup y\c\/env.cells.lookup y\c)/\(∀y,(([]:List (Str×Addr)).lookup y).isSome=true->(cl.lookup y).isSome=true) /\
   ∀p∈scope.names,p.2=.free->(cl.lookup p.1).isSome=true:=by
  have go:=@iH env (λx r=>if x.2==NameKind.free then (do let c <- cellOf env x.1;pure (ForInStep.yield ((x.1,c)::r))) else pure (ForInStep.yield r)) scope.names [] ?_;let(cl,h1,h2):=go;refine#[cl,?_,h2]
  first
   | (rw[h1];rfl)
   | (rw[h1];rfl)
   |exact aaa (· >>= pure) h1
  intro p hp r;refine#[λhf=>?_,λhf=>?_];let(c,hc):=h p hp hf;refine#[c,hc,?_];have e1:(p.2==NameKind.free)=true:=by rw[hf];rfl
  have e2:cellOf env p.1=pure c:=by unfold cellOf;rw[hc]
  rw[e1,ι 9,e2];rfl;have e1:(p.2==NameKind.free)=false:=by simpa using hf
  rw[e1,θ 15]
 let(cl,h1,h2,h3,h4):=key;refine#[cl,h1,λy c e=>?_,λp hp hf=>Option.isSome_iff_exists.mp (h4 p hp hf)];rcases h2 y c e with z|z
 rw[List.lookup_nil] at z;cases z;exact z
def mi{scope:Scope}{env:Env}(y:Str):(relabel scope env).names.lookup y =
  (scope.names.lookup y).map λk=>if (k==.free && env.scope.kind==.function && env.kindOf y==some .cell)=true then .cell else k:=by
 have key:∀l:List (Str×NameKind),(l.map λ(n,k)=>if (k==NameKind.free && env.scope.kind==.function && env.kindOf n==some .cell) then (n,NameKind.cell) else (n,k)).lookup y =
   (l.lookup y).map λk=>if (k==.free && env.scope.kind==.function && env.kindOf y==some .cell)=true then .cell else k:=by
  intro l;induction l with
  |nil=>rfl
  |cons p l ih=>
    let(n,k):=p;show List.lookup y ((if (k==NameKind.free && env.scope.kind==.function && env.kindOf n==some .cell)=true then (n,NameKind.cell) else (n,k))::_)=_;by_cases hc:(k==NameKind.free && env.scope.kind==.function && env.kindOf n==some .cell)=true;rw[ι hc,N6,N6];cases hy:y==n with
    |true=>have ey:=eq_of_beq hy;subst ey;show some NameKind.cell\(if _ then _ else _);rw[ι hc]
    |false=>exact ih
    rw[θ hc,N6,N6];cases hy:y==n with
    |true=>have ey:=eq_of_beq hy;subst ey;show some k\(if _ then _ else _);rw[θ hc]
    |false=>exact ih
 exact key scope.names
end
def k_(N ts:χ)(out sc:Scope):Bool :=
 (sc.kind==.function) && sc.names.all (λp=>(p.2 != .cell) && (p.2 != .free || out.names.lookup p.1==some .cell || out.names.lookup p.1==some .free) && (p.2 != .local || sc.names.lookup p.1==some .local))
  && N.all (λy=>sc.names.lookup y != some .local) && ts.all (λy=>sc.names.lookup y==some .local) && decide ((N++ts).Nodup)
structure qK(N ts:χ)(out sc:Scope):Prop where
 kind:sc.kind=.function
 Jm:∀p∈sc.names,p.2≠.cell
 fr:∀p∈sc.names,p.2=.free->out.names.lookup p.1\.cell\/out.names.lookup p.1\.free
 names:∀p∈sc.names,p.2=.local->sc.names.lookup p.1\.local
 own:∀y∈N,sc.names.lookup y≠some .local
 tgt:∀y∈ts,sc.names.lookup y\.local
 nd:(N++ts).Nodup
def uZ{N ts:χ}{out:Scope}(h:k_ N ts out sc=true):qK N ts out sc:=by unfold k_ at h;rw[pK,pK,pK,pK] at h;let((((h1,h2),h3),h4),h5):=h;rw[R3] at h2 h3 h4;refine#[eq_of_beq h1,λp hp=>?_,λp hp hf=>?_,λp hp hl=>?_,λy hy=>?_,λy hy=>?_,Θ h5];have:=h2 p hp;rw[pK,pK] at this;simpa using this.1.1;have:=h2 p hp;rw[pK,pK] at this;have q:=this.1.2;rw[hf] at q;simpa using q;have:=h2 p hp;rw[pK,pK] at this;have q:=this.2;rw[hl] at q;simpa using q;simpa using h3 y hy;simpa using h4 y hy
def bT(X:Cx)(ts:χ)(sc:Scope)(cl:List (Str×Addr))(C:Addr)(fp:qah)(s:Shared)(H:Hp):Cx where
 prog:=X.prog
 w:=X.w
 K:=X.K
 mg:=X.mg
 base:=X.base
 A:=X.A
 N:=X.N++ts
 s₀:=s
 H₀:=H
 env:=compEnvC sc cl C X.env
 outer:=X.stack
 stack:=X.stack
 ex:=fp
 fn:=λ_=>false
 calm:=X.calm
 pn:=[]
 xe:=λ_ _=>False
section
variable{ts:χ}{cl:List (Str×Addr)}{D:Addr}
def u7(hS:qK X.N ts X.env.scope sc){y:Str}(h:nJ (relabel sc X.env) y):sc.names.lookup y\.local\/(sc.names.lookup y\.free/\((relabel sc X.env).names.lookup y\.cell\/(relabel sc X.env).names.lookup y\.free)):=by
 have e:=mi (scope:=sc) (env:=X.env) y;cases hk:sc.names.lookup y with
 |none=>rw[hk] at e;have e':=e;obtain h|h|h:=h<;>rw[e'] at h<;>cases h
 |some k=>
  have hm:=RY hk;rw[hk] at e;cases k with
  |«local»=>exact .inl 9
  |cell=>exact absurd 9 (hS.Jm _ hm)
  |free=>refine .inr #[9,?_];rw[e,Option.map_some];by_cases hc:(NameKind.free==.free && X.env.scope.kind==.function && X.env.kindOf y==some .cell)=true;rw[ι hc];exact .inl 9;rw[θ hc];exact .inr 9
  |globalExplicit=>have e':=e;obtain h|h|h:=h<;>rw[e'] at h<;>cases h
  |globalImplicit=>have e':=e;obtain h|h|h:=h<;>rw[e'] at h<;>cases h
def DX(I:Inv X ε σ H s)(hf:∀b∈fp,nM X ε H b):∀b∈fp,b∉Il X.stack:=λb hb z=>by
 let(_,f1,f2,_):=hf b hb;rcases dQ.mp (I.Bz b z) with e|e
 exact f1 e;exact f2 e
theorem OT(I:Inv X ε σ H s)(hf:∀b∈fp,nM X ε H b)(ZL:∀b∈fp,∃o,s.heap.get? b\o)(hS:qK X.N ts X.env.scope sc)(c1:∀y c,cl.lookup y\c->X.env.cells.lookup y\c)(c2:∀p∈sc.names,p.2=.free->∃c,cl.lookup p.1\c)(hC:8<=C)(hD:8<=D)(hDC:D≠C){h1:Heap}{m:qae}{t:Nat}(k:∀b o,s.heap.get? b\o->h1.get? b\o)(hn:h1.Ns C m)(hd:h1.get? D=some {cls:=.type "list",data:=.seq ([]:qag).toArray n}) :
  Inv (bT X ts sc cl C fp s H) [] (σ++ts.map λ_=>none) (upd H D (.lst [])) {s with heap:=h1,toks:=t}:=by
 have sz:=I.sz;have aft:∀b∈fp,b<8:=λb hb=>by let(o,e):=ZL b hb;exact eS e
 have Oc:∀y c,cl.lookup y\c->c<8:=λy c e=>by let(v,q):=I.cell y c (c1 y c e);exact q.lt
 have ok:(bT X ts sc cl C fp s H).Ok:=by
  refine#[I.ok.mod,hS.kind,I.ok.glob,I.ok.blt,hC,λx y c e1 e2=>I.ok.inj x y c (c1 x c e1) (c1 y c e2),λx hx=>?_,λx c hx=>absurd hx (by simp[bT]),I.ok.hd,I.ok.frames,.inl 9,λb hb=>?_,λb o e=>I.bs b o e,
   kJ I.ok.Oa sz,λb o e hb=>?_,DX I hf,I.stack,λb hb=>I.DG b hb]
  have hv:nJ (relabel sc X.env) x:=by
   obtain hx|hx:=hx
   exact .inr (.inl hx);exact .inr (.inr hx)
  rcases u7 hS hv with z|⟨z,_⟩
  have e:=mi (scope:=sc) (env:=X.env) x;rw[z] at e;have e':=e;have Ir:(relabel sc X.env).names.lookup x\.cell\/(relabel sc X.env).names.lookup x\.free:=hx;rw[e'] at Ir;obtain q|q:=Ir<;>cases q
  exact c2 _ (RY z) 9;exact#[λe=>absurd (tY (aft b hb) hC) (by have e':=e;rw[e'];exact FL _),λx c e z=>(hf b hb).2.2.2.2.1 x c (c1 x c e) z];rcases (hf b hb).2.2.2.1 with z|z
  exact I.ok.IP b o e z;exact absurd (tY (eS e) (kJ I.ok.Oa z)) (FL _)
 have hnD:=I.bZ.fresh hD;refine#[ok,9,I.bare,Un.laid k hD hnD,#[m,hn,λi x v e1 e2 e3=>?_],λx c e=>?_,?_,λx c e=>?_,λp hp=>absurd (show p∈([]:qaa) from hp) 6,I.bZ.laid k hD #[fB _,[],n,.nil,hd],?_];have hi:i<σ.length:=by
  by_cases hi:i<σ.length;exact hi;rw[uN (),fU] at e2;cases q:ts[i-σ.length]? with
  |none=>rw[q] at e2;cases e2
  |some a=>rw[q] at e2;cases e2
 have Ge:σ[i]?\some v:=by rw[pI hi] at e2;exact e2
 have ZM:X.N[i]?\x:=by have ZN:(X.N++ts)[i]?\x:=e1;rw[pI (by rw[<- I.len];exact hi)] at ZN;exact ZN
 rcases u7 hS e3 with z|⟨z,zr⟩
 exact absurd z (hS.own x (fL ZM));have hm:=RY z;have ho:=hS.fr _ hm 9;let(m0,_,hl):=I.loc;let(u,r,l):=hl i x v ZM Ge (.inr ho);let(c',tZ):=c2 _ hm 9;obtain⟨l,_⟩|⟨_,c,hc,z2⟩:=l
 have l':X.env.scope.names.lookup x\.local:=l;rw[l'] at ho;obtain q|q:=ho<;>cases q
 have ec:=c1 x c' tZ;rw[hc] at ec;cases ec;exact#[u,r,.inr #[zr,_,tZ,z2.keeps k]];let(v,z):=I.cell x c (c1 x c e);exact#[v,z.keeps k];show upd H D (.lst []) C=none;rw[aG (Ne.symm hDC)];exact I.bZ.fresh hC;rw[aG (hV (tY (Oc x c e) hD))];exact I.ja x c (c1 x c e);show (σ++ts.map λ_=>none).length=(X.N++ts).length;rw[fS,fS,bS,I.len]
def yU(I:Inv X ε σ H s)(hf:∀b∈fp,nM X ε H b){DI:qaa}{σ':St}(J:Inv (bT X ts sc cl C fp s H) DI σ' H' s'):Inv X ε σ H' s' :=
 I.Y6 J.os J.base J.bZ J.bare λb hb=>by let(_,f1,_,f3,f4,f5):=hf b hb;exact#[f3,f1,f4,f5]
end
section
variable{R:Result->Shared->Prop}
theorem kr{elt target:Expr}{ifs:qap}{scope:Scope}{pos:Pos}{it acc:Value}{env:Env}(I:Nat->Shared->Prop)(turn:∀n s,I n s->wpAny 14 A (pyNext it) (λr s₁=>match r with
    |none=>R (.ok .next) s₁
    |some v=>wpAny 14 A (letOwnedTupleGo target it v) (λ_ s₁'=>wpAny 14 A (assign target env v) (λ_ s₂=>
       wpAny 14 A (forIn ifs true λc r=>if r=true then do let ok <- isTrue c env (eval c env);pure (ForInStep.yield ok) else pure (ForInStep.yield r)) (λok s₃=>
        if ok=true then wpAny 14 A (eval elt env) (λx s₄=>
         wpAny 14 A (call (.builtin "list.append") [acc,x]) (λ_ s₅=>∃m,m<n/\I m s₅) (notedBy 14 A env λe s'=>R (.error e) s') s₄) (notedBy 14 A env λe s'=>R (.error e) s') s₃
        else ∃m,m<n/\I m s₃) (notedBy 14 A env λe s'=>R (.error e) s') s₂) (notedBy 14 A env λe s'=>R (.error e) s') s₁')
       (notedBy 14 A env λe s'=>R (.error e) s') s₁) (notedBy 14 A env λe s'=>R (.error e) s') s)(n:Nat)(h:I n s):codeAny 14 A (.compLoop (.ListComp elt [#[target,iter,ifs,0]] scope pos) 0 it acc env) R s:=by
 refine codeAny_loop 9 I (λn s hI=>wpAny_noted (ζ (wpAny_standAt (ζ (zm (turn n s hI) (λr s₁ h₁=>?_) λ_ _ h'=>h'))))) n h;cases r with
 |none=>exact η h₁
 |some v=>
   refine ζ (zm h₁ (λ_ s₁' h₁'=>ζ (zm h₁' (λ_ s₂ h₂=>ζ (zm h₂ (λok s₃ h₃=>?_) λ_ _ h'=>h')) λ_ _ h'=>h')) λ_ _ h'=>h');cases ok with
   |false=>exact η #[9,h₃]
   |true=>exact ζ (ζ (zm h₃ (λx s₄ h₄=>ζ (zm h₄ (λ_ s₅ h₅=>η (η #[9,h₅])) λ_ _ h'=>h')) λ_ _ h'=>h'))
end
def Jn(X:Cx)(ifs:qap)(t:TT):Prop :=
 ∀(ε:qaa)(s:Shared)(σ:St)(H:Hp)(Q:Bool->Hp->Prop),Inv X ε σ H s->t σ H Q ->
  wpAny (model X.prog X.w) X.A (forIn ifs true λc r=>if r=true then do let ok <- isTrue c X.env (eval c X.env);pure (ForInStep.yield ok) else pure (ForInStep.yield r)) (TP X ε σ Q) X.xe s
def afu:TT:=λ_ H Q=>Q true H
def OU:Jn X [] afu:=λ_ _ _ H _ I h=>wpAny_tests_nil #[H,I,h]
def OW{t:TT}(h:PT X c t):Jn X [c] t:=λε s σ H Q I hw=>wpAny_tests_one (h ε s σ H Q I hw)
def Jo(J:It)(g:TG)(tt:TT)(te:TE)(n:Nat)(σ:St)(D:Addr)(Q:Hp->Prop)(H1:Hp):Prop :=
 ∃W:Nat->Nat->qak->Hp->Prop,(∃m,W 0 m [] (upd H1 D (.lst [])))/\∀i m acc H2,W i m acc H2->H2 D\.lst acc /\
  ((J.stop i H2/\Q H2)\/(J.go i H2/\acc.length<sizeLine/\∀x H3,J.Yd i H2 x H3->g x (σ++List.replicate n none) H3 λσ4 H4=>(σ4.length=σ.length+n/\∀(i:Nat) v,σ[i]?\some v->σ4[i]?\some v) /\
   tt σ4 H4 λb H5=>if b=true then te σ4 H5 λy H6=>H6 D\.lst acc/\∃m',m'<m/\W (i+1) m' (acc++[y]) (upd H6 D (.lst (acc++[y]))) else ∃m',m'<m/\W (i+1) m' acc H5))
section
variable{ts:χ}{cl:List (Str×Addr)}
theorem Gf{Y:Cx}{pl:qaa}{σ4:St}(I:Inv Y pl σ4 H' s')(hl:σ4.length=σ.length+n)(hs:∀(i:Nat) v,σ[i]?\some v->σ4[i]?\some v) :
  Inv Y pl (σ++List.replicate n none) H' s':=by
 refine I.weak (by rw[fS,NN,hl]) λi v e=>?_;by_cases hi:i<σ.length;rw[pI hi] at e;exact hs i v e;rw[uN (),Ib] at e;split at e<;>cases e
def yV{elt tg:Expr}{ifs:qap}{pos:Pos}{tn:Nat->Heap->Prop}{J:It}{g:TG}{tt:TT}{Q:Hp->Prop}{RR:Value->Addr->Result->Shared->Prop}(hc:X.calm=true)(I:Inv X ε σ H s)(T:Turn X.prog X.w X.K tg J fp it tn)(st:tn 0 s.heap)(hf:∀b∈fp,nM X ε H b)(hS:qK X.N ts X.env.scope sc)(c1:∀y c,cl.lookup y\c->X.env.cells.lookup y\c)(c2:∀p∈sc.names,p.2=.free->∃c,cl.lookup p.1\c)(hg:∀C,PG (bT X ts sc cl C fp s H) tg g)(ht:∀C,Jn (bT X ts sc cl C fp s H) ifs tt)(he:∀C,PE (bT X ts sc cl C fp s H) elt te)(hw:Jo J g tt te ts.length σ 8 Q H)(fin:∀(C:Addr) (H':Hp) (s':Shared) (σ':St),8<=C->Inv (bT X ts sc cl C fp s H) [] σ' H' s'->Q H'->RR (.ref 8) C (.ok .next) s') :
  wpAny (model X.prog X.w) X.A (newList []) (λacc s₃=>wpAny (model X.prog X.w) X.A (newFunctionEnv sc X.env.globals cl [] X.env.qual none .none (some X.env)) (λZO s₄=>
   codeAny (model X.prog X.w) X.A (.compStart (.ListComp elt [#[tg,iter,ifs,0]] sc pos) 0 (.ref it) acc {ZO with scope:=relabel sc X.env}) (RR acc ZO.locals) s₄) E s₃) E s:=by
 let(W,(m0,w0),turn):=hw;have afv:=T.obj 0 _ st;have ZL:∀b∈fp,∃o,s.heap.get? b\o:=λb hb=>let #[o,e,_]:=afv b hb;#[o,e];refine Δ (wpAny_newFunctionEnv hS.Jm (by intro y hy;simp at hy) (λh₁ ZP U4=>?_) hS.kind);generalize hH2:s.heap.push {cls:=.type "list",dict:=none,data:=.seq ([]:qag).toArray}=H2 at ZP U4 ⊢;have hC:H2.objs.size=8+1:=by rw[<- hH2,uP]
 have hDC:8≠H2.objs.size:=by rw[hC];exact hV (qw _)
 have ZQ:8<=H2.objs.size:=by rw[hC];exact IK _
 have below:∀b,b<8->b≠H2.objs.size/\b≠8:=λb hb=>#[by rw[hC];exact hV (Bj hb),hV hb];have old:=λb o e=>U4.extBut b o (below b (eS e)).1 (dF _ (hH2▸dF _ e));have Jp:=U4.extBut _ _ hDC (dF _ (hH2▸gQ _ 9));have ZR:=T.keep _ _ _ st λb hb o e=>old b o e;have yy:∀{H':Hp},(∀b∈fp,H' b=none)->∀b∈fp,nM (bT X ts sc cl H2.objs.size fp s H) [] H' b:=λ{H'} hn b hb=>by let(o,e):=ZL b hb;refine#[hn b hb,λz=>?_,DX I hf b hb,.inl hb,λx c e z=>(hf b hb).2.2.2.2.1 x c (c1 x c e) z,λp hp=>absurd (show p∈([]:qaa) from hp) 6];have z':=z;exact (below b (eS e)).1 z'
 have fp0:∀b∈fp,(upd H 8 (.lst [])) b=none:=λb hb=>by let(o,e):=ZL b hb;rw[aG (hV (eS e))];exact (hf b hb).1
 have eN:(ts.map λ_=>(none:Option V))=List.replicate ts.length none:=List.map_const';have loop:∀s₃:Shared,s₃={s with heap:=h₁,toks:=s.toks+([]:List (Str×Value)).length} ->
   codeAny (model X.prog X.w) X.A (.compLoop (.ListComp elt [#[tg,iter,ifs,0]] sc pos) 0 (.ref it) (.ref 8) (compEnvC sc cl H2.objs.size X.env)) (RR (.ref 8) H2.objs.size) s₃:=by
  rintro s₃ rfl;have J0:=OT (t:=s.toks+([]:List (Str×Value)).length) I hf ZL hS c1 c2 ZQ (cL _) hDC old ZP Jp;rw[eN] at J0;refine kr (λn s'=>∃i acc H',Inv (bT X ts sc cl H2.objs.size fp s H) [] (σ++List.replicate ts.length none) H' s'/\tn i s'.heap/\(∀b∈fp,H' b=none)/\W i n acc H') ?_ m0 #[0,[],_,J0,ZR,fp0,w0];rintro n s3 ⟨i,acc,H3,J3,Uy,Zg,w3⟩;let(hD3,alt):=turn i n acc H3 w3;obtain⟨stop,q⟩|⟨go,hz,step⟩:=alt
  . refine cT (T.done (bT X ts sc cl H2.objs.size fp s H) 9 9 9 hc i [] s3 _ H3 _ J3 (yy Zg) Uy stop) λr s4 #[hr,J4]=>?_;subst hr;exact fin _ H3 s4 _ ZQ J4 q
  refine cT (T.item (bT X ts sc cl H2.objs.size fp s H) 9 9 9 hc i [] s3 _ H3 _ J3 (yy Zg) Uy go) λr s4 #[u,hr,h4]=>?_;subst hr;refine cT h4 λ_ s5 #[x,H5,J5,r5,y5,R',fr5]=>?_;have J5':=J5.pinned (yy fr5) (T.obj _ _ R');have again:∀{σ7:St}{H7:Hp}{s7:Shared},Inv (bT X ts sc cl H2.objs.size fp s H) ([]++qC fp s5.heap) σ7 H7 s7->(σ7.length=σ.length+ts.length/\∀i v,σ[i]?\some v->σ7[i]?\some v)->∀yW m',W (i+1) m' yW H7->m'<n ->
    ∃m,m<n/\∃i acc H',Inv (bT X ts sc cl H2.objs.size fp s H) [] (σ++List.replicate ts.length none) H' s7/\tn i s7.heap/\(∀b∈fp,H' b=none)/\W i m acc H':=λ{σ7 H7 s7} I7 hσ yW m' w7 hm=>by
   refine#[m',hm,i+1,yW,H7,Gf I7.l_ hσ.1 hσ.2,T.keep _ _ _ R' λb hb o e=>(I7.pin (b,o) (jZ _ (jZ _ (iE hb e)))).1,λb hb=>?_,w7];let(o,e,d):=T.obj _ _ R' b hb;exact (I7.pin (b,o) (jZ _ (jZ _ (iE hb e)))).2.1
  refine zm (hg H2.objs.size _ s5 _ H5 x u _ J5' r5 (step x H5 y5)) (λ_ s6 #[σ6,H6,J6,hσ,q6]=>zm (ht H2.objs.size _ s6 σ6 H6 _ J6 q6) (λb s7 #[H7,J7,q7]=>?_) λ_ _ z=>False.elim z) λ_ _ z=>False.elim z;cases b with
  |false=>let(m',hm,w7):=q7;exact again J7 hσ acc m' w7 hm
  |true=>refine zm (he H2.objs.size _ s7 σ6 H7 _ J7 q7) (λy s8 #[yv,H8,J8,ry,hD8,m',hm,w8]=>zm (bo (X:=bT X ts sc cl H2.objs.size fp s H) _ s8 σ6 H8 (.ref 8) [yv] (.ref 8) [y] (λv H9=>v=.bY/\H9=upd H8 8 (.lst (acc++[yv]))) J8 9 (.cons ry .nil) #[_,acc,yv,9,9,hD8,hz,9,9]) (λv9 s9 #[v,H9,J9,_,_,e9]=>?_) λ_ _ z=>False.elim z) λ_ _ z=>False.elim z;subst e9;exact again J9 hσ (acc++[yv]) m' w8 hm
 exact codeAny_compStart_list (loop _ 9) (T.self _ 0 _ _ _ ZR (loop _ 9))
def Jq(n:Nat)(wi:TI)(g:TG)(tt:TT)(te:TE):TE:=λσ H Q=>wi σ H λJ H1=>∀D,H1 D=none->Jo J g tt te n σ D (Q (.ref D)) H1
def yX(I:Inv X ε σ H s)(hS:qK X.N ts X.env.scope sc):∀p∈sc.names,p.2=.free->∃c,X.env.cells.lookup p.1\c:=λp hp hf=>by
 rcases hS.fr p hp hf with z|z
 exact I.ok.has p.1 (.inl z);exact I.ok.has p.1 (.inr z)
def OX{elt tg:Expr}{ifs:qap}{pos:Pos}{wi:TI}{g:TG}{tt:TT}(hc:X.calm=true)(hS:k_ X.N ts X.env.scope sc=true)(hi:PI X tg iter wi)(hg:∀cl C fp s H,PG (bT X ts sc cl C fp s H) tg g)(ht:∀cl C fp s H,Jn (bT X ts sc cl C fp s H) ifs tt)(he:∀cl C fp s H,PE (bT X ts sc cl C fp s H) elt te)(hs:∀x,foldedSetIterable iter X.env x=pure x:=by intro _;rfl):PE X (.ListComp elt [#[tg,iter,ifs,0]] sc pos) (Jq ts.length wi g tt te):=by intro ε s σ H Q I h;have S:=uZ hS;let(cl,tT,c1,c2):=jb (yX I S);refine wpAny_comprehension_free 9 hs tT S.kind S.names (cT (hi ε s σ H _ I h) λv s1 h1=>cT h1 λitv s2 h2=>?_);let(it,fp,tn,J,H2,e,I2,T,vX,f2,q2):=h2;subst e;refine yV hc I2 T vX f2 S c1 c2 (λC=>hg cl C fp s2 H2) (λC=>ht cl C fp s2 H2) (λC=>he cl C fp s2 H2) (q2 _ (I2.bZ.fresh (cL _))) ?_;intro C H' s' σ' hC J' q';let(m,hn,_):=J'.loc;refine#[m,hn,λh' sb=>?_];have I':=yU I2 f2 J';have fk:=I2.qB hC J'.free;let(f0,f1,_,f3,f4,f5):=fk;exact#[.ref _,H',I'.turned (λb o hb e=>(sb.2 b hb).trans e) f0 f1 f3 f4 f5,9,q']
def OY{y:Str}{py:Pos}{yY:Pos}{elt tg:Expr}{ifs:qap}{pos:Pos}{wi:TI}{g:TG}{tt:TT}(hN:X.N.Nodup)(hy:X.N[i]?\y)(hx:Loc X.env.scope y)(hc:X.calm=true)(hS:k_ X.N ts X.env.scope sc=true)(hi:PI X tg iter wi)(hg:∀cl C fp s H,PG (bT X ts sc cl C fp s H) tg g)(ht:∀cl C fp s H,Jn (bT X ts sc cl C fp s H) ifs tt)(he:∀cl C fp s H,PE (bT X ts sc cl C fp s H) elt te)(ZS:swapsWith (.ListComp elt [#[tg,iter,ifs,0]] sc pos) (some (.Name y py)) yY.line X.env=pure true:=by rfl)(hs:∀x,foldedSetIterable iter X.env x=pure x:=by intro _;rfl)(hf:X.fn y=true\/X.env.scope.names.lookup y\.local:=by first|exact .inl rfl|exact .inr rfl|assumption) :
  PS X (.Assign [.Name y py] (.ListComp elt [#[tg,iter,ifs,0]] sc pos) yY) (Oo (Jq ts.length wi g tt te) (l9 i)):=by
 intro ε s σ H D I h;have S:=uZ hS;let(cl,tT,c1,c2):=jb (yX I S);rw[exec_Assign_Name_used _ _ _ _ ZS];refine ζ (wpAny_standAt (ζ (ζ (zm (wpAny_comprehension_free 9 hs tT S.kind S.names (cT (hi ε s σ H _ I h) λv s1 h1=>cT h1 λitv s2 h2=>?_)) (λ_ s' hq=>η (η hq)) λ_ _ e=>e))));let(it,fp,tn,J,H2,e,I2,T,vX,f2,q2):=h2;subst e;refine yV hc I2 T vX f2 S c1 c2 (λC=>hg cl C fp s2 H2) (λC=>ht cl C fp s2 H2) (λC=>he cl C fp s2 H2) (q2 _ (I2.bZ.fresh (cL _))) ?_;intro C H' s' σ' hC J' q';let(m,hn,_):=J'.loc;have I':=yU I2 f2 J';have fk:=I2.qB hC J'.free;let(f0,f1,_,f3,f4,f5):=fk;refine wpAny_assign_Name (uS (v:=.ref s2.heap.objs.size) I' hN hy hx 9 (λs3 I3 #[a,sb,ha]=>?_) hf);have hCa:C≠a:=by
  obtain z|z:=ha
  rw[z];exact f1;exact λe=>f4 y a z e.symm
 exact#[m,hn.sameBut sb hCa,λh' sb'=>#[_,H',I3.turned (λb o hb e=>(sb'.2 b hb).trans e) f0 f1 f3 f4 f5,q']]
end
def Its(x:Str):It:=#[λi _=>i<x.cps.size,λi H v H'=>H'=H/\∃c,x.cps[i]?\c/\v=.str #[([c].toArray)],λi _=>x.cps.size<=i]
def dS(x:Str):(strIterType x="str_ascii_iterator")\/(strIterType x="str_iterator"):=by unfold strIterType;cases x.cps.all (·<128);exact .inr 9;exact .inl 9
def Jr{tg:Expr}(x:Str)(t:Tok)(it:Addr):Turn P w K tg (Its x) [it] it (λi h=>h.IsStrIter it (strIterType x) x t i) where
 mem:=by simp
 obj:=λi h st b hb=>by
  have e:b=it:=by simpa using hb
  subst e;let(o,e,c,d):=st;exact#[o,e,λv z=>by rw[d] at z;cases z]
 keep:=λi h h' st k=>by let(o,e,c,d):=st;exact#[o,k it 6 o e,c,d]
 item:=by
  intro X hP hw hK hc i ε s σ H E I hf st hg;subst hP hw hK;let(f0,f1,f2,f3,f4,f5):=hf it 6;have hi:i<x.cps.size:=hg;have hx:x.cps[i]?\x.cps[i]:=by simp[hi]
  have fin:∀h',h'.IsStrIter it (strIterType x) x t (i+1)->Heap.SameBut it s.heap h'->∃u,(some (Value.str #[([x.cps[i]].toArray)] s.toks):Option Value)\u /\
    wpAny (model X.prog X.w) X.A (letOwnedTupleGo tg (.ref it) u) (λ_ s2=>∃y H',Inv X ε σ H' s2/\RelV y u/\(Its x).Yd i H y H'/\Heap.IsStrIter s2.heap it (strIterType x) x t (i+1)/\∀b∈[it],H' b=none) E {s with heap:=h',toks:=s.toks+1}:=λh' bp sb=>by
   have I1:=I.turned (t':=s.toks+1) (λb o hb e=>(sb.2 b hb).trans e) f0 f1 f3 f4 f5;let(o,e,c,d):=id bp;refine#[_,9,DN e c d ?_ #[.str #[([x.cps[i]].toArray)],H,I1,#[_,9],#[9,_,hx,9],bp,λb hb=>(hf b hb).1]];rcases dS x with z|z<;>rw[z]<;>decide
  rcases dS x with z|z
  rw[z] at st fin;refine wpAny_pyNext_ascii_item st hx λh' bp sb=>?_;have:=fin h' bp sb;simpa[z] using this;rw[z] at st fin;refine wpAny_pyNext_wide_item st hx λh' bp sb=>?_;have:=fin h' bp sb;simpa[z] using this
 done:=by
  intro X hP hw hK hc i ε s σ H E I hf st hg;subst hP hw hK;let(f0,f1,f2,f3,f4,f5):=hf it 6;have hi:x.cps.size<=i:=hg;have hx:x.cps[i]?=none:=by simp[hi]
  rcases dS x with z|z
  rw[z] at st;exact wpAny_pyNext_ascii_end (I.ok.hd hc) st hx λh' eb=>#[9,I.turned (λb o hb e=>eb b o hb e) f0 f1 f3 f4 f5];rw[z] at st;exact wpAny_pyNext_wide_end (I.ok.hd hc) st hx λh' eb=>#[9,I.turned (λb o hb e=>eb b o hb e) f0 f1 f3 f4 f5]
 self:=λA i s Q E st h=>by
  rcases dS x with z|z
  rw[z] at st;exact wpAny_pyIter_striter_ascii st h;rw[z] at st;exact wpAny_pyIter_striter_wide st h
section
variable{tg:Expr}
theorem qL(hc:X.calm=true):dh X (.builtin "all") (λxs H Q=>∃(p:Addr)(bs:List Bool),xs=[.ref p]/\f_ X.K H p (bs.map V.bl)/\Q (.bl (bs.all id)) H):=by
 intro ε s σ H xs us Q I r h;let(p,bs,rfl,hq,q):=h;let(u,rfl,rx):=vals1 r;cases rx;let(aR,rv,pl,hz):=I.list hq;refine call_all_walk (aay pl.isList ?_);have di:p<8:=by let(o,n,e,_):=pl;exact eS e
 have fY:=hV di;have hh:X.A.in1.handled=none:=I.ok.hd hc;refine#[8,_,_,_,_,_,λi=>bs.getD i true,9,Walks.list hh 8 p fY aR.toArray,#[#[_,gQ _ 9,9,9],pl.isList.push _],?_,λh' tk k=>?_];intro i v s' Q' E' hP hQ;have hP':aR[i]?\v:=by simpa using hP
 have hb:i<bs.length:=by
  have:=rv.length;have h2:=(c7.mp hP').1;rw[bS] at this
  lia
 let(u,e1,r1):=rv.get (i:=i) (x:=.bl bs[i]) (by simp[hb]);rw[hP'] at e1;cases e1;obtain rfl:=r1;have e3:bs.getD i true=bs[i]:=by simp[List.getD,hb]
 dsimp only at hQ;rw[e3] at hQ;exact v9 hQ;have hl:aR.toArray.size=bs.length:=by have:=rv.length;rw[bS] at this;rw[iD];lia
 have e:(List.range aR.toArray.size).all (λi=>bs.getD i true)=bs.all id:=by rw[hl,YV,R3,R3];constructor;intro h x hx;let(i,hi,e):=YO.mp hx;have:=h i (Bm.mpr hi);simp only[List.getD,eZ hi,N7] at this;rw[<- e];exact this;intro h i hi;have ZT:=Bm.mp hi;simp only[List.getD,eZ ZT,N7];exact h _ (FK ZT)
 rw[e];refine#[.bl (bs.all id),H,?_,9,q];have I0:Inv X ε σ H {s with heap:=s.heap.push {cls:=.type "list_iterator",data:=.fields ([.ref p,.int 0 0].toArray)} }:=I.kept λb o e=>dF _ e;have fk:=I.qB (cL 8) I.fresh;let(f0,f1,_,f3,f4,f5):=fk;exact I0.turned (λb o hb e=>k b o (by simpa using hb) e) f0 f1 f3 f4 f5
def ud:Sh X "str.startswith" (λx xs H Q=>∃z y,x=.str z/\xs=[.str y]/\Q (.bl (Txt.startswith z y)) H):=by intro ε s σ H x xs v us Q I rx rs h;let(z,y,rfl,rfl,q):=h;let(t,rfl):=rx;let(u,rfl,t',rfl):=vals1 rs;exact SC.startswith #[.bl _,H,I,9,q]
def ZU:V->Option Int->Option Int->Hp->VK->Prop:=λx lo hi H Q=>∃z,x=.str z/\z.length<=sizeLine/\Q (.str (Txt.slice z lo hi)) H
def U5:Jg X ZU:=by
 intro ε s σ H x v vl vu lo hi sl Q I rx hs pl pu h;let(z,rfl,hz,q):=h;let(t,rfl):=rx;let(o,e,c,d):=hs;refine#["str",_,slot_str_getitem.lookup,typeIs_str _ _ _,?_];cases pl with
 |none=>
  cases pu with
  |none=>exact aao (l:=none) (u:=none) (st:=none) #[o,e,c,d] 9 (aaF #[kJ (Txt.slice_le z _ _) hz,λt' k=>#[.str _,H,I.tok _,#[_,9],q]])
  |int j tj=>exact aao (l:=none) (u:=some (j,tj)) (st:=none) #[o,e,c,d] 9 (aaF #[kJ (Txt.slice_le z _ _) hz,λt' k=>#[.str _,H,I.tok _,#[_,9],q]])
 |int i ti=>
  cases pu with
  |none=>exact aao (l:=some (i,ti)) (u:=none) (st:=none) #[o,e,c,d] 9 (aaF #[kJ (Txt.slice_le z _ _) hz,λt' k=>#[.str _,H,I.tok _,#[_,9],q]])
  |int j tj=>exact aao (l:=some (i,ti)) (u:=some (j,tj)) (st:=none) #[o,e,c,d] 9 (aaF #[kJ (Txt.slice_le z _ _) hz,λt' k=>#[.str _,H,I.tok _,#[_,9],q]])
end
def aI{D:Addr}{o:HO}(h:H D=none):aW H (upd H D o):=λb u e=>by rw[aG (bK e h)];exact e
section
def Inv.grown{ch:qah}{t:Addr}{o:HO}(I:Inv X ε σ H s)(k:∀b u,b∉ch->s.heap.get? b\u->h'.get? b\u)(hf:∀b∈ch,nM X ε H b)(ht:8<=t)(new:cb X.prog X.w (upd H t o) h' t o):Inv X ε σ (upd H t o) {s with heap:=h',toks:=t'}:=by
 have hn:=I.bZ.fresh ht;have IQ:∀b u,H b\u->b∉ch:=λb u e z=>by rw[(hf b z).1] at e;cases e
 refine I.step (λb hb=>?_) (λb u _ _ hc e _=>k b u hc e) (λb u _ _ hc e _=>#[u.slots,k b u hc e]) (λb u _ e n=>?_) (λb u hc e=>#[u,k b u hc e])
  (λb xs e=>?_) (λb u v e=>?_) (λb ps e=>#[([].toArray),?_]) (λm hm=>?_) (λb u e=>?_) I.bare
 let(_,f1,_,f3,f4,f5):=hf b hb;exact#[f3,f1,f4,f5];rw[aG (hV (tY (eS e) ht))];exact n;rw[aG (bK e hn)];exact e;rw[aG (bK e hn)];exact e;rw[aG (bK e hn),e];simp;let(ob,es,ep,ho,r):=hm;exact#[ob,es,ep,k _ ob (λz=>(hf _ z).2.1 9) ho,r];by_cases hb:b=t;subst hb;rw[aK] at e;cases e;exact new;rw[aG hb] at e;refine (I.bZ b u e).By (λc v hc q=>k c v ?_ q) (λc q=>by rw[aG (bK q hn)];exact q) λc xs q=>by rw[aG (bK q hn)];exact q
 obtain z|z:=hc
 rw[z];exact IQ b u e;exact IQ c _ z
end
def Ite(K:qaf)(a:Addr):It :=
 #[λi H=>∃xs x,f_ K H a xs/\xs[i]?\x,λi H v H'=>∃t x,H t=none/\v=.ref t/\(∀xs,f_ K H a xs->xs[i]?\x)/\H'=upd H t (.tup [.int (i:Int),x]),λi H=>∃xs,f_ K H a xs/\xs.length<=i]
def Gh{x1}(a e it:Addr)(fY:e≠it) :
  Turn P w K (.Tuple elts x1 tp) (Ite K a) [e,it] e (λi h=>(∃old,IsEnum h e it (i:Int) old)/\h.IsListIter it a i) where
 mem:=by simp
 obj:=λi h st b hb=>by
  let((old,h1),o,h2,c,d):=st;rcases dQ.mp hb with z|z
  subst z;exact#[_,h1,λv z=>by cases z];have z':b=it:=by simpa using z
  subst z';exact#[o,h2,λv z=>by rw[d] at z;cases z]
 keep:=λi h h' st k=>by let((old,h1),vX):=st;exact#[#[old,k e 6 _ h1],vX.at λo q=>k it 6 o q]
 item:=by
  intro X hP hw hK hc i ε s σ H E I hf st hg;subst hP hw hK;let(xs,x,hq,hx):=hg;let(aR,rv,p,hz):=I.list hq;let(u,hu,ru):=rv.get hx;let((old,h1),vX):=st;refine wpAny_pyNext_enum_item h1 vX p.isList (by simpa using hu) fY λh₁ R7 afw ht₁ Js hk₁=>#[_,9,wpAny_letOwnedTupleGo_enum R7 λh₂ U6 yZ=>?_];have ue:=yZ;have di:=eS h1;have hte:=FQ di;have kk:∀b ob,b∉[e,it]->s.heap.get? b\ob->h₂.get? b\ob:=λb ob hb q=>by have Ik:b≠e:=λz=>hb (by simp[z]);have ZV:b≠it:=λz=>hb (by simp[z]);exact (ue.2 b Ik).trans (hk₁ b ob Ik ZV q)
  have new:cb X.prog X.w (upd H 8 (.tup [.int i,x])) h₂ 8 (.tup [.int i,x]) :=
   #[by show 2<=sizeLine;rw[π];decide,[.int i s.toks,u],.cons #[_,9] (.cons ru .nil),#[_,(ue.2 _ hte).trans ht₁,9,_,9]]
  refine#[.ref 8,upd H 8 (.tup [.int i,x]),I.grown kk hf (cL _) new,9,#[_,x,I.fresh,9,λys hy=>by rw[I.qA hy hq];exact hx,9],#[#[u,?_],?_],λb hb=>?_];have:(i+1)=((i+1:Nat):Int):=by lia
  rw[<- this];exact U6;let(o,q,r):=afw;exact#[o,(ue.2 it (Ne.symm fY)).trans q,r];have Yj:b<8:=by
   rcases dQ.mp hb with z|z
   subst z;exact di;have z':b=it:=by simpa using z
   subst z';let(o,q,_):=vX;exact eS q
  rw[aG (hV Yj)];exact (hf b hb).1
 done:=by intro X hP hw hK hc i ε s σ H E I hf st hg;subst hP hw hK;let(xs,hq,hx):=hg;let(aR,rv,p,hz):=I.list hq;have hl:=rv.length;let((old,h1),vX):=st;let(f0,f1,f2,f3,f4,f5):=hf it 6;exact wpAny_pyNext_enum_end (I.ok.hd hc) h1 vX p.isList (by simp;lia) λh' eb=>#[9,I.turned (λb o hb q=>eb b o hb q) f0 f1 f3 f4 f5]
 self:=λ_ _ _ _ _ st h=>by let((old,h1),_):=st;exact wpAny_pyIter_enum h1 h
def ZW(K:qaf)(ta:TA):TI:=λσ H R=>ta σ H λvs H1=>∃a,vs=[.ref a]/\(∃xs,f_ K H1 a xs)/\R (Ite K a) H1
section
def boot_enumerate:bootBuiltins "enumerate"\.type "enumerate":=by decide +kernel
def OZ{x1}{a:Expr}{ta:TA}{pos:Pos}(hg:Gl X "enumerate")(hm:X.mg "enumerate"=none)(ha:PA X [a] ta)(hs:starEach [a] X.env=[(false,eval a X.env)]:=by rfl) :
  PI X (.Tuple elts x1 tp) (.Call (.Name "enumerate" p) [a] [] pos) (ZW X.K ta):=by
 intro ε s σ H R I h;refine Call_ (nK I hg hm boot_enumerate (ab2 (cT (ha pos ε s σ H _ I h) λus s1 #[vs,H1,I1,r1,q1]=>?_) hs 9));let(b,e,(xs,hq),q):=q1;subst e;let(u,rfl,ru):=vals1 r1;cases ru;let(aR,rv,pl,hz):=I1.list hq;refine call_enumerate_list pl.isList λh' he hit hsz hk=>?_;have I2:=I1.kept (t':=s1.toks) hk;refine wpAny_pyIter_enum he #[s1.heap.objs.size+1,[s1.heap.objs.size+1,s1.heap.objs.size],_,_,H1,9,I2,Gh b _ _ (FQ (qw _)),#[#[_,he],hit],λc hc=>?_,q];rcases dQ.mp hc with z|z
 subst z;exact I1.qB (IK _) (I1.bZ.fresh (IK _));have z':c=s1.heap.objs.size:=by simpa using z
 subst z';exact I1.qB (cL _) I1.fresh
end
section
def uf(hc:X.calm=true):dh X (.builtin "sum") (λxs H Q=>∃(p:Addr)(ns:qan),xs=[.ref p]/\f_ X.K H p (ns.map V.int)/\Q (.int ns.sum) H):=by
 intro ε s σ H xs us Q I r h;let(p,ns,rfl,hq,q):=h;let(u,rfl,rx):=vals1 r;cases rx;let(aR,rv,pl,hz):=I.list hq;have hI:IntsAre aR ns:=intsAre_of rv;let(xs,e):=hI.allInts.items;have hn:=hI.numsOf;have hl:s.heap.IsList p (intItems xs):=by rw[<- e];exact pl.isList
 refine sum_intListG (I.ok.hd hc) hl λh' tk t' hk=>?_;have e2:preSum (numAt xs) xs.size=ns.sum:=by rw[preSum_eq,X1 6,<- nums_intItems,<- e,List.toList_toArray,hn]
 rw[e2];exact#[.int ns.sum,H,I.kept hk,#[_,9],q]
end
end L2
namespace y0
open PySem Builtin Builtin.Str
def cf:Str:="abcdefghijklmnopqrstuvwxyz"
def NV(c:Nat):Bool:=!(occurrences cf #[([c].toArray)] 0 cf.length 1).isEmpty
def cW(x:Str):Bool:=decide (1<=(x.length:Int)) && (decide ((x.length:Int)<=08) && x.cps.toList.all NV)
def lg(x:Str):Bool:=Txt.startswith x "." && cW (Txt.slice x (some 1) none)
def wg(h:cW x=true):x.cps.toList.all NV=true:=by unfold cW at h;rw[pK,pK] at h;exact h.2.2
end y0
namespace VT
open PySem PySem.Spec PyProof.Rows L2
abbrev St:=L2.St
inductive T where
 |bY|bl (b:Bool)|int (i:Int)|str (x:Str)|tup (l:List T)|lst (l:List T)|dk (ks:List Key) (vs:List T)|dt (ks:List (List Key)) (vs:List T)|df (o:Obj) (ks:List (List Key)) (vs:List T)|kt (k:List Key)|ins (C:Addr) (ns:χ) (vs:List T)|pin (a:Addr) (t:T)|ob (a:Addr)|ty (n:String)
abbrev aP(t:T):Option (T×Bool):=some (t,false)
def ug(K:qaf)(H:Hp)(O:qah)(a:Addr)(vs:qak):Prop :=
 (Rd H a (.lst vs)/\a∉O)\/∃(o:Obj)(aR:Array Value)(n:Nat),K.lookup a\o/\o.cls=.type "list"/\o.dict=none/\o.data=.seq aR n/\aR.size<=sizeLine/\Vals vs aR.toList
def ug.sq{O:qah}(h:ug K H O a vs):f_ K H a vs:=by
 obtain h|h:=h
 exact .inl h.1;exact .inr h
def wj(H:Hp)(O:qah)(a:Addr)(u:HO):Prop:=H a=some u/\a∉O
def agE(nh:List Key×Key->Int)(a:Addr)(xs:List ((List Key×Key)×Addr×Value)):Heap->Prop:=λh=>E3 λo es ep=>h.get? a\o/\o.ExactDict/\o.data=.dict es ep/\es.toList=xs.map (λx=>#[nh x.1,.ref x.2.1,x.2.2])/\(xs.map (·.1)).Nodup
def agF(K:qaf)(H:Hp)(c:List Key×Key)(b:Addr):Prop:=∃d,e_ K H b [.ref d,kV c.2]/\e_ K H d (c.1.map kV)
mutual
def At(K:qaf)(H:Hp)(O:qah):T->V->Prop
 |.bY,v=>v=.bY
 |.bl b,v=>v=.bl b
 |.int i,v=>v=.int i
 |.str x,v=>v=.str x
 |.ob a,v=>v=.ref a
 |.ty n,v=>v=.ty n
 |.tup ts,v=>∃a vs,v=.ref a/\e_ K H a vs/\aD K H O ts vs
 |.lst ts,v=>∃a vs,v=.ref a/\ug K H O a vs/\aD K H O ts vs
 |.dk ks ts,v=>∃a vs,v=.ref a/\ks.length=vs.length/\wj H O a (.dK (ks.zip vs))/\aD K H O ts vs
 |.dt ks ts,v=>∃a vs,v=.ref a/\ks.length=vs.length/\wj H O a (.dT (ks.zip vs))/\aD K H O ts vs
 |.df o ks ts,v=>∃a vs,v=.ref a/\ks.length=vs.length/\wj H O a (.k7 o (.dT (ks.zip vs)))/\aD K H O ts vs
 |.kt k,v=>∃a,v=.ref a/\wj H O a (.tup (k.map kV))
 |.pin a t,v=>v=.ref a/\At K H O t v
 |.ins C ns ts,v=>∃a dx vs,v=.ref a/\ns.length=vs.length/\wj H O a (.ins C dx (ns.zip vs))/\aD K H O ts vs
def aD(K:qaf)(H:Hp)(O:qah):List T->qak->Prop
 |[],vs=>vs=[]
 |t::ts,vs=>∃v r,vs=v::r/\At K H O t v/\aD K H O ts r
end
section
variable{O O':qah}
mutual
theorem At.map(hl:∀a vs,ug K H O a vs->ug K H' O' a vs)(ht:∀a vs,e_ K H a vs->e_ K H' a vs)(hd:∀a u,wj H O a u->wj H' O' a u):∀{t:T}{v:V},At K H O t v->At K H' O' t v
 |.bY,_,h=>by simpa only[At] using h
 |.bl _,_,h=>by simpa only[At] using h
 |.int _,_,h=>by simpa only[At] using h
 |.str _,_,h=>by simpa only[At] using h
 |.ob _,_,h=>by simpa only[At] using h
 |.ty _,_,h=>by simpa only[At] using h
 |.tup ts,_,h=>by simp only[At] at h ⊢;let(a,vs,e,h1,h2):=h;exact#[a,vs,e,ht a vs h1,aD.map hl ht hd h2]
 |.lst ts,_,h=>by simp only[At] at h ⊢;let(a,vs,e,h1,h2):=h;exact#[a,vs,e,hl a vs h1,aD.map hl ht hd h2]
 |.dk ks ts,_,h=>by simp only[At] at h ⊢;let(a,vs,e,h0,h1,h2):=h;exact#[a,vs,e,h0,hd _ _ h1,aD.map hl ht hd h2]
 |.dt ks ts,_,h=>by simp only[At] at h ⊢;let(a,vs,e,h0,h1,h2):=h;exact#[a,vs,e,h0,hd _ _ h1,aD.map hl ht hd h2]
 |.df o ks ts,_,h=>by simp only[At] at h ⊢;let(a,vs,e,h0,h1,h2):=h;exact#[a,vs,e,h0,hd _ _ h1,aD.map hl ht hd h2]
 |.kt k,_,h=>by simp only[At] at h ⊢;let(a,e,h1):=h;exact#[a,e,hd _ _ h1]
 |.pin a t,_,h=>by simp only[At] at h ⊢;exact#[h.1,At.map hl ht hd h.2]
 |.ins C ns ts,_,h=>by simp only[At] at h ⊢;let(a,dx,vs,e,h0,h1,h2):=h;exact#[a,dx,vs,e,h0,hd _ _ h1,aD.map hl ht hd h2]
theorem aD.map(hl:∀a vs,ug K H O a vs->ug K H' O' a vs)(ht:∀a vs,e_ K H a vs->e_ K H' a vs)(hd:∀a u,wj H O a u->wj H' O' a u):∀{ts:List T}{vs:qak},aD K H O ts vs->aD K H' O' ts vs
 |[],_,h=>by simpa only[aD] using h
 |t::ts,_,h=>by simp only[aD] at h ⊢;let(v,r,e,h1,h2):=h;exact#[v,r,e,At.map hl ht hd h1,aD.map hl ht hd h2]
end
def Rd.same{u:HO}(s:aW H H')(h:Rd H a u):Rd H' a u:=by
 obtain h|⟨o,h⟩:=h
 exact .inl (s _ _ h);exact .inr #[o,s _ _ h]
def e_.same(s:aW H H')(h:e_ K H a vs):e_ K H' a vs:=by
 obtain h|h:=h
 exact .inl (Rd.same s h);exact .inr h
def ug.same(s:aW H H')(h:ug K H O a vs):ug K H' O a vs:=by
 obtain h|h:=h
 exact .inl #[Rd.same s h.1,h.2];exact .inr h
def At.same{t:T}(s:aW H H')(h:At K H O t v):At K H' O t v:=At.map (λ_ _ q=>q.same s) (λ_ _ q=>e_.same s q) (λ_ _ q=>#[s _ _ q.1,q.2]) h
def aD.same{t:List T}{v:qak}(s:aW H H')(h:aD K H O t v):aD K H' O t v:=aD.map (λ_ _ q=>q.same s) (λ_ _ q=>e_.same s q) (λ_ _ q=>#[s _ _ q.1,q.2]) h
def At.bC{t:T}(s:∀a∈O',a∈O)(h:At K H O t v):At K H O' t v :=
 At.map (λa vs q=>q.elim (λz=>.inl #[z.1,λm=>z.2 (s a m)]) .inr) (λ_ _ q=>q) (λa _ q=>#[q.1,λm=>q.2 (s a m)]) h
def aD.bC{t:List T}{v:qak}(s:∀a∈O',a∈O)(h:aD K H O t v):aD K H O' t v :=
 aD.map (λa vs q=>q.elim (λz=>.inl #[z.1,λm=>z.2 (s a m)]) .inr) (λ_ _ q=>q) (λa _ q=>#[q.1,λm=>q.2 (s a m)]) h
def Rd.some{u:HO}(h:Rd H a u):H a≠none:=by obtain h|⟨o,h⟩:=h<;>rw[h]<;>simp
def At.more{t:T}(s:∀a∈O',a∈O\/H a=none)(h:At K H O t v):At K H O' t v :=
 At.map (λa vs q=>q.elim (λz=>.inl #[z.1,λm=>(s a m).elim z.2 (Rd.some z.1)]) .inr) (λ_ _ q=>q) (λa bj q=>#[q.1,λm=>(s a m).elim q.2 (by rw[q.1];simp)]) h
def aD.more{t:List T}{v:qak}(s:∀a∈O',a∈O\/H a=none)(h:aD K H O t v):aD K H O' t v :=
 aD.map (λa vs q=>q.elim (λz=>.inl #[z.1,λm=>(s a m).elim z.2 (Rd.some z.1)]) .inr) (λ_ _ q=>q) (λa bj q=>#[q.1,λm=>(s a m).elim q.2 (by rw[q.1];simp)]) h
def pP:HO->Bool
 |.lst _=>true
 |.dK _=>true
 |.dT _=>true
 |.ins _ _ _=>true
 |.ext _=>true
 |_=>false
def At.wrote{t:T}{o u:HO}(ha:a∈O)(hu:H a\u)(hm:pP u=true)(h:At K H O t v):At K (upd H a o) O t v:=by
 have ne:∀b,b∉O->b≠a:=λb hb e=>hb (by rw[e];exact ha);refine At.map (λb vs q=>?_) (λb vs q=>?_) (λb bj q=>?_) h;obtain q|q:=q
 refine .inl #[?_,q.2];obtain z|⟨o',z⟩:=q.1
 exact .inl (by rw[aG (ne b q.2)];exact z);exact .inr #[o',by rw[aG (ne b q.2)];exact z];exact .inr q;obtain z|z:=q
 refine .inl ?_;obtain z|⟨o',z⟩:=z
 exact .inl (by rw[aG (IL z hu (by intro e;subst e;cases hm))];exact z);exact .inr #[o',by rw[aG (IL z hu (by intro e;subst e;cases hm))];exact z];exact .inr z;exact#[by rw[aG (ne b q.2)];exact q.1,q.2]
def aD.iff{ts:List T}:∀{vs:qak},aD K H O ts vs↔Paired (λv t=>At K H O t v) vs ts:=by
 induction ts with
 |nil=>intro vs;simp only[aD];exact#[λe=>by subst e;exact .nil,λh=>by cases h;rfl]
 |cons t ts ih=>
  intro vs;simp only[aD];constructor;rintro⟨v,r,rfl,h1,h2⟩;exact .cons h1 (ih.mp h2);intro h;cases h with
  |cons h1 h2=>exact#[_,_,9,h1,ih.mpr h2]
def aD.wrote{t:List T}{v:qak}{o u:HO}(ha:a∈O)(hu:H a\u)(hm:pP u=true)(h:aD K H O t v):aD K (upd H a o) O t v :=
 aD.iff.mpr (Paired.pL (aD.iff.mp h) λ_ _ q=>q.wrote ha hu hm)
def aD.length{ts:List T}{vs:qak}(h:aD K H O ts vs):vs.length=ts.length:=R5 (aD.iff.mp h)
def aD.get{ts:List T}{vs:qak}(h:aD K H O ts vs){i:Nat}{t:T}(e:ts[i]?\t):∃v,vs[i]?\v/\At K H O t v:=by
 have q:=aD.iff.mp h;clear h;induction q generalizing i with
 |nil=>simp at e
 |cons r _ ih=>
  cases i with
  |zero=>simp at e;subst e;exact#[_,9,r]
  |succ i=>let(v,h1,h2):=ih (i:=i) (by simpa using e);exact#[v,by simpa using h1,h2]
def aD.cons{t:T}{ts:List T}{v:V}{vs:qak}(h:At K H O t v)(hs:aD K H O ts vs):aD K H O (t::ts) (v::vs):=by simp only[aD];exact#[v,vs,9,h,hs]
def aD.nil:aD K H O [] []:=by simp only[aD]
def aD.append{ts us:List T}{ws:qak}(h:aD K H O ts vs)(h':aD K H O us ws):aD K H O (ts++us) (vs++ws):=by
 rw[aD.iff] at h h' ⊢;induction h with
 |nil=>exact h'
 |cons r _ ih=>exact .cons r ih
def aD.drop{ts:List T}(n:Nat)(h:aD K H O ts vs):aD K H O (ts.drop n) (vs.drop n):=by
 rw[aD.iff] at h ⊢;induction h generalizing n with
 |nil=>cases n<;>exact .nil
 |cons r t ih=>cases n with
  |zero=>exact .cons r t
  |succ n=>exact ih n
def aD.take{ts:List T}(n:Nat)(h:aD K H O ts vs):aD K H O (ts.take n) (vs.take n):=by
 rw[aD.iff] at h ⊢;induction h generalizing n with
 |nil=>cases n<;>exact .nil
 |cons r t ih=>cases n with
  |zero=>exact .nil
  |succ n=>exact .cons r (ih n)
def aD.set{ts:List T}{t:T}(i:Nat)(h:aD K H O ts vs)(q:At K H O t v):aD K H O (ts.set i t) (vs.set i v):=by
 rw[aD.iff] at h ⊢;induction h generalizing i with
 |nil=>exact .nil
 |cons r s ih=>cases i with
  |zero=>exact .cons q s
  |succ i=>exact .cons r (ih i)
end
mutual
def Bn:T->Bool
 |.tup ts=>uh ts
 |.lst _=>false
 |.dk _ _=>false
 |.dt _ _=>false
 |.df _ _ _=>false
 |.kt _=>false
 |.ins _ _ _=>false
 |.pin _ _=>false
 |_=>true
def uh:List T->Bool
 |[]=>true
 |t::ts=>Bn t && uh ts
end
section
variable{O O':qah}
mutual
theorem At.Bn:∀{t:T}{v:V},Bn t=true->At K H O t v->At K H O' t v
 |.bY,_,_,h=>by simpa only[At] using h
 |.bl _,_,_,h=>by simpa only[At] using h
 |.int _,_,_,h=>by simpa only[At] using h
 |.str _,_,_,h=>by simpa only[At] using h
 |.ob _,_,_,h=>by simpa only[At] using h
 |.ty _,_,_,h=>by simpa only[At] using h
 |.tup ts,_,i,h=>by simp only[At] at h ⊢;simp only[VT.Bn] at i;let(a,vs,e,h1,h2):=h;exact#[a,vs,e,h1,aD.Bn i h2]
 |.lst ts,_,i,h=>by simp only[VT.Bn] at i;cases i
 |.dk _ _,_,i,h=>by simp only[VT.Bn] at i;cases i
 |.dt _ _,_,i,h=>by simp only[VT.Bn] at i;cases i
 |.df _ _ _,_,i,h=>by simp only[VT.Bn] at i;cases i
 |.kt _,_,i,h=>by simp only[VT.Bn] at i;cases i
 |.ins _ _ _,_,i,h=>by simp only[VT.Bn] at i;cases i
 |.pin _ _,_,i,h=>by simp only[VT.Bn] at i;cases i
theorem aD.Bn:∀{ts:List T}{vs:qak},uh ts=true->aD K H O ts vs->aD K H O' ts vs
 |[],_,_,h=>by simpa only[aD] using h
 |t::ts,_,i,h=>by simp only[VT.uh,pK] at i;simp only[aD] at h ⊢;let(v,r,e,h1,h2):=h;exact#[v,r,e,At.Bn i.1 h1,aD.Bn i.2 h2]
end
end
abbrev En:=List (Option (T×Bool))
structure Zc where
 H0:Hp
 P:List (Nat×Addr)
 Ox:qah
def Zc.ex(Z:Zc)(a:Addr):Zc:={Z with Ox:=a::Z.Ox}
def dq(K:qaf)(H:Hp)(A:qah)(a:Addr):T->Prop
 |.lst ts=>∃vs,H a\.lst vs/\aD K H A ts vs
 |.dk ks ts=>∃vs,ks.length=vs.length/\H a\.dK (ks.zip vs)/\aD K H A ts vs
 |.dt ks ts=>∃vs,ks.length=vs.length/\H a\.dT (ks.zip vs)/\aD K H A ts vs
 |.ins C ns ts=>∃dx vs,ns.length=vs.length/\H a\.ins C dx (ns.zip vs)/\aD K H A ts vs
 |_=>False
def lh(K:qaf)(H:Hp)(A:qah):Option (T×Bool)->qar->Option V->Prop
 |none,o,_=>o=none
 |some (t,false),o,s=>o=none/\∃v,s\v/\At K H A t v
 |some (t,true),o,s=>∃a,o\a/\s\.ref a/\dq K H A a t
def roots(O:HD):qah:=O.filterMap id
def av(Z:Zc)(O:HD):qah:=roots O++Z.Ox
structure aB(K:qaf)(Z:Zc)(tm:List (T×V))(O:HD)(ρ:En)(σ:St)(H:Hp):Prop where
 lσ:σ.length=ρ.length
 lO:O.length=ρ.length
 sl:∀(i:Nat) e,ρ[i]?\e->∃o s,O[i]?\o/\σ[i]?\s/\lh K H (av Z O) e o s
 nd:(roots O).Nodup
 own:∀a∈roots O,(a∈Z.P.map (·.2)\/Z.H0 a=none)/\a∉Z.Ox/\∃u,H a\u/\pP u=true
 par:∀p∈Z.P,O[p.1]?\some p.2
 ox:∀a∈Z.Ox,H a≠none
 keep:∀b o,Z.H0 b\o->b∉Z.P.map (·.2)->H b\o
 lj:∀p∈tm,At K H (av Z O) p.1 p.2
section
variable{Z:Zc}{tm:List (T×V)}{ρ:En}
def dq.map{A A':qah}{t:T}(h:dq K H A a t)(h1:H' a=H a)(h2:∀ts vs,aD K H A ts vs->aD K H' A' ts vs):dq K H' A' a t:=by
 cases t with
 |lst ts=>let(vs,e,q):=h;exact#[vs,h1.trans e,h2 _ _ q]
 |dk ks ts=>let(vs,l,e,q):=h;exact#[vs,l,h1.trans e,h2 _ _ q]
 |dt ks ts=>let(vs,l,e,q):=h;exact#[vs,l,h1.trans e,h2 _ _ q]
 |ins C ns ts=>let(dx,vs,l,e,q):=h;exact#[dx,vs,l,h1.trans e,h2 _ _ q]
 |_=>exact h.elim
def dq.mut{A:qah}{t:T}(h:dq K H A a t):∃u,H a\u/\pP u=true:=by
 cases t with
 |lst ts=>let(vs,e,q):=h;exact#[_,e,9]
 |dk ks ts=>let(vs,l,e,q):=h;exact#[_,e,9]
 |dt ks ts=>let(vs,l,e,q):=h;exact#[_,e,9]
 |ins C ns ts=>let(dx,vs,l,e,q):=h;exact#[_,e,9]
 |_=>exact h.elim
def dq.bC{A A':qah}{t:T}(h:dq K H A a t)(s:∀b∈A',b∈A):dq K H A' a t:=h.map 9 λ_ _ q=>q.bC s
def dq.same{A:qah}{t:T}(h:dq K H A a t)(s:aW H H'):dq K H' A a t:=by let(u,e,_):=h.mut;exact h.map (by rw[e];exact s _ _ e) λ_ _ q=>q.same s
def dq.at{A:qah}{t:T}(h:dq K H A a t)(n:a∉A):At K H A t (.ref a):=by
 cases t with
 |lst ts=>let(vs,e,q):=h;simp only[At];exact#[a,vs,9,.inl #[.inl e,n],q]
 |dk ks ts=>let(vs,l,e,q):=h;simp only[At];exact#[a,vs,9,l,#[e,n],q]
 |dt ks ts=>let(vs,l,e,q):=h;simp only[At];exact#[a,vs,9,l,#[e,n],q]
 |ins C ns ts=>let(dx,vs,l,e,q):=h;simp only[At];exact#[a,dx,vs,9,l,#[e,n],q]
 |_=>exact h.elim
def lh.map{A A':qah}{e:Option (T×Bool)}{o:qar}{s:Option V}(h:lh K H A e o s)(h1:∀t v,At K H A t v->At K H' A' t v)(h2:∀a t,o\a->dq K H A a t->dq K H' A' a t):lh K H' A' e o s:=by
 match e,h with
 |none,h=>exact h
 |some (t,false),#[e,v,es,q]=>exact#[e,v,es,h1 _ _ q]
 |some (t,true),#[a,e,es,q]=>exact#[a,e,es,h2 _ _ e q]
def aH:a∈roots O↔some a∈O:=by unfold roots;rw[acJ];exact#[λ#[x,h,e]=>by rw[id] at e;rw[<- e];exact h,λh=>#[_,h,9]]
def aB.O0(I:aB K Z tm O ρ σ H):∀a∈av Z O,H a≠none:=λa h=>by
 rcases fM.mp h with h|h
 let(_,_,u,e,_):=I.own a h;rw[e];simp;exact I.ox a h
def aB.same(I:aB K Z tm O ρ σ H)(s:aW H H'):aB K Z tm O ρ σ H' :=
 #[I.lσ,I.lO,λi e h=>let #[o,w,h1,h2,h3]:=I.sl i e h;#[o,w,h1,h2,h3.map (λ_ _ q=>q.same s) λ_ _ _ q=>q.same s],I.nd,
  λa h=>let #[h1,h2,u,e,m]:=I.own a h;#[h1,h2,u,s _ _ e,m],I.par,λa h=>by
   cases e:H a with
   |none=>exact absurd e (I.ox a h)
   |some u=>rw[s _ _ e];simp,
  λb o e n=>s _ _ (I.keep b o e n),λp hp=>(I.lj p hp).same s]
def cq(i:Nat):∀a∈roots (O.set i none),a∈roots O:=λa h=>by
 rw[aH] at h ⊢;rcases XZ h with z|z
 exact z;cases z
theorem fH:∀(O:HD)(i:Nat),(roots O).Nodup->(roots (O.set i none)).Nodup
 |[],i,h=>by simpa using h
 |o::O,0,h=>by
  cases o with
  |none=>simpa[roots] using h
  |some a=>simp only[roots,List.set_cons_zero,tX,id] at h ⊢;exact (qx.mp h).2
 |o::O,i+1,h=>by
  have key:=fH O i;cases o with
  |none=>simp only[roots,X7,tX,id] at h ⊢;exact key h
  |some a=>simp only[roots,X7,tX,id] at h ⊢;rw[qx] at h ⊢;exact#[λz=>h.1 (cq i a z),key h.2]
def cu(i:Nat):∀a∈av Z (O.set i none),a∈av Z O:=λa h=>by
 rcases fM.mp h with h|h
 exact hY _ (cq i a h);exact jZ _ h
def get_set{l:List α}{x y:α}(h:(l.set i x)[j]?\y):(j=i/\y=x/\i<l.length)\/(j≠i/\l[j]?\y):=by rw[List.getElem?_set] at h;by_cases e:i=j;rw[ι e] at h;by_cases hl:i<l.length;rw[ι hl] at h;exact .inl #[e.symm,(Option.some.inj h).symm,hl];rw[θ hl] at h;cases h;rw[θ e] at h;exact .inr #[λz=>e z.symm,h]
def aB.put(I:aB K Z tm O ρ σ H){t:T}(hp:∀p∈Z.P,p.1≠i)(hv:At K H (av Z O) t v):aB K Z tm (O.set i none) (ρ.set i (some (t,false))) (σ.set i (some v)) H:=by
 have fw:∀{t:T}{v:V},At K H (av Z O) t v->At K H (av Z (O.set i none)) t v:=λq=>q.bC (cu i);refine#[by simp[I.lσ],by simp[I.lO],λj e h=>?_,fH _ _ I.nd,λa h=>I.own a (cq i a h),λp q=>?_,I.ox,I.keep,λp q=>fw (I.lj p q)];rcases get_set h with⟨rfl,rfl,hl⟩|⟨ne,h⟩
 exact#[none,some v,by rw[DE (by rw[I.lO];exact hl)],by rw[DE (by rw[I.lσ];exact hl)],9,v,9,fw hv];let(o,s,h1,h2,h3):=I.sl j e h;exact#[o,s,by rw[uO (Ne.symm ne)];exact h1,by rw[uO (Ne.symm ne)];exact h2,h3.map (λ_ _ q=>fw q) λ_ _ _ q=>q.bC (cu i)];rw[uO (Ne.symm (hp p q))];exact I.par p q
def aB.forget(I:aB K Z tm O ρ σ H)(hp:∀p∈Z.P,p.1≠i):aB K Z tm (O.set i none) (ρ.set i none) σ H:=by
 have fw:∀{t:T}{v:V},At K H (av Z O) t v->At K H (av Z (O.set i none)) t v:=λq=>q.bC (cu i);refine#[by simp[I.lσ],by simp[I.lO],λj e h=>?_,fH _ _ I.nd,λa h=>I.own a (cq i a h),λp q=>?_,I.ox,I.keep,λp q=>fw (I.lj p q)];rcases get_set h with⟨rfl,rfl,hl⟩|⟨ne,h⟩
 obtain⟨s,hs⟩:∃s,σ[j]?\s:=#[σ[j]'(by rw[I.lσ];exact hl),by simp];exact#[none,s,by rw[DE (by rw[I.lO];exact hl)],hs,9];let(o,s,h1,h2,h3):=I.sl j e h;exact#[o,s,by rw[uO (Ne.symm ne)];exact h1,h2,h3.map (λ_ _ q=>fw q) λ_ _ _ q=>q.bC (cu i)];rw[uO (Ne.symm (hp p q))];exact I.par p q
theorem oV:∀(O:HD)(i:Nat)(a:Addr),a∉roots O->(roots O).Nodup->(roots (O.set i (some a))).Nodup
 |[],i,a,_,h=>by simpa using h
 |o::O,0,a,n,h=>by
  cases o with
  |none=>simp only[roots,List.set_cons_zero,tX,id] at n h ⊢;exact qx.mpr #[n,h]
  |some b=>exact qx.mpr #[λz=>n (iB _ z),(qx.mp h).2]
 |o::O,i+1,a,n,h=>by
  have key:=oV O i a;cases o with
  |none=>simp only[roots,X7,tX,id] at n h ⊢;exact key n h
  |some b=>
   simp only[roots,X7,tX,id] at n h ⊢;rw[qx] at h ⊢;refine#[λz=>?_,key (λz=>n (iB _ z)) h.2];have z':=aH.mp z;rcases XZ z' with q|q
   exact h.1 (aH.mpr q);exact n (by rw[Option.some.inj q];exact iz)
def y1(i:Nat):∀b∈av Z (O.set i (some a)),b∈av (Z.ex a) O:=λb h=>by
 rcases fM.mp h with h|h
 rcases XZ (aH.mp h) with z|z
 exact hY _ (aH.mpr z);exact jZ _ (by rw[Option.some.inj z];exact iz);exact jZ _ (iB _ h)
def aB.afx(I:aB K (Z.ex a) tm O ρ σ H){t:T}(hp:∀p∈Z.P,p.1≠i)(hv:dq K H (av (Z.ex a) O) a t)(h0:Z.H0 a=none)(hx:a∉Z.Ox):aB K Z tm (O.set i (some a)) (ρ.set i (some (t,true))) (σ.set i (some (.ref a))) H:=by
 have sub:=y1 (Z:=Z) (O:=O) (a:=a) i;have fw:∀{t:T}{v:V},At K H (av (Z.ex a) O) t v->At K H (av Z (O.set i (some a))) t v:=λq=>q.bC sub;have na:=λz=>(I.own a z).2.1 iz;refine#[by simp[I.lσ],by simp[I.lO],λj e h=>?_,oV _ _ _ na I.nd,λb h=>?_,λp q=>?_,λb h=>I.ox b (iB _ h),I.keep,λp q=>fw (I.lj p q)];rcases get_set h with⟨rfl,rfl,hl⟩|⟨ne,h⟩
 exact#[some a,some (.ref a),by rw[DE (by rw[I.lO];exact hl)],by rw[DE (by rw[I.lσ];exact hl)],a,9,9,hv.bC sub];let(o,s,h1,h2,h3):=I.sl j e h;exact#[o,s,by rw[uO (Ne.symm ne)];exact h1,by rw[uO (Ne.symm ne)];exact h2,h3.map (λ_ _ q=>fw q) λ_ _ _ q=>q.bC sub];rcases XZ (aH.mp h) with z|z
 let(h1,h2,h3):=I.own b (aH.mpr z);exact#[h1,λq=>h2 (iB _ q),h3];cases z;exact#[.inr h0,hx,hv.mut];rw[uO (Ne.symm (hp p q))];exact I.par p q
theorem aB.k7(I:aB K Z tm O ρ σ H){t:T}(hp:∀p∈Z.P,p.1≠i)(hi:ρ[i]?\some (t,true)):aB K Z tm (O.set i none) (ρ.set i (some (t,false))) σ H:=by
 have fw:∀{t:T}{v:V},At K H (av Z O) t v->At K H (av Z (O.set i none)) t v:=λq=>q.bC (cu i);let(o,s,h1,h2,a,rfl,rfl,hr):=I.sl i _ hi;have ha:=aH.mpr (fL h1);have na:a∉roots (O.set i none):=λz=>by
  let(j,hj):=T4.mp (aH.mp z);rcases get_set hj with⟨_,q,_⟩|⟨ne,q⟩
  cases q
  -- two places of one root
  have key:∀O (i j:Nat),i<j->O[i]?\some a->O[j]?\some a->(roots O).Nodup->False:=by
   intro O;induction O with
   |nil=>intro i j _ h;simp at h
   |cons o O ih=>
    intro i j hij e1 e2 nd;cases j with
    |zero=>lia
    |succ j=>
     have Ge:O[j]?\some a:=by simpa using e2
     cases i with
     |zero=>
      have:o\a:=by simpa using e1
      subst this;exact (qx.mp nd).1 (aH.mpr (fL Ge))
     |succ i=>
      refine ih i j () (by simpa using e1) Ge ?_;cases o with
      |none=>simpa[roots] using nd
      |some b=>simp only[roots,tX,id] at nd;exact (qx.mp nd).2
  rcases Nat.lt_or_gt_of_ne ne with l|l
  exact key O j i l q h1 I.nd;exact key O i j l h1 q I.nd
 have nav:a∉av Z (O.set i none):=λz=>by
  rcases fM.mp z with z|z
  exact na z;exact (I.own a ha).2.1 z
 refine#[by simp[I.lσ],by simp[I.lO],λj e h=>?_,fH _ _ I.nd,λa h=>I.own a (cq i a h),λp q=>?_,I.ox,I.keep,λp q=>fw (I.lj p q)];rcases get_set h with⟨rfl,rfl,hl⟩|⟨ne,h⟩
 exact#[none,some (.ref a),by rw[DE (by rw[I.lO];exact hl)],h2,9,.ref a,9,(hr.bC (cu j)).at nav];let(o,s,h1,h2,h3):=I.sl j e h;exact#[o,s,by rw[uO (Ne.symm ne)];exact h1,h2,h3.map (λ_ _ q=>fw q) λ_ _ _ q=>q.bC (cu i)];rw[uO (Ne.symm (hp p q))];exact I.par p q
theorem aB.wrote(I:aB K Z tm O ρ σ H){t t':T}{u:HO}(hi:ρ[i]?\some (t,true))(hO:O[i]?\some a)(hr:dq K (upd H a u) (av Z O) a t'):aB K Z tm O (ρ.set i (some (t',true))) σ (upd H a u):=by
 have ha:=aH.mpr (fL hO);have Iu:a∈av Z O:=hY _ ha;let(hP,hx,u0,e0,m0):=I.own a ha;have inj:∀j b,j≠i->O[j]?\some b->b≠a:=by
  intro j b ne hj e;subst e;have key:∀O (i j:Nat),i<j->O[i]?\some b->O[j]?\some b->(roots O).Nodup->False:=by
   intro O;induction O with
   |nil=>intro i j _ h;simp at h
   |cons o O ih=>
    intro i j hij e1 e2 nd;cases j with
    |zero=>lia
    |succ j=>
     have Ge:O[j]?\some b:=by simpa using e2
     cases i with
     |zero=>
      have:o\b:=by simpa using e1
      subst this;exact (qx.mp nd).1 (aH.mpr (fL Ge))
     |succ i=>
      refine ih i j () (by simpa using e1) Ge ?_;cases o with
      |none=>simpa[roots] using nd
      |some c=>simp only[roots,tX,id] at nd;exact (qx.mp nd).2
  rcases Nat.lt_or_gt_of_ne ne with l|l
  exact key O j i l hj hO I.nd;exact key O i j l hO hj I.nd
 refine#[by simp[I.lσ],by simp[I.lO],λj e h=>?_,I.nd,λb h=>?_,I.par,λb h=>?_,λb o e n=>?_,λp q=>(I.lj p q).wrote Iu e0 m0];rcases get_set h with⟨rfl,rfl,hl⟩|⟨ne,h⟩
 let(o,s,h1,h2,a',h4,h5,h6):=I.sl j _ hi;rw[hO] at h1;cases h1;cases h4;exact#[_,s,hO,h2,a,9,h5,hr];let(o,s,h1,h2,h3):=I.sl j e h;refine#[o,s,h1,h2,h3.map (λ_ _ q=>q.wrote Iu e0 m0) λb t e q=>?_];subst e;exact q.map (aG (inj j b ne h1)) λ_ _ z=>z.wrote Iu e0 m0;let(h1,h2,v,e,m):=I.own b h;by_cases hb:b=a;subst hb;exact#[h1,h2,hr.mut];exact#[h1,h2,v,by rw[aG hb];exact e,m];by_cases hb:b=a;subst hb;exact absurd h hx;rw[aG hb];exact I.ox b h;by_cases hb:b=a;subst hb;obtain q|q:=hP
 exact absurd q n;rw[q] at e;cases e;rw[aG hb];exact I.keep b o e n
def aB.fresh(I:aB K Z tm O ρ σ H)(h:H a=none):a∉av Z O/\a∉Z.Ox/\Z.H0 a=none:=by
 refine#[λz=>I.O0 a z h,λz=>I.ox a z h,?_];cases e:Z.H0 a with
 |none=>rfl
 |some o=>by_cases hp:a∈Z.P.map (·.2);let(p,hp',rfl):=k6.mp hp;let(_,_,u,e',_):=I.own p.2 (aH.mpr (fL (I.par p hp')));rw[h] at e';cases e';rw[I.keep a o e hp] at h;cases h
def dG:∀b∈av (Z.ex a) O,b∈av Z O\/b=a:=λb h=>by
 rcases fM.mp h with h|h
 exact .inl (hY _ h);rcases dQ.mp h with h|h
 exact .inr h;exact .inl (jZ _ h)
def gc:∀b∈av Z O,b∈av (Z.ex a) O:=λb h=>by
 rcases fM.mp h with h|h
 exact hY _ h;exact jZ _ (iB _ h)
def aB.new(I:aB K Z tm O ρ σ H){u:HO}(h:H a=none)(hu:pP u=true):aB K (Z.ex a) tm O ρ σ (upd H a u):=by
 have s:aW H (upd H a u):=aI h;have J:=I.same s;let(n1,n2,n3):=I.fresh h;have mr:∀b∈av (Z.ex a) O,b∈av Z O\/H b=none:=λb hb=>(dG b hb).imp id λe=>by rw[e];exact h
 have fw:∀{t:T}{v:V},At K H (av Z O) t v->At K (upd H a u) (av (Z.ex a) O) t v:=λq=>(q.more mr).same s;refine#[J.lσ,J.lO,λi e hi=>?_,J.nd,λb hb=>?_,J.par,λb hb=>?_,J.keep,λp hp=>fw (I.lj p hp)];let(o,w,h1,h2,h3):=I.sl i e hi;refine#[o,w,h1,h2,h3.map (λ_ _ q=>fw q) λb t eo q=>?_];refine dq.same (q.map 9 λ_ _ z=>z.more mr) s;let(q1,q2,q3):=J.own b hb;refine#[q1,λz=>?_,q3];rcases dQ.mp z with z|z
 exact n1 (by rw[<- z];exact hY _ hb);exact q2 z;rcases dQ.mp hb with z|z
 rw[z,aK];simp;exact J.ox b z
def aB.afy(I:aB K (Z.ex a) tm O ρ σ H):aB K Z tm O ρ σ H :=
 #[I.lσ,I.lO,λi e h=>let #[o,w,h1,h2,h3]:=I.sl i e h;#[o,w,h1,h2,h3.map (λ_ _ q=>q.bC gc) λ_ _ _ q=>q.bC gc],I.nd,
  λb h=>let #[q1,q2,q3]:=I.own b h;#[q1,λz=>q2 (iB _ z),q3],I.par,λb h=>I.ox b (iB _ h),I.keep,λp hp=>(I.lj p hp).bC gc]
end
inductive Rt where
 |vw (t:T)
 |fr (t:T)
def Rt.t:Rt->T
 |.vw t=>t
 |.fr t=>t
def hW(K:qaf)(H:Hp)(A:qah)(t:T)(v:V):Prop:=At K H A t v\/∃a,v=.ref a/\dq K H A a t
def iI(K:qaf)(Z:Zc)(tm:List (T×V))(O:HD)(ρ:En)(σ:St)(H:Hp):Rt->V->Prop
 |.vw t,v=>aB K Z tm O ρ σ H/\At K H (av Z O) t v
 |.fr t,v=>∃a,v=.ref a/\aB K (Z.ex a) tm O ρ σ H/\dq K H (av (Z.ex a) O) a t/\Z.H0 a=none/\a∉Z.Ox
abbrev FE:=En->(T->Prop)->Prop
abbrev FP:=En->(Rt->Prop)->Prop
abbrev FX:=En->(En->Rt->Prop)->Prop
abbrev FB:=En->(Bool->Prop)->Prop
abbrev FA:=En->(List T->Prop)->Prop
section
variable{Z:Zc}{tm:List (T×V)}{ρ:En}{A:qah}
def hW.same{t:T}(s:aW H H')(h:hW K H A t v):hW K H' A t v:=h.imp (λq=>q.same s) λ#[a,e,q]=>#[a,e,q.same s]
def hW.lst{ts:List T}(h:hW K H A (.lst ts) v):∃a vs,v=.ref a/\f_ K H a vs/\aD K H A ts vs:=by
 obtain h|⟨a,rfl,vs,e,q⟩:=h
 simp only[At] at h;let(a,vs,rfl,l,q):=h;exact#[a,vs,9,l.sq,q];exact#[a,vs,9,f_.of e,q]
def hW.tup{ts:List T}(h:hW K H A (.tup ts) v):∃a vs,v=.ref a/\e_ K H a vs/\aD K H A ts vs:=by
 obtain h|⟨a,rfl,q⟩:=h
 simpa only[At] using h;exact q.elim
def hW.dk{ks:List Key}{ts:List T}(h:hW K H A (.dk ks ts) v):∃a vs,v=.ref a/\ks.length=vs.length/\H a\.dK (ks.zip vs)/\aD K H A ts vs:=by
 obtain h|⟨a,rfl,vs,l,e,q⟩:=h
 simp only[At] at h;let(a,vs,rfl,l,d,q):=h;exact#[a,vs,9,l,d.1,q];exact#[a,vs,9,l,e,q]
def hW.dt{ts:List T}(h:hW K H A (.dt ks ts) v):∃a vs,v=.ref a/\ks.length=vs.length/\H a\.dT (ks.zip vs)/\aD K H A ts vs:=by
 obtain h|⟨a,rfl,vs,l,e,q⟩:=h
 simp only[At] at h;let(a,vs,rfl,l,d,q):=h;exact#[a,vs,9,l,d.1,q];exact#[a,vs,9,l,e,q]
def hW.df{ts:List T}(h:hW K H A (.df o ks ts) v):∃a vs,v=.ref a/\ks.length=vs.length/\H a\.k7 o (.dT (ks.zip vs))/\aD K H A ts vs:=by
 obtain h|⟨a,rfl,q⟩:=h
 simp only[At] at h;let(a,vs,rfl,l,d,q):=h;exact#[a,vs,9,l,d.1,q];exact q.elim
def hW.kt{k:List Key}(h:hW K H A (.kt k) v):∃a,v=.ref a/\H a\.tup (k.map kV):=by
 obtain h|⟨a,rfl,q⟩:=h
 simp only[At] at h;let(a,rfl,d):=h;exact#[a,9,d.1];exact q.elim
def hW.ins{ns:χ}{ts:List T}(h:hW K H A (.ins C ns ts) v):∃a dx vs,v=.ref a/\ns.length=vs.length/\H a\.ins C dx (ns.zip vs)/\aD K H A ts vs:=by
 obtain h|⟨a,rfl,dx,vs,l,e,q⟩:=h
 simp only[At] at h;let(a,dx,vs,rfl,l,d,q):=h;exact#[a,dx,vs,9,l,d.1,q];exact#[a,dx,vs,9,l,e,q]
def hW.int{i:Int}(h:hW K H A (.int i) v):v=.int i:=h.elim (λq=>by simpa only[At] using q) λ#[_,_,q]=>q.elim
def hW.str{i:Str}(h:hW K H A (.str i) v):v=.str i:=h.elim (λq=>by simpa only[At] using q) λ#[_,_,q]=>q.elim
def hW.bl{i:Bool}(h:hW K H A (.bl i) v):v=.bl i:=h.elim (λq=>by simpa only[At] using q) λ#[_,_,q]=>q.elim
def hW.bY(h:hW K H A .bY v):v=.bY:=h.elim (λq=>by simpa only[At] using q) λ#[_,_,q]=>q.elim
def hW.ob(h:hW K H A (.ob a) v):v=.ref a:=h.elim (λq=>by simpa only[At] using q) λ#[_,_,q]=>q.elim
def bw{i:Int}:At K H A (.int i) (.int i):=by simp only[At]
def cO{i:Str}:At K H A (.str i) (.str i):=by simp only[At]
def d7{i:Bool}:At K H A (.bl i) (.bl i):=by simp only[At]
def qM:At K H A .bY .bY:=by simp only[At]
def cj{ts:List T}(h:e_ K H a vs)(q:aD K H A ts vs):At K H A (.tup ts) (.ref a):=by simp only[At];exact#[a,vs,9,h,q]
def iI.env{r:Rt}(h:iI K Z tm O ρ σ H r v):aB K Z tm O ρ σ H:=by
 cases r with
 |vw t=>exact h.1
 |fr t=>let(a,_,I,_):=h;exact I.afy
def iI.at{r:Rt}(h:iI K Z tm O ρ σ H r v):At K H (av Z O) r.t v:=by
 cases r with
 |vw t=>exact h.2
 |fr t=>
  let(a,rfl,I,q,_,hx):=h;refine (q.bC gc).at λz=>?_;rcases fM.mp z with z|z
  exact (I.own a z).2.1 iz;exact hx z
def aB.wm(I:aB K Z tm O ρ σ H){ts:List T}(h:H a=none)(q:aD K H (av Z O) ts vs):iI K Z tm O ρ σ (upd H a (.lst vs)) (.fr (.lst ts)) (.ref a):=by let(n1,n2,n3):=I.fresh h;exact#[a,9,I.new h 9,#[vs,aK,(q.more λb hb=>(dG b hb).imp id λe=>by rw[e];exact h).same (aI h)],n3,n2]
def aB.newD(I:aB K Z tm O ρ σ H){ks:List Key}{ts:List T}(h:H a=none)(hl:ks.length=vs.length)(q:aD K H (av Z O) ts vs):iI K Z tm O ρ σ (upd H a (.dK (ks.zip vs))) (.fr (.dk ks ts)) (.ref a):=by let(n1,n2,n3):=I.fresh h;exact#[a,9,I.new h 9,#[vs,hl,aK,(q.more λb hb=>(dG b hb).imp id λe=>by rw[e];exact h).same (aI h)],n3,n2]
end
structure Bx(p:List (T×V)->Prop):Prop where
 h:∀tm,p tm
section
variable(X:Cx)(Z:Zc)
def lR(tm:List (T×V))(f:FE):TE:=λσ H Q=>E3 λρ O q=>aB X.K Z tm O ρ σ H/\f ρ q/\∀t,q t->∀v H',aW H H'->hW X.K H' (av Z O) t v->Q v H'
def lE(tm:List (T×V))(f:FE):TE:=λσ H Q=>E3 λρ O q=>aB X.K Z tm O ρ σ H/\f ρ q/\∀t,q t->∀v H',aW H H'->At X.K H' (av Z O) t v->Q v H'
def lP(tm:List (T×V))(f:FP):TE:=λσ H Q=>E3 λρ O q=>aB X.K Z tm O ρ σ H/\f ρ q/\∀r,q r->∀v H',aW H H'->iI X.K Z tm O ρ σ H' r v->Q v H'
def lX(tm:List (T×V))(f:FX):TE:=λσ H Q=>E3 λρ O q=>aB X.K Z tm O ρ σ H/\f ρ q/\∀ρ' r,q ρ' r->∀O' v H',iI X.K Z tm O' ρ' σ H' r v->Q v H'
def lB(tm:List (T×V))(f:FB):TT:=λσ H Q=>E3 λρ O q=>aB X.K Z tm O ρ σ H/\f ρ q/\∀b,q b->∀H',aW H H'->Q b H'
def lA(tm:List (T×V))(f:FA):TA:=λσ H Q=>E3 λρ O q=>aB X.K Z tm O ρ σ H/\f ρ q/\∀ts,q ts->∀vs H',aW H H'->aD X.K H' (av Z O) ts vs->Q vs H'
def lAR(tm:List (T×V))(f:FA):TA:=λσ H Q=>E3 λρ O q=>aB X.K Z tm O ρ σ H/\f ρ q/\∀ts,q ts->∀vs H',aW H H'->Paired (λv t=>hW X.K H' (av Z O) t v) vs ts->Q vs H'
def VR(e:Expr)(f:FE):Prop:=Bx λtm=>PE X e (lR X Z tm f)
instance{e:Expr}{f:FE}:CoeFun (VR X Z e f) λ_=>∀tm,PE X e (lR X Z tm f):=#[λh=>Bx.h h]
def VE(e:Expr)(f:FE):Prop:=Bx λtm=>PE X e (lE X Z tm f)
instance{e:Expr}{f:FE}:CoeFun (VE X Z e f) λ_=>∀tm,PE X e (lE X Z tm f):=#[λh=>Bx.h h]
def VP(e:Expr)(f:FP):Prop:=Bx λtm=>PE X e (lP X Z tm f)
instance{e:Expr}{f:FP}:CoeFun (VP X Z e f) λ_=>∀tm,PE X e (lP X Z tm f):=#[λh=>Bx.h h]
def VX(e:Expr)(f:FX):Prop:=Bx λtm=>PE X e (lX X Z tm f)
instance{e:Expr}{f:FX}:CoeFun (VX X Z e f) λ_=>∀tm,PE X e (lX X Z tm f):=#[λh=>Bx.h h]
def VC(e:Expr)(f:FB):Prop:=Bx λtm=>PT X e (lB X Z tm f)
instance{e:Expr}{f:FB}:CoeFun (VC X Z e f) λ_=>∀tm,PT X e (lB X Z tm f):=#[λh=>Bx.h h]
def VW(e:Expr)(f:FB):Prop:=Bx λtm=>PW X e (lB X Z tm f)
instance{e:Expr}{f:FB}:CoeFun (VW X Z e f) λ_=>∀tm,PW X e (lB X Z tm f):=#[λh=>Bx.h h]
def VA(es:qap)(f:FA):Prop:=Bx λtm=>PA X es (lA X Z tm f)
instance{es:qap}{f:FA}:CoeFun (VA X Z es f) λ_=>∀tm,PA X es (lA X Z tm f):=#[λh=>Bx.h h]
def Yk(es:qap)(f:FA):Prop:=Bx λtm=>PA X es (lAR X Z tm f)
instance{es:qap}{f:FA}:CoeFun (Yk X Z es f) λ_=>∀tm,PA X es (lAR X Z tm f):=#[λh=>Bx.h h]
end
def PE.weak{t t':TE}(h:PE X e t)(hw:∀σ H Q,t' σ H Q->t σ H Q):PE X e t':=λε s σ H Q I q=>h ε s σ H Q I (hw _ _ _ q)
def PT.weak{t t':TT}(h:PT X e t)(hw:∀σ H Q,t' σ H Q->t σ H Q):PT X e t':=λε s σ H Q I q=>h ε s σ H Q I (hw _ _ _ q)
def PW.weak{t t':TT}(h:PW X e t)(hw:∀σ H Q,t' σ H Q->t σ H Q):PW X e t':=λwh ε s σ H Q I q=>h wh ε s σ H Q I (hw _ _ _ q)
def PA.weak{e:qap}{t t':TA}(h:PA X e t)(hw:∀σ H Q,t' σ H Q->t σ H Q):PA X e t':=λpos ε s σ H Q I q=>h pos ε s σ H Q I (hw _ _ _ q)
def PS.weak{b:Stmt}{t t':TS}(h:PS X b t)(hw:∀D σ H,t' D σ H->t D σ H):PS X b t':=λε s σ H D I q=>h ε s σ H D I (hw D σ H q)
def ko.mj{b:qaq}{t t':TS}(h:ko X b t)(hw:∀D σ H,t' D σ H->t D σ H):ko X b t':=λε s σ H D I q=>h ε s σ H D I (hw D σ H q)
section
variable{Z:Zc}{a:Expr}{pos:Pos}
def VE.vr{f:FE}(h:VE X Z e f):VR X Z e f:=.mk λtm=>PE.weak (h tm) λσ H Q #[ρ,O,q,I,hf,k]=>#[ρ,O,q,I,hf,λt ht v H' s z=>k t ht v H' s (.inl z)]
def fT(f:FP):FE:=λρ Q=>f ρ λr=>Q r.t
def fV(f:FE):FP:=λρ Q=>f ρ λt=>Q (.vw t)
def fX(f:FP):FX:=λρ Q=>f ρ λr=>Q ρ r
def VP.ve{f:FP}(h:VP X Z e f):VE X Z e (fT f):=.mk λtm=>PE.weak (h tm) λσ H Q #[ρ,O,q,I,hf,k]=>#[ρ,O,λr=>q r.t,I,hf,λr hr v H' s z=>k r.t hr v H' s z.at]
def VP.vr{f:FP}(h:VP X Z e f):VR X Z e (fT f):=h.ve.vr
def VP.vx{f:FP}(h:VP X Z e f):VX X Z e (fX f):=.mk λtm=>PE.weak (h tm) λσ H Q #[ρ,O,q,I,hf,k]=>#[ρ,O,λr=>q ρ r,I,hf,λr hr v H' s z=>k ρ r hr O v H' z]
def VE.vp{f:FE}(h:VE X Z e f):VP X Z e (fV f):=.mk λtm=>PE.weak (h tm) λσ H Q #[ρ,O,q,I,hf,k]=>#[ρ,O,λt=>q (.vw t),I,hf,λt hr v H' s z=>k (.vw t) hr v H' s #[I.same s,z]]
def ll(i:Nat):FE:=λρ Q=>match ρ[i]? with
 |some (some (t,false))=>Q t
 |_=>False
def ju(i:Nat):FE:=λρ Q=>match ρ[i]? with
 |some (some (t,_))=>Q t
 |_=>False
def ah(i:Nat)(hN:X.N[i]?\x:=by rfl)(hv:nJ X.env.scope x:=by exact jvv 9)(hd:gG x:=by decide)(fW:tQ x:=by decide):VE X Z (.Name x pos) (ll i):=.mk λtm=>PE.weak (cM hN hv hd fW) λσ H Q #[ρ,O,q,I,hf,k]=>by
 unfold ll at hf;split at hf
 rename_i t e
 let(o,s,h1,h2,rfl,v,rfl,h3):=I.sl i _ e;exact#[v,h2,k t hf v H (aW.refl H) h3];exact hf.elim
def ae(i:Nat)(hN:X.N[i]?\x:=by rfl)(hv:nJ X.env.scope x:=by exact jvv 9)(hd:gG x:=by decide)(fW:tQ x:=by decide):VR X Z (.Name x pos) (ju i):=.mk λtm=>PE.weak (cM hN hv hd fW) λσ H Q #[ρ,O,q,I,hf,k]=>by
 unfold ju at hf;split at hf
 rename_i t b e
 let(o,s,h1,h2,h3):=I.sl i _ e;cases b with
 |false=>let(rfl,v,rfl,h3):=h3;exact#[v,h2,k t hf v H (aW.refl H) (.inl h3)]
 |true=>let(a,rfl,rfl,h3):=h3;exact#[_,h2,k t hf _ H (aW.refl H) (.inr #[a,9,h3])]
 exact hf.elim
def fC(t:T):FP:=λ_ Q=>Q (.vw t)
def Jt{t:T}(h:PE X e (tC v))(ht:∀H A,At X.K H A t v):VP X Z e (fC t):=.mk λtm=>PE.weak h λσ H Q #[ρ,O,q,I,hf,k]=>k _ hf v H (aW.refl H) #[I,ht _ _]
def ag{i j pos}:VP X Z (.Constant (.int i) j pos) (fC (.int i)):=Jt Uk λ_ _=>bw
def mm{i j pos}:VP X Z (.Constant (.bool i) j pos) (fC (.bl i)):=Jt Y7 λ_ _=>d7
def aC{i j pos}:VP X Z (.Constant (.str i) j pos) (fC (.str i)):=Jt Um λ_ _=>cO
def gT{j pos}:VP X Z (.Constant .none j pos) (fC .bY):=Jt Ul λ_ _=>qM
def iJ{t:T}(hg:Gl X x)(hm:X.mg x\u)(r:RelV v u)(ht:∀H A,At X.K H A t v)(hd:gG x:=by decide):VP X Z (.Name x pos) (fC t):=Jt (DK hg hm r hd) ht
def nR(K:qaf)(r:R2)(p:T->T->(Rt->Prop)->Prop):Prop :=
 ∀(Z:Zc)(tm:List (T×V))(O:HD)(ρ:En)(σ:St)(H:Hp)(x y:T)(v w:V)(q:Rt->Prop)(Q:VK),aB K Z tm O ρ σ H->hW K H (av Z O) x v->hW K H (av Z O) y w->p x y q ->
  (∀t,q t->∀u H',aW H H'->iI K Z tm O ρ σ H' t u->Q u H')->r v w H Q
def f2(fa fb:FE)(p:T->T->(Rt->Prop)->Prop):FP:=λρ Q=>fa ρ λx=>fb ρ λy=>p x y Q
def two{r:R2}{fa fb:FE}{p:T->T->(Rt->Prop)->Prop}(ho:nR X.K r p){tm:List (T×V)}:∀σ H Q,lP X Z tm (f2 fa fb p) σ H Q->Zh r (lR X Z tm fa) (lR X Z tm fb) σ H Q:=λσ H Q #[ρ,O,q,I,hf,k] =>
 #[ρ,O,λx=>fb ρ λy=>p x y q,I,hf,λx hx v H1 s1 a1=>#[ρ,O,λy=>p x y q,I.same s1,hx,λy hy w H2 s2 a2=>
  ho Z tm O ρ σ H2 x y v w q Q ((I.same s1).same s2) (a1.same s2) a2 hy λt ht u H' s a=>k t ht u H' ((s1.trans s2).trans s) a]]
def gU{op:Operator}{r:R2}{fa fb:FE}{p:T->T->(Rt->Prop)->Prop}(h:fF X (binaryOp op) r)(ho:nR X.K r p)(ha:VR X Z a fa)(hb:VR X Z b fb):VP X Z (.BinOp a op b pos) (f2 fa fb p) :=
 .mk λtm=>PE.weak (I8 h (ha tm) (hb tm)) (two ho)
def BY{op:CmpOp}{r:R2}{fa fb:FE}{p:T->T->(Rt->Prop)->Prop}(h:fF X (compareOp op) r)(ho:nR X.K r p)(ha:VR X Z a fa)(hb:VR X Z b fb)(hm:behindInMarks op b=false):VP X Z (.Compare a [op] [b] pos) (f2 fa fb p) :=
 .mk λtm=>PE.weak (OA h (ha tm) (hb tm) hm) (two ho)
def mq(f:FP):FB:=λρ Q=>f ρ λr=>match r with
 |.vw (.bl c)=>Q c
 |_=>False
def BZ{r:Rt}{Q:Bool->Prop}(h:match r with | .vw (.bl c)=>Q c|_=>False):∃c,r=.vw (.bl c)/\Q c:=by split at h;exact#[_,9,h];exact h.elim
def jw{op:CmpOp}{r:R2}{fa fb:FE}{p:T->T->(Rt->Prop)->Prop}(h:fF X (compareOp op) r)(ho:nR X.K r p)(ha:VR X Z a fa)(hb:VR X Z b fb)(hm:behindInMarks op b=false):VC X Z (.Compare a [op] [b] pos) (mq (f2 fa fb p)) :=
 .mk λtm=>PT.weak (OB h (ha tm) (hb tm) hm) λσ H Q #[ρ,O,q,I,hf,k]=>two ho σ H _ #[ρ,O,_,I,hf,λt ht u H' s a=>by let(c,rfl,hc):=BZ ht;have e:=a.2;exact#[c,e,k c hc H' s]]
def fO{f:FP}(h:VP X Z e f)(he:∀whole,isTrue e X.env whole=(do let v <- whole;standAt e.pos;holding [v] (truthy v)):=by intro _;rfl):VC X Z e (mq f) :=
 .mk λtm=>PT.weak (IT (h tm) he) λσ H Q #[ρ,O,q,I,hf,k]=>#[ρ,O,_,I,hf,λt ht u H' s a=>by let(c,rfl,hc):=BZ ht;have e:=a.2;exact#[c,e,k c hc H' s]]
def afz(f g:FB):FB:=λρ Q=>f ρ λc=>if c=true then g ρ Q else Q false
def fOr(f g:FB):FB:=λρ Q=>f ρ λc=>if c=true then Q true else g ρ Q
def ZX(f:FB):FB:=λρ Q=>f ρ λc=>Q (!c)
def VW.vc{f:FB}(h:VW X Z e f):VC X Z e f:=.mk λtm=>PW.pt (h tm)
def c0{f:FB}(h:VC X Z a f):VW X Z (.BoolOp .And [a] pos) f:=.mk λtm=>pw_and1 (h tm)
def nS{f:FB}(h:VC X Z a f):VW X Z (.BoolOp .Or [a] pos) f:=.mk λtm=>pw_or1 (h tm)
def c9{rest:qap}{f g:FB}(h:VC X Z a f)(h':VW X Z (.BoolOp .And (b::rest) pos) g):VW X Z (.BoolOp .And (a::b::rest) pos) (afz f g) :=
 .mk λtm=>PW.weak (pw_and (h tm) (h' tm)) λσ H Q #[ρ,O,q,I,hf,k]=>#[ρ,O,_,I,hf,λc hc H1 s1=>by
  cases c with
  |true=>rw[ι 9] at hc ⊢;exact#[ρ,O,q,I.same s1,hc,λb hb H' s=>k b hb H' (s1.trans s)]
  |false=>rw[θ iC] at hc ⊢;exact k false hc H1 s1]
def qN{rest:qap}{f g:FB}(h:VC X Z a f)(h':VW X Z (.BoolOp .Or (b::rest) pos) g):VW X Z (.BoolOp .Or (a::b::rest) pos) (fOr f g) :=
 .mk λtm=>PW.weak (pw_or (h tm) (h' tm)) λσ H Q #[ρ,O,q,I,hf,k]=>#[ρ,O,_,I,hf,λc hc H1 s1=>by
  cases c with
  |true=>rw[ι 9] at hc ⊢;exact k true hc H1 s1
  |false=>rw[θ iC] at hc ⊢;exact#[ρ,O,q,I.same s1,hc,λb hb H' s=>k b hb H' (s1.trans s)]]
def wo{f:FB}(h:VC X Z a f):VC X Z (.UnaryOp .Not a pos) (ZX f) :=
 .mk λtm=>PT.weak (Uo (h tm)) λσ H Q #[ρ,O,q,I,hf,k]=>#[ρ,O,_,I,hf,λc hc H1 s1=>k _ hc H1 s1]
def ZY(f g:FP):FP:=λρ Q=>f ρ λr=>match r with
 |.vw (.bl true)=>g ρ Q
 |.vw (.bl false)=>Q (.vw (.bl false))
 |_=>False
def U7(f g:FP):FP:=λρ Q=>f ρ λr=>match r with
 |.vw (.bl true)=>Q (.vw (.bl true))
 |.vw (.bl false)=>g ρ Q
 |_=>False
def wq{op}{f:FP}(h:VP X Z a f):VP X Z (.BoolOp op [a] pos) f:=.mk λtm=>Up (h tm)
def B0{rest:qap}{f g:FP}(h:VP X Z a f)(h':VP X Z (.BoolOp .And (b::rest) pos) g):VP X Z (.BoolOp .And (a::b::rest) pos) (ZY f g) :=
 .mk λtm=>PE.weak (Uq (h tm) (h' tm)) λσ H Q #[ρ,O,q,I,hf,k]=>#[ρ,O,_,I,hf,λr hr v H1 s1 z=>by split at hr;have e:=z.2;simp only[At] at e;exact#[true,e,by rw[ι 9];exact#[ρ,O,q,I.same s1,hr,λb hb v H' s=>k b hb v H' (s1.trans s)]];have e:=z.2;simp only[At] at e;exact#[false,e,by rw[θ iC];exact k _ hr _ H1 s1 #[I.same s1,d7]];exact hr.elim]
def Sj{rest:qap}{f g:FP}(h:VP X Z a f)(h':VP X Z (.BoolOp .Or (b::rest) pos) g):VP X Z (.BoolOp .Or (a::b::rest) pos) (U7 f g) :=
 .mk λtm=>PE.weak (Y_ (h tm) (h' tm)) λσ H Q #[ρ,O,q,I,hf,k]=>#[ρ,O,_,I,hf,λr hr v H1 s1 z=>by split at hr;have e:=z.2;simp only[At] at e;exact#[true,e,by rw[ι 9];exact k _ hr _ H1 s1 #[I.same s1,d7]];have e:=z.2;simp only[At] at e;exact#[false,e,by rw[θ iC];exact#[ρ,O,q,I.same s1,hr,λb hb v H' s=>k b hb v H' (s1.trans s)]];exact hr.elim]
def fIf(c:FB)(f g:FP):FP:=λρ Q=>c ρ λb=>if b=true then f ρ Q else g ρ Q
def Ju{fc:FB}{f g:FP}(hc:VC X Z c fc)(h:VP X Z a f)(h':VP X Z b g):VP X Z (.IfExp c a b pos) (fIf fc f g) :=
 .mk λtm=>PE.weak (IU (hc tm) (h tm) (h' tm)) λσ H Q #[ρ,O,q,I,hf,k]=>#[ρ,O,_,I,hf,λc hc H1 s1=>by
  cases c with
  |true=>rw[ι 9] at hc ⊢;exact#[ρ,O,q,I.same s1,hc,λb hb v H' s=>k b hb v H' (s1.trans s)]
  |false=>rw[θ iC] at hc ⊢;exact#[ρ,O,q,I.same s1,hc,λb hb v H' s=>k b hb v H' (s1.trans s)]]
def ui:FA:=λ_ Q=>Q []
def gj(f:FE)(g:FA):FA:=λρ Q=>f ρ λt=>g ρ λts=>Q (t::ts)
def ak:VA X Z [] ui:=.mk λtm=>PA.weak cV λσ H Q #[ρ,O,q,I,hf,k]=>k _ hf [] H (aW.refl H) aD.nil
def aa{f:FE}{g:FA}(h:VE X Z e f)(h':VA X Z es g)(hs:starEach (e::es) X.env=(false,eval e X.env)::starEach es X.env:=by rfl):VA X Z (e::es) (gj f g) :=
 .mk λtm=>PA.weak (bD (h tm) (h' tm) hs) λσ H Q #[ρ,O,q,I,hf,k]=>#[ρ,O,_,I,hf,λt ht v H1 s1 a1=>#[ρ,O,_,I.same s1,ht,λts hX vs H2 s2 a2=>k _ hX _ H2 (s1.trans s2) (aD.cons (a1.same s2) a2)]]
def aX:Yk X Z [] ui:=.mk λtm=>PA.weak cV λσ H Q #[ρ,O,q,I,hf,k]=>k _ hf [] H (aW.refl H) .nil
def aO{f:FE}{g:FA}(h:VR X Z e f)(h':Yk X Z es g)(hs:starEach (e::es) X.env=(false,eval e X.env)::starEach es X.env:=by rfl):Yk X Z (e::es) (gj f g) :=
 .mk λtm=>PA.weak (bD (h tm) (h' tm) hs) λσ H Q #[ρ,O,q,I,hf,k]=>#[ρ,O,_,I,hf,λt ht v H1 s1 a1=>#[ρ,O,_,I.same s1,ht,λts hX vs H2 s2 a2=>k _ hX _ H2 (s1.trans s2) (.cons (a1.same s2) a2)]]
def ZZ(g:FA):FP:=λρ Q=>g ρ λts=>ts.length<=sizeLine/\Q (.vw (.tup ts))
def afA(g:FA):FP:=λρ Q=>g ρ λts=>ts.length<=sizeLine/\Q (.fr (.lst ts))
def bB{g:FA}{x1}(h:VA X Z es g):VP X Z (.Tuple es x1 pos) (ZZ g) :=
 .mk λtm=>PE.weak (qD (h tm)) λσ H Q #[ρ,O,q,I,hf,k]=>#[ρ,O,_,I,hf,λts hX vs H1 s1 a1=>#[by rw[a1.length];exact hX.1,λp hp=>k _ hX.2 _ _ (s1.trans (aI hp)) #[(I.same s1).same (aI hp),cj (e_.of aK) (a1.same (aI hp))]]]
def bJ{g:FA}(h:VA X Z es g):VP X Z (.List es pos) (afA g) :=
 .mk λtm=>PE.weak (UO (h tm)) λσ H Q #[ρ,O,q,I,hf,k]=>#[ρ,O,_,I,hf,λts hX vs H1 s1 a1=>#[by rw[a1.length];exact hX.1,λp hp=>k _ hX.2 _ _ (s1.trans (aI hp)) ((I.same s1).wm hp a1)]]
end
mutual
def eqT:T->T->Bool
 |.bY,.bY=>true
 |.bl a,.bl b=>a==b
 |.bl a,.int b=>(if a then 1 else 0)==b
 |.int a,.bl b=>a==(if b then 1 else 0)
 |.int a,.int b=>a==b
 |.str a,.str b=>a==b
 |.tup a,.tup b=>Jv a b
 |.lst a,.lst b=>Jv a b
 |_,_=>false
def Jv:List T->List T->Bool
 |[],[]=>true
 |a::as,b::bs=>eqT a b && Jv as bs
 |_,_=>false
end
mutual
def plainT:T->Bool
 |.tup l=>iK l
 |.lst l=>iK l
 |.dk _ _=>false
 |.dt _ _=>false
 |.df _ _ _=>false
 |.kt _=>false
 |.ins _ _ _=>false
 |.pin _ _=>false
 |.ob _=>false
 |.ty _=>false
 |_=>true
def iK:List T->Bool
 |[]=>true
 |t::ts=>plainT t && iK ts
end
mutual
def dep:T->Nat
 |.tup l=>B1 l+1
 |.lst l=>B1 l+1
 |_=>0
def B1:List T->Nat
 |[]=>0
 |t::ts=>max (dep t) (B1 ts)
end
def nU:T->Bool
 |.bY=>true
 |.bl _=>true
 |.int _=>true
 |.str _=>true
 |_=>false
section
variable{O O':qah}
def in1_units(A:Around):A.in1.units=A.units+1:=by first|rfl|simp[Around.in1,Around.units]
def lp{O:qah}{u:T}{w:V}{b:Value}(pu:nU u=true)(hw:At X.K H O u w)(r:RelV w b):(u=.bY/\b=.none)\/(∃c,u=.bl c/\b=.bool c)\/(∃c t,u=.int c/\b=.int c t)\/∃c t,u=.str c/\b=.str c t:=by
 cases u with
 |bY=>simp only[At] at hw;subst hw;cases r;exact .inl #[9,9]
 |bl c=>simp only[At] at hw;subst hw;cases r;exact .inr (.inl #[c,9,9])
 |int c=>simp only[At] at hw;subst hw;let(t,rfl):=r;exact .inr (.inr (.inl #[c,t,9,9]))
 |str c=>simp only[At] at hw;subst hw;let(t,rfl):=r;exact .inr (.inr (.inr #[c,t,9,9]))
 |_=>cases pu
def DY{t u:T}{w:V}{a b:Value}(pt:nU t=true)(pu:nU u=true)(ht:At X.K H O t v)(hw:At X.K H O' u w)(rv:RelV v a)(rw':RelV w b):SeqAt.RcAt A s a b (eqT t u):=by
 rcases lp pt ht rv with⟨rfl,rfl⟩|⟨d,rfl,rfl⟩|⟨d,_,rfl,rfl⟩|⟨d,_,rfl,rfl⟩<;>rcases lp pu hw rw' with⟨rfl,rfl⟩|⟨c,rfl,rfl⟩|⟨c,_,rfl,rfl⟩|⟨c,_,rfl,rfl⟩<;>simp only[eqT]
 exact .none_none;exact .none_bool _;exact .none_int _ _;exact .none_str _ _;exact .bool_none _;exact .bool_bool _ _;exact .bool_int _ _ _;exact .bool_str _ _ _;exact .int_none _ _;exact .int_bool _ _ _;exact .int_int _ _ _ _;exact .int_str _ _ _ _;exact .str_none _ _;exact .str_bool _ _ _;exact .str_int _ _ _ _;exact .str_str _ _ _ _
def O5{t u:T}{w:V}{a b:Value}(pt:nU t=true)(pu:nU u=true)(ht:At X.K H O t v)(hw:At X.K H O' u w)(rv:RelV v a)(rw':RelV w b):SeqAt.RcNeAt A s a b (!eqT t u):=by
 rcases lp pt ht rv with⟨rfl,rfl⟩|⟨d,rfl,rfl⟩|⟨d,_,rfl,rfl⟩|⟨d,_,rfl,rfl⟩<;>rcases lp pu hw rw' with⟨rfl,rfl⟩|⟨c,rfl,rfl⟩|⟨c,_,rfl,rfl⟩|⟨c,_,rfl,rfl⟩<;>simp only[eqT]
 exact .none_none;exact .none_bool _;exact .none_int _ _;exact .none_str _ _;exact .bool_none _;exact .bool_bool _ _;exact .bool_int _ _ _;exact .bool_str _ _ _;exact .int_none _ _;exact .int_bool _ _ _;exact .int_int _ _ _ _;exact .int_str _ _ _ _;exact .str_none _ _;exact .str_bool _ _ _;exact .str_int _ _ _ _;exact .str_str _ _ _ _
theorem Jw{a b:Value}{k:Bool}(h:SeqAt.RcAt A s a b k)(g:a=b->k=true)(f:∀x t,a≠.float x t):SeqAt.EqAt A s a b k:=λprog w E Q hq=>by
 unfold eqBool;refine Ω (wpAny_ite_split (λe=>?_) λ_=>?_);rw[g (eq_of_beq e)] at hq;exact ζ (aab (η hq));cases a with
 |float x t=>exact absurd 9 (f x t)
 |_=>exact ζ (h prog w E _ (v9 hq))
def aeQ{t u:T}{w:V}{a b:Value}(pt:nU t=true)(pu:nU u=true)(ht:At X.K H O t v)(hw:At X.K H O' u w)(rv:RelV v a)(rw':RelV w b):SeqAt.EqAt A s a b (eqT t u):=by
 refine Jw (DY pt pu ht hw rv rw') (λe=>?_) λx y e=>?_;rcases lp pt ht rv with⟨rfl,rfl⟩|⟨d,rfl,rfl⟩|⟨d,_,rfl,rfl⟩|⟨d,_,rfl,rfl⟩<;>rcases lp pu hw rw' with⟨rfl,rfl⟩|⟨c,rfl,rfl⟩|⟨c,_,rfl,rfl⟩|⟨c,_,rfl,rfl⟩<;>cases e<;>simp[eqT]
 rcases lp pt ht rv with⟨_,h⟩|⟨_,_,h⟩|⟨_,_,_,h⟩|⟨_,_,_,h⟩<;>cases e.symm.trans h
end
section
variable{O O':qah}
def hW.bare{A:qah}{t:T}(h:hW K H A t v):At K H [] t v:=by
 obtain h|⟨a,rfl,h⟩:=h
 exact At.bC (O':=[]) (λ_ z=>absurd z gR) h;exact (dq.bC (A':=[]) h (λ_ z=>absurd z gR)).at gR
def FlE(neg:Bool)(t u:T):Prop:=(nU t=true/\nU u=true)\/(neg=true/\∃l,t=.lst l/\u=.lst [])
def O6(K:qaf)(neg:Bool):R2:=λx y H Q=>E2 λt u=>At K H [] t x/\At K H [] u y/\FlE neg t u/\Q (.bl (if neg then !eqT t u else eqT t u)) H
def Jx(hu:X.A.units+101<cLine):fF X (compareOp .Eq) (O6 X.K false):=by
 intro ε s σ H x y v u Q I rx ry #[t,t',h1,h2,p,q];obtain⟨p1,p2⟩|⟨p,_⟩:=p
 exact DY p1 p2 h1 h2 rx ry X.prog X.w X.xe _ #[.bl _,H,I,9,q];cases p
theorem Jy(hu:X.A.units+101<cLine):fF X (compareOp .NotEq) (O6 X.K true):=by
 intro ε s σ H x y v u Q I rx ry #[t,t',h1,h2,p,q];obtain⟨p1,p2⟩|⟨_,l,rfl,rfl⟩:=p
 exact O5 p1 p2 h1 h2 rx ry X.prog X.w X.xe _ #[.bl _,H,I,9,q];have hu':X.A.units<cLine:=by lia
 simp only[At] at h1 h2;let(_,vs,rfl,g1,g2):=h1;let(_,ws,rfl,k1,k2):=h2;cases rx;cases ry;have e3:=g2.length;have e4:=k2.length;let(aR,r1,p1,_):=I.list g1.sq;let(kq,r2,p2,_):=I.list k1.sq;have e1:=r1.length;have e2:=r2.length;cases l with
 |nil=>
  have:=SeqAt.RcNeAt.lists (A:=X.A) (e:=λ_=>true) p1.isList p2.isList (by simp only[iD];rw[<- e1,<- e2,e3,e4]) hu' (λj z _=>by simp only[iD] at z;rw[<- e1,e3] at z;cases z);have e5:aR.toArray.size=0:=by rw[iD,<- e1,e3];rfl
  rw[e5] at this;exact this X.prog X.w X.xe _ #[.bl _,H,I,9,q]
 |cons a l=>exact SeqAt.RcNeAt.lists_lengths p1.isList p2.isList (by simp only[iD];rw[bne_iff_ne,<- e1,<- e2,e3,e4];simp) hu' X.prog X.w X.xe _ #[.bl _,H,I,9,q]
end
def Z0(x y:T)(q:Rt->Prop):Prop:=match x,y with
 |.int i,.int j=>q (.vw (.bl (decide (i=j))))
 |.str i,.str j=>q (.vw (.bl (decide (i=j))))
 |.bl i,.bl j=>q (.vw (.bl (decide (i=j))))
 |x,y=>nU x=true/\nU y=true/\dep x<=100/\q (.vw (.bl (eqT x y)))
def U8(x y:T)(q:Rt->Prop):Prop:=match x,y with
 |.int i,.int j=>q (.vw (.bl (!decide (i=j))))
 |.str i,.str j=>q (.vw (.bl (!decide (i=j))))
 |.bl i,.bl j=>q (.vw (.bl (!decide (i=j))))
 |.lst a,.lst []=>plainT (.lst a)=true/\plainT (.lst [])=true/\dep (.lst a)<=100/\q (.vw (.bl (!eqT (.lst a) (.lst []))))
 |x,y=>nU x=true/\nU y=true/\dep x<=100/\q (.vw (.bl (!eqT x y)))
def Z1(i j:Str):(i==j)=decide (i=j):=by rw[YV];simp
def O7{x y:T}{q:Rt->Prop}(h:Z0 x y q):FlE false x y/\q (.vw (.bl (eqT x y))):=by unfold Z0 at h;split at h;exact#[.inl #[9,9],by simp only[eqT,acu];exact h];exact#[.inl #[9,9],by simp only[eqT,Z1];exact h];exact#[.inl #[9,9],by simp only[eqT,acu];exact h];exact#[.inl #[h.1,h.2.1],h.2.2.2]
def O8{x y:T}{q:Rt->Prop}(h:U8 x y q):FlE true x y/\q (.vw (.bl (!eqT x y))):=by unfold U8 at h;split at h;exact#[.inl #[9,9],by simp only[eqT,acu];exact h];exact#[.inl #[9,9],by simp only[eqT,Z1];exact h];exact#[.inl #[9,9],by simp only[eqT,acu];exact h];exact#[.inr #[9,_,9,9],h.2.2.2];exact#[.inl #[h.1,h.2.1],h.2.2.2]
def Jz:nR K (O6 K false) Z0:=by intro Z tm O ρ σ H x y v w q Q I h1 h2 h k;let(p,h):=O7 h;exact#[x,y,h1.bare,h2.bare,p,k _ h _ H (aW.refl H) #[I,by rw[θ iC];exact d7]]
def JA:nR K (O6 K true) U8:=by intro Z tm O ρ σ H x y v w q Q I h1 h2 h k;let(p,h):=O8 h;exact#[x,y,h1.bare,h2.bare,p,k _ h _ H (aW.refl H) #[I,by rw[ι 9];exact d7]]
def Z2(g:Int->Int->Bool)(x y:T)(q:Rt->Prop):Prop:=match x,y with
 |.int i,.int j=>q (.vw (.bl (g i j)))
 |_,_=>False
def U9(x y:T)(q:Rt->Prop):Prop:=match x,y with
 |.int i,.int j=>q (.vw (.int (i-j)))
 |_,_=>False
def O9:nR K (tR λi j=>.int (i-j)) U9:=by intro Z tm O ρ σ H x y v w q Q I h1 h2 h k;unfold U9 at h;split at h;exact#[_,_,h1.int,h2.int,k _ h _ H (aW.refl H) #[I,bw]];exact h.elim
def U_(x y:T)(q:Rt->Prop):Prop:=match x,y with
 |.int i,.int j=>I9 i j/\q (.vw (.int (i * j)))
 |_,_=>False
def O_:nR K (rI I9 λi j=>.int (i * j)) U_:=by intro Z tm O ρ σ H x y v w q Q I h1 h2 h k;unfold U_ at h;split at h;exact#[_,_,h1.int,h2.int,h.1,k _ h.2 _ H (aW.refl H) #[I,bw]];exact h.elim
def U'(x y:T)(q:Rt->Prop):Prop:=match x,y with
 |.int i,.int j=>(0<j/\j<1073741824)/\q (.vw (.int (i / j)))
 |_,_=>False
def Pa:nR K (rI Zi λi j=>.int (i / j)) U':=by intro Z tm O ρ σ H x y v w q Q I h1 h2 h k;unfold U' at h;split at h;exact#[_,_,h1.int,h2.int,h.1,k _ h.2 _ H (aW.refl H) #[I,bw]];exact h.elim
def Va(x y:T)(q:Rt->Prop):Prop:=match x,y with
 |.int i,.int j=>0<j/\q (.vw (.int (i % j)))
 |_,_=>False
def Pb:nR K (rI (λ_ j=>0<j) λi j=>.int (i % j)) Va:=by intro Z tm O ρ σ H x y v w q Q I h1 h2 h k;unfold Va at h;split at h;exact#[_,_,h1.int,h2.int,h.1,k _ h.2 _ H (aW.refl H) #[I,bw]];exact h.elim
def Vb(x y:T)(q:Rt->Prop):Prop:=match x,y with
 |.int i,.int j=>(0<=j/\j<=1000000/\i.natAbs<2 ^ 64)/\q (.vw (.int (i ^ j.toNat)))
 |_,_=>False
def Pc:nR K (rI Ov λi j=>.int (i ^ j.toNat)) Vb:=by intro Z tm O ρ σ H x y v w q Q I h1 h2 h k;unfold Vb at h;split at h;exact#[_,_,h1.int,h2.int,h.1,k _ h.2 _ H (aW.refl H) #[I,bw]];exact h.elim
def Vc(x y:T)(q:Rt->Prop):Prop:=match x,y with
 |.int i,.int j=>(0<=j/\j<=1000000/\i.natAbs<2 ^ 64)/\q (.vw (.int (i * 2 ^ j.toNat)))
 |_,_=>False
def Pe:nR K (rI Ov λi j=>.int (i * 2 ^ j.toNat)) Vc:=by intro Z tm O ρ σ H x y v w q Q I h1 h2 h k;unfold Vc at h;split at h;exact#[_,_,h1.int,h2.int,h.1,k _ h.2 _ H (aW.refl H) #[I,bw]];exact h.elim
def Vd(x y:T)(q:Rt->Prop):Prop:=match x,y with
 |.int i,.int j=>0<=j/\q (.vw (.int (i / 2 ^ j.toNat)))
 |_,_=>False
def Pf:nR K (rI (λ_ j=>0<=j) λi j=>.int (i / 2 ^ j.toNat)) Vd:=by intro Z tm O ρ σ H x y v w q Q I h1 h2 h k;unfold Vd at h;split at h;exact#[_,_,h1.int,h2.int,h.1,k _ h.2 _ H (aW.refl H) #[I,bw]];exact h.elim
def JB(x y:T)(q:Rt->Prop):Prop:=match x,y with
 |.int i,.int j=>q (.vw (.int (Builtin.bitAnd i j)))
 |_,_=>False
def y2:nR K (tR λi j=>.int (Builtin.bitAnd i j)) JB:=by intro Z tm O ρ σ H x y v w q Q I h1 h2 h k;unfold JB at h;split at h;exact#[_,_,h1.int,h2.int,k _ h _ H (aW.refl H) #[I,bw]];exact h.elim
def Ph(x y:T)(q:Rt->Prop):Prop:=match x,y with
 |.int i,.int j=>q (.vw (.int (Builtin.bitOr i j)))
 |_,_=>False
def gH:nR K (tR λi j=>.int (Builtin.bitOr i j)) Ph:=by intro Z tm O ρ σ H x y v w q Q I h1 h2 h k;unfold Ph at h;split at h;exact#[_,_,h1.int,h2.int,k _ h _ H (aW.refl H) #[I,bw]];exact h.elim
def pLt(x y:T)(q:Rt->Prop):Prop:=match x,y with
 |.int i,.int j=>q (.vw (.bl (decide (i<j))))
 |_,_=>False
def Ve:nR K (tR λi j=>.bl (decide (i<j))) pLt:=by intro Z tm O ρ σ H x y v w q Q I h1 h2 h k;unfold pLt at h;split at h;exact#[_,_,h1.int,h2.int,k _ h _ H (aW.refl H) #[I,d7]];exact h.elim
def pGt(x y:T)(q:Rt->Prop):Prop:=match x,y with
 |.int i,.int j=>q (.vw (.bl (decide (j<i))))
 |_,_=>False
def Vf:nR K (tR λi j=>.bl (decide (j<i))) pGt:=by intro Z tm O ρ σ H x y v w q Q I h1 h2 h k;unfold pGt at h;split at h;exact#[_,_,h1.int,h2.int,k _ h _ H (aW.refl H) #[I,d7]];exact h.elim
def Sk(x y:T)(q:Rt->Prop):Prop:=match x,y with
 |.int i,.int j=>q (.vw (.int (i+j)))
 |_,_=>False
def JC:nR K (tR λi j=>.int (i+j)) Sk:=by intro Z tm O ρ σ H x y v w q Q I h1 h2 h k;unfold Sk at h;split at h;exact#[_,_,h1.int,h2.int,k _ h _ H (aW.refl H) #[I,bw]];exact h.elim
def Sl(K:qaf):R2:=λx y H Q=>∃l b xs zs,x=.ref l/\y=.ref b/\f_ K H l xs/\f_ K H b zs/\xs.length+zs.length<=sizeLine/\∀p,H p=none->Q (.ref p) (upd H p (.lst (xs++zs)))
def Sn(K:qaf):R2:=λx y H Q=>∃a b xs ys,x=.ref a/\y=.ref b/\e_ K H a xs/\e_ K H b ys/\xs.length+ys.length<=sizeLine/\(xs=[]->Q (.ref b) H)/\(xs≠[]->ys=[]->Q (.ref a) H)/\(xs≠[]->ys≠[]->∀p,H p=none->Q (.ref p) (upd H p (.tup (xs++ys))))
section
def Pj:fF X (binaryOp .Add) (Sl X.K):=by
 intro ε s σ H x y v u Q I rx ry h;let(l,b,xs,zs,rfl,rfl,hH,hB,hz,q):=h;cases rx;cases ry;let(aR,r,p1,z1):=I.list hH;let(kq,r2,p2,z2):=I.list hB;let((cls,dd,data,sl),n,ho,hc,_,hd):=p1;let((Zt,Yg,data2,Yh),n2,Ip,OG,_,hd2):=p2;subst hc hd OG hd2;have l1:=r.length;have l2:=r2.length;have e:aR.toArray++kq.toArray=(aR++kq).toArray:=by simp
 refine concat_meets #[_,ho,9] #[_,Ip,9] noFill_list_add seq_list_add PySem.F.slot_list_add PySem.F.entry_list_add (PySem.F.args_list_add_2 _ _) (list_addW l b aR.toArray kq.toArray n n2 dd Yg sl Yh (by simp only[iD];lia)) #[ho,Ip,?_];rw[e];exact#[.ref _,_,I.ZC (r.append r2) (by rw[fS];lia),9,q _ I.fresh]
def Pk:fF X (binaryOp .Add) (Sn X.K):=by
 intro ε s σ H x y v u Q I rx ry h;let(a,b,xs,ys,rfl,rfl,ha,hb,hz,q0,q1,q2):=h;cases rx;cases ry;let(aR,r1,p1,_):=I.tuple ha;let(kq,r2,p2,_):=I.tuple hb;by_cases hx:xs=[];let((cls,dd,data,sl),ho,hc,n,hd):=id p1;let((Zt,Yg,data2,Yh),Ip,OG,n2,hd2):=id p2;subst hc hd OG hd2;exact concat_meets #[_,ho,9] #[_,Ip,9] noFill_tuple_add seq_tuple_add acS acO (acL _ _)
  (tuple_addW0 a b aR.toArray kq.toArray n n2 dd Yg sl Yh (by simp[r1.iF.mpr hx])) #[ho,Ip,#[.ref b,H,I,9,q0 hx]]
 refine HT.OF p1 p2 (λz=>hx (r1.iF.mp z)) (λz=>#[.ref a,H,I,9,q1 hx (r2.iF.mp z)]) (λz=>#[.ref 8,_,I.laid (λb ob q=>dF _ q) (cL _) ?_,9,q2 hx (λw=>z (r2.iF.mpr w)) _ (I.bZ.fresh (cL _))]) (by rw[<- r1.length,<- r2.length];exact hz);exact#[by rw[fS];exact hz,_,r1.append r2,IsTup.new _ _]
end
def So(K:qaf):R2:=λx y H Q=>tR (λi j=>.int (i+j)) x y H Q\/(λx y H Q=>∃i j,x=.str i/\y=.str j/\i.length+j.length<=sizeLine/\Q (.str (i++j)) H) x y H Q\/Sl K x y H Q\/Sn K x y H Q
def Pm:fF X (binaryOp .Add) (So X.K):=fF.or UB (fF.or BG (fF.or Pj Pk))
def Vg(x y:T)(q:Rt->Prop):Prop:=match x,y with
 |.int i,.int j=>q (.vw (.int (i+j)))
 |.str i,.str j=>i.length+j.length<=sizeLine/\q (.vw (.str (i++j)))
 |.lst a,.lst b=>a.length+b.length<=sizeLine/\q (.fr (.lst (a++b)))
 |.tup a,.tup b=>a.length+b.length<=sizeLine/\q (.vw (.tup (a++b)))
 |_,_=>False
def Pn:nR K (So K) Vg:=by
 intro Z tm O ρ σ H x y v w q Q I h1 h2 h k;unfold Vg at h;split at h;exact .inl #[_,_,h1.int,h2.int,k _ h _ H (aW.refl H) #[I,bw]];exact .inr (.inl #[_,_,h1.str,h2.str,h.1,k _ h.2 _ H (aW.refl H) #[I,cO]]);let(a,vs,rfl,s1,a1):=h1.lst;let(b,ws,rfl,s2,a2):=h2.lst;exact .inr (.inr (.inl #[a,b,vs,ws,9,9,s1,s2,by rw[a1.length,a2.length];exact h.1,λp hp=>k _ h.2 _ _ (aI hp) (I.wm hp (a1.append a2))]));let(a,vs,rfl,s1,a1):=h1.tup;let(b,ws,rfl,s2,a2):=h2.tup;refine .inr (.inr (.inr #[a,b,vs,ws,9,9,s1,s2,by rw[a1.length,a2.length];exact h.1,λe=>?_,λ_ e=>?_,λ_ _ p hp=>?_]));subst e;have e:=a1.length
 rename_i xs ys
 have e':=NL.mp e.symm;subst e';exact k _ h.2 _ H (aW.refl H) #[I,cj s2 a2];subst e;have e:=a2.length
 rename_i xs ys _
 have e':=NL.mp e.symm;subst e';exact k _ h.2 _ H (aW.refl H) #[I,by rw[Ie];exact cj s1 a1];exact k _ h.2 _ _ (aI hp) #[I.same (aI hp),cj (e_.of aK) ((a1.append a2).same (aI hp))];exact h.elim
section
variable{Z:Zc}{a:Expr}{pos:Pos}{fa fb:FE}
def cF(ha:VR X Z a fa)(hb:VR X Z b fb):VP X Z (.BinOp a .Add b pos) (f2 fa fb Vg):=gU Pm Pn ha hb
def qO(ha:VR X Z a fa)(hb:VR X Z b fb):VP X Z (.BinOp a .Sub b pos) (f2 fa fb U9):=gU UC O9 ha hb
def gW(ha:VR X Z a fa)(hb:VR X Z b fb):VP X Z (.BinOp a .Mult b pos) (f2 fa fb U_):=gU UD O_ ha hb
def bO(ha:VR X Z a fa)(hb:VR X Z b fb):VP X Z (.BinOp a .FloorDiv b pos) (f2 fa fb U'):=gU Ow Pa ha hb
def bz(ha:VR X Z a fa)(hb:VR X Z b fb):VP X Z (.BinOp a .Mod b pos) (f2 fa fb Va):=gU UE Pb ha hb
def jx(ha:VR X Z a fa)(hb:VR X Z b fb):VP X Z (.BinOp a .Pow b pos) (f2 fa fb Vb):=gU UG Pc ha hb
def qP(ha:VR X Z a fa)(hb:VR X Z b fb):VP X Z (.BinOp a .LShift b pos) (f2 fa fb Vc):=gU UH Pe ha hb
def Vh(ha:VR X Z a fa)(hb:VR X Z b fb):VP X Z (.BinOp a .RShift b pos) (f2 fa fb Vd):=gU UI Pf ha hb
def j3(ha:VR X Z a fa)(hb:VR X Z b fb):VP X Z (.BinOp a .BitAnd b pos) (f2 fa fb JB):=gU I_ y2 ha hb
def qQ(ha:VR X Z a fa)(hb:VR X Z b fb):VP X Z (.BinOp a .BitOr b pos) (f2 fa fb Ph):=gU Zj gH ha hb
def afB(f:FE):FP:=λρ Q=>f ρ λx=>match x with
 |.int i=>Q (.vw (.int (-i)))
 |_=>False
def qR(ha:VR X Z a fa):VP X Z (.UnaryOp .USub a pos) (afB fa):=.mk λtm=>PE.weak (Sa UJ (ha tm)) λσ H Q #[ρ,O,q,I,hf,k]=>#[ρ,O,_,I,hf,λt ht v H1 s1 a1=>by split at ht;exact#[_,a1.int,k _ ht _ H1 s1 #[I.same s1,bw]];exact ht.elim]
def DZ(hu:X.A.units+101<cLine)(ha:VR X Z a fa)(hb:VR X Z b fb):VP X Z (.Compare a [.Eq] [b] pos) (f2 fa fb Z0):=BY (Jx hu) Jz ha hb (jn _)
def JD(hu:X.A.units+101<cLine)(ha:VR X Z a fa)(hb:VR X Z b fb):VP X Z (.Compare a [.NotEq] [b] pos) (f2 fa fb U8):=BY (Jy hu) JA ha hb (jn _)
def bF(hu:X.A.units+101<cLine)(ha:VR X Z a fa)(hb:VR X Z b fb):VC X Z (.Compare a [.Eq] [b] pos) (mq (f2 fa fb Z0)):=jw (Jx hu) Jz ha hb (jn _)
def h_(hu:X.A.units+101<cLine)(ha:VR X Z a fa)(hb:VR X Z b fb):VC X Z (.Compare a [.NotEq] [b] pos) (mq (f2 fa fb U8)):=jw (Jy hu) JA ha hb (jn _)
def mw(ha:VR X Z a fa)(hb:VR X Z b fb):VC X Z (.Compare a [.Lt] [b] pos) (mq (f2 fa fb pLt)):=jw Zk Ve ha hb (jn _)
def y3(ha:VR X Z a fa)(hb:VR X Z b fb):VC X Z (.Compare a [.Gt] [b] pos) (mq (f2 fa fb pGt)):=jw Zl Vf ha hb (jn _)
def f3(fa fb fc:FE)(p p':T->T->(Rt->Prop)->Prop):FP:=λρ Q=>fa ρ λx=>fb ρ λy=>p x y λr=>match r with
 |.vw (.bl true)=>fc ρ λz=>p' y z Q
 |.vw (.bl false)=>Q (.vw (.bl false))
 |_=>False
end
def JE{A:qah}{ts:List T}{i:Int}{t:T}(h:aD K H A ts vs)(e:h9 ts i\t):∃v,h9 vs i\v/\At K H A t v:=by
 unfold h9 at e ⊢;rw[h.length];cases q:vY ts.length i with
 |none=>rw[q] at e;cases e
 |some j=>rw[q] at e;let(v,h1,h2):=h.get e;exact#[v,h1,h2]
def Z3(x y:T)(q:Rt->Prop):Prop:=match x,y with
 |.lst ts,.int i=>∃t,h9 ts i\t/\q (.vw t)
 |.tup ts,.int i=>∃t,h9 ts i\t/\q (.vw t)
 |.str z,.int i=>z.length<=sizeLine/\∃c,h9 z.cps.toList i\c/\q (.vw (.str #[([c].toArray)]))
 |_,_=>False
def JF:nR K (rIx K) Z3:=by intro Z tm O ρ σ H x y v w q Q I h1 h2 h k;unfold Z3 at h;split at h;let(t,e,h):=h;let(a,vs,rfl,s1,a1):=h1.lst;let(u,e',a2):=JE a1 e;exact .inl #[a,vs,_,u,9,h2.int,s1,e',k _ h _ H (aW.refl H) #[I,a2]];let(t,e,h):=h;let(a,vs,rfl,s1,a1):=h1.tup;let(u,e',a2):=JE a1 e;exact .inr (.inl #[a,vs,_,u,9,h2.int,s1,e',k _ h _ H (aW.refl H) #[I,a2]]);let(hz,c,e,h):=h;exact .inr (.inr #[_,_,c,h1.str,h2.int,hz,e,k _ h _ H (aW.refl H) #[I,cO]]);exact h.elim
section
variable{Z:Zc}{a:Expr}{pos:Pos}{fa fb:FE}
def ay(ha:VR X Z a fa)(hb:VR X Z b fb)(hs:vZ b:=by intro _ _;rfl):VP X Z (.Subscript a b pos) (f2 fa fb Z3) :=
 .mk λtm=>PE.weak (Si Ji (ha tm) (hb tm) hs) (two JF)
end
abbrev FO:=En->(Option Int->Prop)->Prop
def lO(X:Cx)(Z:Zc)(tm:List (T×V))(f:FO):TO:=λσ H Q=>∃ρ O q,aB X.K Z tm O ρ σ H/\f ρ q/\∀o,q o->∀H',aW H H'->Q o H'
def VO(X:Cx)(Z:Zc)(e:Option Expr)(f:FO):Prop:=Bx λtm=>PO X e (lO X Z tm f)
instance{X:Cx}{Z:Zc}{e:Option Expr}{f:FO}:CoeFun (VO X Z e f) λ_=>∀tm,PO X e (lO X Z tm f):=#[λh=>Bx.h h]
def PO.weak{e:Option Expr}{t t':TO}(h:PO X e t)(hw:∀σ H Q,t' σ H Q->t σ H Q):PO X e t':=λε s σ H Q I q=>h ε s σ H Q I (hw _ _ _ q)
def fO0:FO:=λ_ Q=>Q none
def fO1(f:FE):FO:=λρ Q=>f ρ λt=>match t with
 |.int i=>Q (some i)
 |_=>False
def uj{α:Type}(xs:List α)(lo hi:Option Int):List α:=(xs.drop (HT.fD xs.length 0 lo)).take (HT.fD xs.length xs.length hi-HT.fD xs.length 0 lo)
def aD.cut{A:qah}{ts:List T}(h:aD K H A ts vs)(lo hi:Option Int):aD K H A (uj ts lo hi) (F6 vs lo hi):=by unfold uj F6;rw[h.length];exact (h.drop _).take _
def afC(K:qaf):V->Option Int->Option Int->Hp->VK->Prop:=λx lo hi H Q=>ZA K x lo hi H Q\/Zw K x lo hi H Q\/ZU x lo hi H Q
def afD:Jg X (afC X.K):=Jg.or OQ (Jg.or UR U5)
def pSl(x:T)(lo hi:Option Int)(q:Rt->Prop):Prop:=match x with
 |.lst ts=>q (.fr (.lst (uj ts lo hi)))
 |.tup ts=>¬ (HT.fD ts.length 0 lo=0/\HT.fD ts.length ts.length hi=ts.length)/\q (.vw (.tup (uj ts lo hi)))
 |.str z=>z.length<=sizeLine/\q (.vw (.str (Txt.slice z lo hi)))
 |_=>False
def fSl(fa:FE)(fl fh:FO):FP:=λρ Q=>fa ρ λx=>fl ρ λlo=>fh ρ λhi=>pSl x lo hi Q
section
variable{Z:Zc}{a:Expr}{lo hi:Option Expr}{pos:Pos}{fa:FE}{fl fh:FO}
def D0:VO X Z none fO0:=.mk λtm=>PO.weak OJ λσ H Q #[ρ,O,q,I,hf,k]=>k _ hf H (aW.refl H)
def j4(h:VR X Z e fa):VO X Z (some e) (fO1 fa):=.mk λtm=>PO.weak (OL (h tm)) λσ H Q #[ρ,O,q,I,hf,k]=>#[ρ,O,_,I,hf,λt ht v H' s z=>by split at ht;exact#[_,z.int,k _ ht H' s];exact ht.elim]
def mx(he:VR X Z e fa)(hl:VO X Z lo fl)(hh:VO X Z hi fh):VP X Z (.Subscript e (.Slice lo hi none p2) pos) (fSl fa fl fh) :=
 .mk λtm=>PE.weak (Jh afD (he tm) (hl tm) (hh tm)) λσ H Q #[ρ,O,q,I,hf,k]=>#[ρ,O,_,I,hf,λx hx v H1 s1 a1=>#[ρ,O,_,I.same s1,hx,λl hl H2 s2=>#[ρ,O,_,(I.same s1).same s2,hl,λu hu H3 s3=>by have J:=((I.same s1).same s2).same s3;have a3:=(a1.same s2).same s3;have S:=(s1.trans s2).trans s3;unfold pSl at hu;split at hu;let(p,vs,rfl,q1,q2):=a3.lst;exact .inl #[p,vs,9,q1,λr hr=>k _ hu _ _ (S.trans (aI hr)) (J.wm hr (q2.cut _ _))];let(p,vs,rfl,q1,q2):=a3.tup;refine .inr (.inl #[p,vs,9,q1,by rw[q2.length];exact hu.1,λr hr=>k _ hu.2 _ _ (S.trans (aI hr)) #[J.same (aI hr),cj (e_.of aK) ((q2.cut _ _).same (aI hr))]]);exact .inr (.inr #[_,a3.str,hu.1,k _ hu.2 _ H3 S #[J,cO]]);exact hu.elim]]]
end
def Sq(g:FA)(p:List T->(Rt->Prop)->Prop):FP:=λρ Q=>g ρ λts=>p ts Q
def my(K:qaf)(r:qak->Hp->VK->Prop)(p:List T->(Rt->Prop)->Prop):Prop :=
 ∀(Z:Zc)(tm:List (T×V))(O:HD)(ρ:En)(σ:St)(H:Hp)(ts:List T)(vs:qak)(q:Rt->Prop)(Q:VK),aB K Z tm O ρ σ H->Paired (λv t=>hW K H (av Z O) t v) vs ts->p ts q ->
  (∀t,q t->∀u H',aW H H'->iI K Z tm O ρ σ H' t u->Q u H')->r vs H Q
section
variable{Z:Zc}{a:Expr}{pos:Pos}{g:FA}{id Ty:String}{r:qak->Hp->VK->Prop}{pp:List T->(Rt->Prop)->Prop}
def aS(hc:dh X (.builtin id) r)(ht:my X.K r pp)(hg:Gl X x)(hm:X.mg x=none)(hv:bootBuiltins x\.builtin id)(ha:Yk X Z (e::es) g)(hn:x≠"__name__":=by decide)(ua:gG x:=by decide)(hs:starEach (e::es) X.env=(false,eval e X.env)::starEach es X.env:=by rfl)(j2:(backTo pos (starEach es X.env)).any (·.1)=false:=by rfl):VP X Z (.Call (.Name x p) (e::es) [] pos) (Sq g pp) :=
 .mk λtm=>PE.weak (jq hc hg hm hv (ha tm) hn ua hs j2) λσ H Q #[ρ,O,q,I,hf,k]=>#[ρ,O,_,I,hf,λts hX vs H1 s1 a1=>ht Z tm O ρ σ H1 ts vs q _ (I.same s1) a1 hX λt h u H' s z=>k t h u H' (s1.trans s) z]
def ic(hc:dh X (.type Ty) r)(ht:my X.K r pp)(hg:Gl X x)(hm:X.mg x=none)(hv:bootBuiltins x\.type Ty)(ha:Yk X Z (e::es) g)(hn:x≠"__name__":=by decide)(ua:gG x:=by decide)(hs:starEach (e::es) X.env=(false,eval e X.env)::starEach es X.env:=by rfl)(j2:(backTo pos (starEach es X.env)).any (·.1)=false:=by rfl):VP X Z (.Call (.Name x p) (e::es) [] pos) (Sq g pp) :=
 .mk λtm=>PE.weak (nP hc hg hm hv (ha tm) hn ua hs j2) λσ H Q #[ρ,O,q,I,hf,k]=>#[ρ,O,_,I,hf,λts hX vs H1 s1 a1=>ht Z tm O ρ σ H1 ts vs q _ (I.same s1) a1 hX λt h u H' s z=>k t h u H' (s1.trans s) z]
end
def Z4(ts:List T)(q:Rt->Prop):Prop:=match ts with
 |[.lst l]=>q (.vw (.int l.length))
 |[.tup l]=>q (.vw (.int l.length))
 |[.str z]=>z.length<=sizeLine/\q (.vw (.int z.length))
 |_=>False
def Sr(K:qaf):qak->Hp->VK->Prop:=λxs H Q=>(∃p ys,xs=[.ref p]/\(f_ K H p ys\/e_ K H p ys)/\Q (.int ys.length) H)\/(∃z,xs=[.str z]/\z.length<=sizeLine/\Q (.int z.length) H)
def aT:dh X (.builtin "len") (Sr X.K):=dh.or v_ wc
def dH{F:α->β->Prop}{vs:List α}{t:β}(h:Paired F vs [t]):∃v,vs=[v]/\F v t:=by
 cases h with
 |cons r q=>cases q;exact#[_,9,r]
def aV:my K (Sr K) Z4:=by intro Z tm O ρ σ H ts vs q Q I h hp k;unfold Z4 at hp;split at hp;let(v,rfl,a):=dH h;let(p,ws,rfl,q1,q2):=a.lst;exact .inl #[p,ws,9,.inl q1,k _ hp _ H (aW.refl H) #[I,by rw[q2.length];exact bw]];let(v,rfl,a):=dH h;let(p,ws,rfl,q1,q2):=a.tup;exact .inl #[p,ws,9,.inr q1,k _ hp _ H (aW.refl H) #[I,by rw[q2.length];exact bw]];let(v,rfl,a):=dH h;exact .inr #[_,by rw[a.str],hp.1,k _ hp.2 _ H (aW.refl H) #[I,bw]];exact hp.elim
def Ss(ts:List T)(q:Rt->Prop):Prop:=match ts with
 |[.lst l]=>q (.fr (.lst l))
 |[.tup l]=>q (.fr (.lst l))
 |_=>False
def lq:my K (λxs H Q=>∃p ys,xs=[.ref p]/\(f_ K H p ys\/e_ K H p ys)/\∀l,H l=none->Q (.ref l) (upd H l (.lst ys))) Ss:=by intro Z tm O ρ σ H ts vs q Q I h hp k;unfold Ss at hp;split at hp;let(v,rfl,a):=dH h;let(p,ws,rfl,q1,q2):=a.lst;exact#[p,ws,9,.inl q1,λl hl=>k _ hp _ _ (aI hl) (I.wm hl q2)];let(v,rfl,a):=dH h;let(p,ws,rfl,q1,q2):=a.tup;exact#[p,ws,9,.inr q1,λl hl=>k _ hp _ _ (aI hl) (I.wm hl q2)];exact hp.elim
def JG(ts:List T)(q:Rt->Prop):Prop:=match ts with
 |[.lst l]=>q (.vw (.tup l))
 |[.tup l]=>q (.vw (.tup l))
 |_=>False
def oW:my K (λxs H Q=>∃p ys,xs=[.ref p]/\((f_ K H p ys/\∀l,H l=none->Q (.ref l) (upd H l (.tup ys)))\/(e_ K H p ys/\Q (.ref p) H))) JG:=by intro Z tm O ρ σ H ts vs q Q I h hp k;unfold JG at hp;split at hp;let(v,rfl,a):=dH h;let(p,ws,rfl,q1,q2):=a.lst;exact#[p,ws,9,.inl #[q1,λl hl=>k _ hp _ _ (aI hl) #[I.same (aI hl),cj (e_.of aK) (q2.same (aI hl))]]];let(v,rfl,a):=dH h;let(p,ws,rfl,q1,q2):=a.tup;exact#[p,ws,9,.inr #[q1,k _ hp _ H (aW.refl H) #[I,cj q1 q2]]];exact hp.elim
structure Su where
 nx:En->Prop
 rt:En->Rt->Prop
 bk:En->Prop:=λ_=>False
 ct:En->Prop:=λ_=>False
structure Fin(K:qaf)(Z:Zc)(tm:List (T×V))(d:Su)(D:Ends):Prop where
 nx:∀O ρ σ H,aB K Z tm O ρ σ H->d.nx ρ->D.nx σ H
 rt:∀O ρ σ H r v,iI K Z tm O ρ σ H r v->d.rt ρ r->D.rt v H
 bk:∀O ρ σ H,aB K Z tm O ρ σ H->d.bk ρ->D.bk σ H
 ct:∀O ρ σ H,aB K Z tm O ρ σ H->d.ct ρ->D.ct σ H
abbrev FS:=Su->En->Prop
def lS(X:Cx)(Z:Zc)(tm:List (T×V))(g:FS):TS:=λD σ H=>E3 λρ O d=>aB X.K Z tm O ρ σ H/\g d ρ/\Fin X.K Z tm d D
def VS(X:Cx)(Z:Zc)(st:Stmt)(g:FS):Prop:=Bx λtm=>PS X st (lS X Z tm g)
instance{X:Cx}{Z:Zc}{st:Stmt}{g:FS}:CoeFun (VS X Z st g) λ_=>∀tm,PS X st (lS X Z tm g):=#[λh=>Bx.h h]
def ku(X:Cx)(Z:Zc)(st:qaq)(g:FS):Prop:=Bx λtm=>ko X st (lS X Z tm g)
instance{X:Cx}{Z:Zc}{st:qaq}{g:FS}:CoeFun (ku X Z st g) λ_=>∀tm,ko X st (lS X Z tm g):=#[λh=>Bx.h h]
def aY(Z:Zc)(i:Nat):Prop:=∀p∈Z.P,p.1≠i
section
variable{Z:Zc}{st:Stmt}{g u:FS}{pos:Pos}
def Z5:FS:=λd ρ=>d.nx ρ
def Z6(g u:FS):FS:=λd ρ=>g {d with nx:=u d} ρ
def aE:ku X Z [] Z5:=.mk λtm=>ko.mj DM λD σ H #[ρ,O,d,I,h,F]=>F.nx O ρ σ H I h
def af(h1:VS X Z st g)(h2:ku X Z rest u):ku X Z (st::rest) (Z6 g u):=.mk λtm=>ko.mj (jm (h1 tm) (h2 tm)) λD σ H #[ρ,O,d,I,h,F] =>
 #[ρ,O,{d with nx:=u d},I,h,#[λO' ρ' σ' H' I' h'=>#[ρ',O',d,I',h',F],F.rt,F.bk,F.ct]]
def aq(h1:VS X Z st g):ku X Z [st] g:=.mk λtm=>l8 (h1 tm)
def ku.weak(h:ku X Z rest g)(hw:∀d ρ,u d ρ->g d ρ):ku X Z rest u:=.mk λtm=>ko.mj (h tm) λD σ H #[ρ,O,d,I,q,F]=>#[ρ,O,d,I,hw d ρ q,F]
def Z7(f:FX):FS:=λd ρ=>f ρ λρ' _=>d.nx ρ'
def bA{f:FX}(h:VX X Z e f)(hs:swapsWith e none pos.line X.env=pure false:=by rfl):VS X Z (.Expr e pos) (Z7 f):=.mk λtm=>PS.weak (Oi (h tm) hs) λD σ H #[ρ,O,d,I,q,F] =>
 #[ρ,O,_,I,q,λρ' r hr O' v H' z=>F.nx O' ρ' σ H' z.env hr]
def afE(f:FX):FS:=λd ρ=>f ρ λρ' r=>d.rt ρ' r
def aA{f:FX}(h:VX X Z e f):VS X Z (.Return (some e) pos) (afE f):=.mk λtm=>PS.weak (BA (h tm)) λD σ H #[ρ,O,d,I,q,F] =>
 #[ρ,O,_,I,q,λρ' r hr O' v H' z=>F.rt O' ρ' σ H' r v z hr]
def gIf(c:FB)(g u:FS):FS:=λd ρ=>c ρ λb=>if b=true then g d ρ else u d ρ
def bb{fc:FB}{a b:qaq}(hc:VC X Z c fc)(ha:ku X Z a g)(hb:ku X Z b u):VS X Z (.If c a b pos) (gIf fc g u):=.mk λtm=>PS.weak (R_ (hc tm) (ha tm) (hb tm)) λD σ H #[ρ,O,d,I,q,F] =>
 #[ρ,O,_,I,q,λb hb H' s=>by
  cases b with
  |true=>rw[ι 9] at hb ⊢;exact#[ρ,O,d,I.same s,hb,F]
  |false=>rw[θ iC] at hb ⊢;exact#[ρ,O,d,I.same s,hb,F]]
def Z8(i:Nat)(f:FX):FS:=λd ρ=>f ρ λρ' r=>d.nx (ρ'.set i (some (r.t,false)))
def afF(i:Nat)(f:FX):FS:=λd ρ=>f ρ λρ' r=>match r with
 |.fr t=>d.nx (ρ'.set i (some (t,true)))
 |_=>False
def aJ{f:FX}(hN:X.N.Nodup)(hi:X.N[i]?\x)(hx:Loc X.env.scope x)(he:VX X Z e f)(hp:aY Z i)(hs:swapsWith e (some (.Name x pos')) pos.line X.env=pure false:=by rfl)(hf:X.fn x=true\/X.env.scope.names.lookup x\.local:=by first|exact .inl rfl|exact .inr rfl|assumption):VS X Z (.Assign [.Name x pos'] e pos) (Z8 i f):=.mk λtm=>PS.weak (vW hN hi hx (he tm) hs hf) λD σ H #[ρ,O,d,I,q,F] =>
 #[ρ,O,_,I,q,λρ' r hr O' v H' z=>F.nx _ _ _ H' (z.env.put hp z.at) hr]
def cP{f:FX}(hN:X.N.Nodup)(hi:X.N[i]?\x)(hx:Loc X.env.scope x)(he:VX X Z e f)(hp:aY Z i)(hs:swapsWith e (some (.Name x pos')) pos.line X.env=pure false:=by rfl)(hf:X.fn x=true\/X.env.scope.names.lookup x\.local:=by first|exact .inl rfl|exact .inr rfl|assumption):VS X Z (.Assign [.Name x pos'] e pos) (afF i f):=.mk λtm=>PS.weak (vW hN hi hx (he tm) hs hf) λD σ H #[ρ,O,d,I,q,F] =>
 #[ρ,O,_,I,q,λρ' r hr O' v H' z=>by split at hr;let(a,rfl,J,hR,h0,Ir):=z;exact F.nx _ _ _ H' (J.afx hp hR h0 Ir) hr;exact hr.elim]
def Z9(i:Nat)(f:FE)(p:T->T->(Rt->Prop)->Prop):FS:=λd ρ=>match ρ[i]? with
 |some (some (x,false))=>f ρ λy=>p x y λr=>d.nx (ρ.set i (some (r.t,false)))
 |_=>False
def lr{f:FE}{op:Operator}{r:R2}{p:T->T->(Rt->Prop)->Prop}(hN:X.N.Nodup)(hi:X.N[i]?\x)(hx:Loc X.env.scope x)(he:VR X Z e f)(ho:fF X (inplaceOp op) r)(ht:nR X.K r p)(hp:aY Z i)(hf:X.fn x=true\/X.env.scope.names.lookup x\.local:=by first|exact .inl rfl|exact .inr rfl|assumption):VS X Z (.AugAssign (.Name x pos') op e pos) (Z9 i f p):=.mk λtm=>PS.weak (Uv hN hi hx (he tm) ho hf) λD σ H #[ρ,O,d,I,q,F]=>by
 unfold Z9 at q;split at q
 rename_i t e0
 let(o,s,h1,h2,rfl,v,rfl,h3):=I.sl i _ e0;exact#[v,h2,ρ,O,_,I,q,λy hy w H1 s1 a1=>ht Z tm O ρ σ H1 t y v w _ _ (I.same s1) (.inl (h3.same s1)) a1 hy λr hr z H2 s2 k=>F.nx _ _ _ H2 (k.env.put hp k.at) hr];exact q.elim
def afG(is:qao)(g:FS):FS:=λd ρ=>g d (is.foldl (λρ i=>match ρ[i]? with
 |some (some (t,true))=>ρ.set i (some (t,false))
 |_=>ρ) ρ)
theorem qS{K:qaf}{tm:List (T×V)}:∀(is:qao){O:HD}{ρ:En}{σ:St}{H:Hp},(∀i∈is,aY Z i)->aB K Z tm O ρ σ H->∃O',aB K Z tm O' (is.foldl (λρ i=>match ρ[i]? with
 |some (some (t,true))=>ρ.set i (some (t,false))
 |_=>ρ) ρ) σ H
 |[],O,ρ,σ,H,_,I=>#[O,I]
 |i::is,O,ρ,σ,H,hp,I=>by
  rw[YU];have hp':=λj hj=>hp j (iB _ hj);split
  rename_i t e
  exact qS is hp' (I.k7 (hp i iz) e);exact qS is hp' I
def Po(is:qao)(h:ku X Z rest g)(hp:∀i∈is,aY Z i):ku X Z rest (afG is g):=.mk λtm=>ko.mj (h tm) λD σ H #[ρ,O,d,I,q,F]=>let #[O',I']:=qS is hp I;#[_,O',d,I',q,F]
end
section
variable{Z:Zc}{a:Expr}{pos:Pos}
def aB.root{tm:List (T×V)}{ρ:En}(I:aB K Z tm O ρ σ H){k:Nat}{t:T}(e:ρ[k]?\some (t,true)):∃a,O[k]?\some a/\σ[k]?\some (.ref a)/\dq K H (av Z O) a t:=by let(o,s,h1,h2,a,rfl,rfl,h3):=I.sl k _ e;exact#[a,h1,h2,h3]
def D1(k:Nat)(g:FA)(p:List T->List T->(List T->T->Prop)->Prop):FX:=λρ Q=>match ρ[k]? with
 |some (some (.lst ts,true))=>g ρ λvs=>p ts vs λj5 r=>Q (ρ.set k (some (.lst j5,true))) (.vw r)
 |_=>False
def Z_(K:qaf)(r:V->qak->Hp->VK->Prop)(p:List T->List T->(List T->T->Prop)->Prop):Prop :=
 ∀(H:Hp)(A:qah)(l:Addr)(xs:qak)(ts us:List T)(vs:qak)(q:List T->T->Prop)(Q:VK),l∈A->H l\.lst xs->aD K H A ts xs->aD K H A us vs->p ts us q ->
  (∀j5 t,q j5 t->∀xs' v,aD K H A j5 xs'->At K H A t v->Q v (upd H l (.lst xs')))->r (.ref l) vs H Q
def D2{r:V->qak->Hp->VK->Prop}{p:List T->List T->(List T->T->Prop)->Prop}(hm:Z_ X.K r p){k:Nat}{g:FA}{tm:List (T×V)}{Q:VK}(h:lX X Z tm (D1 k g p) σ H Q) :
  ∃l,σ[k]?\some (.ref l)/\(∃xs,f_ X.K H l xs)/\lA X Z tm g σ H λvs H1=>r (.ref l) vs H1 Q:=by
 let(ρ,O,q,I,hf,kk):=h;unfold D1 at hf;split at hf
 rename_i ts e0
 let(l,h1,h2,xs,h3,h4):=I.root e0;refine#[l,h2,#[xs,f_.of h3],ρ,O,_,I,hf,λus hus vs H1 s1 a1=>?_];have J:=I.same s1;have ha:l∈av Z O:=hY _ (aH.mpr (fL h1));exact hm H1 (av Z O) l xs ts us vs _ Q ha (s1 _ _ h3) (h4.same s1) a1 hus λj5 t ht xs' v b1 b2=>kk _ _ ht O _ _ #[J.wrote e0 h1 #[xs',aK,b1.wrote ha (s1 _ _ h3) 9],b2.wrote ha (s1 _ _ h3) 9];exact hf.elim
def dy(k:Nat){name:Str}{id:String}{g:FA}{r:V->qak->Hp->VK->Prop}{pp:List T->List T->(List T->T->Prop)->Prop}(slot:Slot "list" name id)(UZ:typeOf (.builtin id)=pure (.type "method_descriptor"))(hm:Sh X id r)(ht:Z_ X.K r pp)(ha:VA X Z (e::es) g)(hN:X.N[k]?\x:=by rfl)(hv:nJ X.env.scope x:=by exact jvv 9)(hd:gG x:=by decide)(fW:tQ x:=by decide)(du:attributeBase (.Name x p) name X.env (eval (.Name x p) X.env)=eval (.Name x p) X.env:=by rfl)(qH:((backTo bM (starEach (e::es) X.env)).all (λx=>!x.1) && (backToKw bM (keywordEach [] X.env)).all (λx=>x.1.isSome)
    && decide ((e::es).length+([]:List Keyword).length+(if ([]:List Keyword).isEmpty then 0 else 1)<30))=true:=by rfl)(dw:(apos.endLine==bM.line)=true:=by rfl)(hs:starEach (e::es) X.env=(false,eval e X.env)::starEach es X.env:=by rfl)(gi:(backTo bM (starEach es X.env)).any (·.1)=false:=by rfl) :
  VX X Z (.Call (.Attribute (.Name x p) name apos) (e::es) [] bM) (D1 k g pp):=.mk λtm=>
 PE.weak (yR aco slot UZ hm (cM hN hv hd fW) (ha tm) du qH dw hs gi) λσ H Q h=>
  let #[l,h1,h2,h3]:=D2 ht h;#[.ref l,h1,.inl #[9,h2],h3]
def wu(k:Nat){name:Str}{id:String}{r:V->qak->Hp->VK->Prop}{pp:List T->List T->(List T->T->Prop)->Prop}(slot:Slot "list" name id)(UZ:typeOf (.builtin id)=pure (.type "method_descriptor"))(hm:Sh X id r)(ht:Z_ X.K r pp)(hN:X.N[k]?\x:=by rfl)(hv:nJ X.env.scope x:=by exact jvv 9)(hd:gG x:=by decide)(fW:tQ x:=by decide)(du:attributeBase (.Name x p) name X.env (eval (.Name x p) X.env)=eval (.Name x p) X.env:=by rfl)(dw:(apos.endLine==bM.line)=true:=by rfl):VX X Z (.Call (.Attribute (.Name x p) name apos) [] [] bM) (D1 k ui pp):=.mk λtm=>
 PE.weak (BW aco slot UZ hm (cM hN hv hd fW) du dw) λσ H Q h=>by let(l,h1,h2,ρ,O,q,I,hf,kk):=D2 ht h;exact#[.ref l,h1,.inl #[9,h2],kk [] hf [] H (aW.refl H) aD.nil]
def D3(ts us:List T)(q:List T->T->Prop):Prop:=match us with
 |[t]=>ts.length<sizeLine/\q (ts++[t]) .bY
 |_=>False
def ba:Z_ K DU D3:=by intro H A l xs ts us vs q Q hl hH h1 h2 hp k;unfold D3 at hp;split at hp;let(v,rfl,a):=dH (aD.iff.mp h2);exact#[l,xs,v,9,9,hH,by rw[h1.length];exact hp.1,k _ _ hp.2 _ _ (h1.append (aD.cons a aD.nil)) qM];exact hp.elim
def afH(ts us:List T)(q:List T->T->Prop):Prop:=us=[]/\∃t,ts[ts.length-1]?\t/\q ts.dropLast t
def aD.dropLast{A:qah}{ts:List T}(h:aD K H A ts vs):aD K H A ts.dropLast vs.dropLast:=by rw[List.dropLast_eq_take,List.dropLast_eq_take,h.length];exact h.take _
def p_:Z_ K ZD afH:=by
 intro H A l xs ts us vs q Q hl hH h1 h2 hp k;let(rfl,t,e1,hq):=hp;have e:vs=[]:=by simpa only[aD] using h2
 let(v,e2,a):=h1.get e1;exact#[l,xs,v,9,e,hH,by rw[h1.length];exact e2,k _ _ hq _ _ h1.dropLast a]
def Sv(k:Nat)(f fi:FE):FS:=λd ρ=>match ρ[k]? with
 |some (some (.lst ts,true))=>f ρ λv=>fi ρ λi=>match i with
  |.int j=>∃n,vY ts.length j\n/\d.nx (ρ.set k (some (.lst (ts.set n v),true)))
  |_=>False
 |_=>False
def gk(k:Nat){f fi:FE}{i:Expr}(he:VE X Z e f)(hi:VR X Z i fi)(hN:X.N[k]?\x:=by rfl)(hv:nJ X.env.scope x:=by exact jvv 9)(hd:gG x:=by decide)(fW:tQ x:=by decide)(ha:∀v,assign (.Subscript (.Name x p) i eC) X.env v=(do
    let ov <- holding [v] (eval (.Name x p) X.env)
    let iv <- holding [v,ov] (eval i X.env)
    standAt eC
    holding [v,ov,iv] (setItem ov iv v)
    release [v,ov,iv] []):=by intro _;rfl)(hs:swapsWithSole [.Subscript (.Name x p) i eC] e pos.line X.env=pure false:=by rfl)(hw:swappedStores [.Subscript (.Name x p) i eC] e X.env=pure none:=by rfl)(h1:(assignEach [.Subscript (.Name x p) i eC] X.env).map (·.2)=[assign (.Subscript (.Name x p) i eC) X.env]:=by rfl):VS X Z (.Assign [.Subscript (.Name x p) i eC] e pos) (Sv k f fi):=.mk λtm=>
 PS.weak (IY (he tm) (Uu (cM hN hv hd fW) (hi tm) set_list ha) hs hw h1) λD σ H #[ρ,O,d,I,q,F]=>by
  unfold Sv at q;split at q
  rename_i ts e0
  let(l,h1,h2,xs,h3,h4):=I.root e0;have ha:l∈av Z O:=hY _ (aH.mpr (fL h1));refine#[ρ,O,_,I,q,λt ht v H1 s1 a1=>#[.ref l,h2,ρ,O,_,I.same s1,ht,λj hj w H2 s2 a2=>?_]];split at hj;let(n,e1,hj):=hj;exact#[l,xs,_,n,9,a2.int,s2 _ _ (s1 _ _ h3),by rw[h4.length];exact e1,F.nx O _ σ _ (((I.same s1).same s2).wrote (t':=.lst (ts.set n t)) e0 h1 #[xs.set n v,aK,aD.wrote ha (s2 _ _ (s1 _ _ h3)) 9 (((h4.same s1).same s2).set n (a1.same s2))]) hj];exact hj.elim;exact q.elim
def aB.give{tm:List (T×V)}{ρ:En}(I:aB K Z tm O ρ σ H){t:T}(hp:aY Z i)(hi:ρ[i]?\some (t,true)):∃a,σ[i]?\some (.ref a)/\iI K Z tm (O.set i none) (ρ.set i none) σ H (.fr t) (.ref a):=by
 let(a,h1,h2,h3):=I.root hi;have ha:=aH.mpr (fL h1);let(o1,o2,o3):=I.own a ha;have J:=I.forget hp;have J2:=I.k7 hp hi;have na:a∉roots (O.set i none):=λz=>by
  let(o,s,g1,g2,g3,v,g4,g5):=J2.sl i (some (t,false)) (by rw[DE (by rw[<- I.lO];exact (c7.mp h1).1)]);rw[h2] at g2;cases g2;cases g4;have nn:a∉av Z (O.set i none):=by
   cases t with
   |lst ts=>
    simp only[At] at g5;let(b,vs,eb,l,_):=g5;cases eb;obtain l|⟨oo,_,_,lk,_⟩:=l
    exact l.2;exact λz2=>by
     have key:∀O i,O[i]?\some a->(roots O).Nodup->a∉roots (O.set i none):=by
      intro O;induction O with
      |nil=>intro i h;simp at h
      |cons o O ih=>
       intro i h nd;cases i with
       |zero=>
        have:o\a:=by simpa using h
        subst this;exact (qx.mp nd).1
       |succ i=>
        have h':O[i]?\some a:=by simpa using h
        cases o with
        |none=>simp only[roots,X7,tX,id] at nd ⊢;exact ih i h' nd
        |some b=>
         simp only[roots,X7,tX,id] at nd ⊢;rw[qx] at nd;intro z;rcases dQ.mp z with z|z
         exact nd.1 (by rw[<- z];exact aH.mpr (fL h'));exact ih i h' nd.2 z
     rcases fM.mp z2 with z2|z2
     exact key O i h1 I.nd z2;exact o2 z2
   |dk ks ts=>simp only[At] at g5;let(b,vs,eb,_,d,_):=g5;cases eb;exact d.2
   |dt ks ts=>simp only[At] at g5;let(b,vs,eb,_,d,_):=g5;cases eb;exact d.2
   |ins C ns ts=>simp only[At] at g5;let(b,dx,vs,eb,_,d,_):=g5;cases eb;exact d.2
   |_=>exact h3.elim
  exact nn (hY _ z)
 have hP:Z.H0 a=none:=by
  obtain z|z:=o1
  let(p,hpm,rfl):=k6.mp z;have:=J.par p hpm;exact absurd (aH.mpr (fL this)) na;exact z
 have sub:∀b∈av (Z.ex a) (O.set i none),b∈av Z O:=λb hb=>by
  rcases dG b hb with z|z
  exact cu i b z;rw[z];exact hY _ ha
 refine#[a,h2,a,9,#[J.lσ,J.lO,λj e h=>?_,J.nd,λb hb=>?_,J.par,λb hb=>?_,J.keep,λp hp=>(I.lj p hp).bC sub],h3.bC sub,hP,o2];rcases get_set h with⟨rfl,rfl,hl⟩|⟨ne,h⟩
 let(o,s,g1,g2,g3):=J.sl j none (by rw[DE hl]);exact#[o,s,g1,g2,g3];let(o,s,g1,g2,g3):=I.sl j e h;exact#[o,s,by rw[uO (Ne.symm ne)];exact g1,g2,g3.map (λ_ _ q=>q.bC sub) λ_ _ _ q=>q.bC sub];let(q1,q2,q3):=J.own b hb;refine#[q1,λz=>?_,q3];rcases dQ.mp z with z|z
 exact na (by rw[<- z];exact hb);exact q2 z;rcases dQ.mp hb with z|z
 let(u,eu,_):=o3;rw[z,eu];simp;exact I.ox b z
def Sw(i:Nat):FX:=λρ Q=>match ρ[i]? with
 |some (some (t,true))=>Q (ρ.set i none) (.fr t)
 |some (some (t,false))=>Q ρ (.vw t)
 |_=>False
def eF(i:Nat)(hp:aY Z i)(hN:X.N[i]?\x:=by rfl)(hv:nJ X.env.scope x:=by exact jvv 9)(hd:gG x:=by decide)(fW:tQ x:=by decide):VX X Z (.Name x pos) (Sw i):=.mk λtm=>PE.weak (cM hN hv hd fW) λσ H Q #[ρ,O,q,I,hf,k]=>by
 unfold Sw at hf;split at hf
 rename_i t e
 let(a,h1,h2):=I.give hp e;exact#[_,h1,k _ _ hf _ _ H h2]
 rename_i t e
 let(o,s,h1,h2,rfl,v,rfl,h3):=I.sl i _ e;exact#[v,h2,k _ _ hf O v H #[I,h3]];exact hf.elim
end
def aB.pQ{Z:Zc}{tm Yl:List (T×V)}{ρ:En}(I:aB K Z tm O ρ σ H)(h:∀p∈Yl,At K H (av Z O) p.1 p.2):aB K Z Yl O ρ σ H :=
 #[I.lσ,I.lO,I.sl,I.nd,I.own,I.par,I.ox,I.keep,h]
def iI.pQ{Z:Zc}{bu tm:List (T×V)}{ρ:En}{r:Rt}(h:iI K Z (bu++tm) O ρ σ H r v):iI K Z tm O ρ σ H r v:=by
 cases r with
 |vw t=>exact#[h.1.pQ λp hp=>h.1.lj p (jZ _ hp),h.2]
 |fr t=>let(a,e,I,q):=h;exact#[a,e,I.pQ λp hp=>I.lj p (jZ _ hp),q]
def Wk(K:qaf)(J:It)(bu:List (T×V))(ts:List T):Prop:=∀H A,(∀a∈A,H a≠none)->(∀p∈bu,At K H A p.1 p.2)->∀i:Nat,
 (i<ts.length->J.go i H)/\(ts.length=i->J.stop i H)/\∀t,ts[i]?\t->∀x H',J.Yd i H x H'->aW H H'/\At K H' A t x
abbrev FI:=En->(List T->Prop)->Prop
def lI(X:Cx)(Z:Zc)(tm:List (T×V))(f:FI):TI:=λσ H R=>E3 λρ O q=>aB X.K Z tm O ρ σ H/\f ρ q/\∀ts,q ts->∀J H' bu,aW H H'->(∀p∈bu,At X.K H' (av Z O) p.1 p.2)->Wk X.K J bu ts->R J H'
def VI(X:Cx)(Z:Zc)(tg iter:Expr)(f:FI):Prop:=Bx λtm=>PI X tg iter (lI X Z tm f)
instance{X:Cx}{Z:Zc}{tg iter:Expr}{f:FI}:CoeFun (VI X Z tg iter f) λ_=>∀tm,PI X tg iter (lI X Z tm f):=#[λh=>Bx.h h]
def PI.weak{tg:Expr}{t t':TI}(h:PI X tg e t)(hw:∀σ H R,t' σ H R->t σ H R):PI X tg e t':=λε s σ H R I q=>h ε s σ H R I (hw _ _ _ q)
def PG.weak{tg:Expr}{t t':TG}(h:PG X tg t)(hw:∀v σ H Q,t' v σ H Q->t v σ H Q):PG X tg t':=λε s σ H v u Q I r q=>h ε s σ H v u Q I r (hw _ _ _ _ q)
def IV.weak{tg:qap}{t t':Oj}(h:IV X tg t)(hw:∀v σ H Q,t' v σ H Q->t v σ H Q):IV X tg t':=λε s σ H v u Q I r q=>h ε s σ H v u Q I r (hw _ _ _ _ q)
def afI(K:qaf)(tl:TE):TI:=λσ H R=>tl σ H λx H1=>(∃a,x=.ref a/\(∃xs,f_ K H1 a xs)/\R (Itl K a) H1)\/(∃a,x=.ref a/\(∃xs,e_ K H1 a xs)/\R (Itt K a) H1)\/∃z,x=.str z/\R (Its z) H1
section
variable{Z:Zc}{tg:Expr}
def JI{l:Expr}{tl:TE}(hl:PE X l tl):PI X tg l (afI X.K tl):=by
 intro ε s σ H R I h;refine cT (hl ε s σ H _ I h) λv s1 #[x,H1,I1,r1,q1]=>?_;obtain⟨a,e,hq,q⟩|⟨a,e,hq,q⟩|⟨z,e,q⟩:=q1
 subst e;cases r1;let(xs,hq):=hq;let(aR,rv,p,hz):=I1.list hq;refine aay p.isList #[s1.heap.objs.size,[s1.heap.objs.size],_,_,H1,9,I1.kept λb o e=>dF _ e,FV a _,#[_,gQ _ 9,9,9],λb hb=>?_,q];have e:b=s1.heap.objs.size:=by simpa using hb
 subst e;exact I1.qB (cL _) (I1.bZ.fresh (cL _));subst e;cases r1;let(xs,hq):=hq;let(aR,rv,p,hz):=I1.tuple hq;refine wpAny_pyIter_tuple (show s1.heap.IsTuple a aR.toArray from p) #[s1.heap.objs.size,[s1.heap.objs.size],_,_,H1,9,I1.kept λb o e=>dF _ e,BB a _,#[_,gQ _ 9,9,9],λb hb=>?_,q];have e:b=s1.heap.objs.size:=by simpa using hb
 subst e;exact I1.qB (cL _) (I1.bZ.fresh (cL _));subst e;let(t,rfl):=r1;refine wpAny_pyIter_strU ?_;have I2:Inv X ε σ H1 {s1 with heap:=s1.heap.push {cls:=.type (strIterType z),data:=.fields ([.str z t,.int 0 0].toArray)} }:=I1.kept λb o e=>dF _ e;refine#[s1.heap.objs.size,[s1.heap.objs.size],_,_,H1,9,I2,Jr z t _,#[_,gQ _ 9,9,9],λb hb=>?_,q];have e:b=s1.heap.objs.size:=by simpa using hb
 subst e;exact I1.qB (cL _) I1.fresh
def afJ(f:FE):FI:=λρ Q=>f ρ λt=>match t with
 |.lst ts=>Q ts
 |.tup ts=>Q ts
 |.str z=>Q (z.cps.toList.map λc=>.str #[([c].toArray)])
 |_=>False
theorem D4{ts:List T}:Wk K (Itl K a) [(.lst ts,.ref a)] ts:=λH A hA h i=>by have h:=h _ iz;let(b,vs,e,l,q):=h;cases e;have hl:=q.length;refine#[λhi=>#[vs,vs[i]'(),l.sq,by simp],λhi=>#[vs,l.sq,()],λt ht x H' y=>?_];let(rfl,y):=y;let(v,e1,e2):=q.get ht;have:=y vs l.sq;rw[e1] at this;cases this;exact#[aW.refl _,e2]
theorem Vi{ts:List T}:Wk K (Itt K a) [(.tup ts,.ref a)] ts:=λH A hA h i=>by have h:=h _ iz;let(b,vs,e,l,q):=h;cases e;have hl:=q.length;refine#[λhi=>#[vs,vs[i]'(),l,by simp],λhi=>#[vs,l,()],λt ht x H' y=>?_];let(rfl,y):=y;let(v,e1,e2):=q.get ht;have:=y vs l;rw[e1] at this;cases this;exact#[aW.refl _,e2]
def Vj{z:Str}:Wk K (Its z) [] (z.cps.toList.map λc=>T.str #[([c].toArray)]):=λH A hA h i=>by refine#[λhi=>by rw[bS,FH] at hi;exact hi,λhi=>by rw[bS,FH] at hi;exact Yb hi,λt ht x H' y=>?_];let(rfl,c,hc,rfl):=y;rw[fU,DF,hc] at ht;cases ht;exact#[aW.refl _,cO]
def eG{l:Expr}{f:FE}(h:VE X Z l f):VI X Z tg l (afJ f):=.mk λtm=>PI.weak (JI (h tm)) λσ H R #[ρ,O,q,I,hf,k]=>#[ρ,O,_,I,hf,λt ht v H' s a=>by split at ht;have a0:=a;let(p,vs,rfl,l,_):=a;exact .inl #[p,9,#[vs,l.sq],k _ ht _ H' _ s (λp hp=>by rw[fE.mp hp];exact a0) D4];have a0:=a;let(p,vs,rfl,l,_):=a;exact .inr (.inl #[p,9,#[vs,l],k _ ht _ H' _ s (λp hp=>by rw[fE.mp hp];exact a0) Vi]);have e:=a;exact .inr (.inr #[_,e,k _ ht _ H' [] s (λp hp=>nomatch hp) Vj]);exact ht.elim]
def rangeT(lo:Int)(n:Nat):List T:=(List.range n).map λi=>T.int (lo+((i:Nat):Int))
theorem JJ{lo:Int}:Wk K (Itr lo n) [] (rangeT lo n):=λH A hA h i=>by
 unfold rangeT;refine#[λhi=>by rw[bS,pJ] at hi;exact hi,λhi=>by rw[bS,pJ] at hi;exact Yb hi,λt ht x H' y=>?_];let(rfl,rfl):=y;rw[fU] at ht;cases e:(List.range n)[i]? with
 |none=>rw[e] at ht;cases ht
 |some j=>
  rw[e] at ht;have hj:j=i:=by have:=c7.mp e;let(h1,h2):=this;simpa using h2.symm
  subst hj;cases ht;exact#[aW.refl _,bw]
def pR1(ts:List T)(Q:List T->Prop):Prop:=match ts with
 |[.int j]=>-(2 ^ 62)<=j/\j<2 ^ 62/\Q (rangeT 0 j.toNat)
 |_=>False
def Vk(g:FA)(p:List T->(List T->Prop)->Prop):FI:=λρ Q=>g ρ λts=>p ts Q
def cX{a:Expr}{g:FE}{pos:Pos}(hg:Gl X "range")(hm:X.mg "range"=none)(ha:VR X Z a g)(hs:starEach [a] X.env=[(false,eval a X.env)]:=by rfl) :
  VI X Z tg (.Call (.Name "range" p) [a] [] pos) (Vk (gj g ui) pR1):=.mk λtm=>PI.weak (FW hg hm ((aO ha aX hs) tm) hs) λσ H R #[ρ,O,q,I,hf,k]=>#[ρ,O,_,I,hf,λts hX vs H' s a=>by
 unfold pR1 at hX;split at hX;let(v,rfl,a1):=dH a;exact#[_,by rw[a1.int],hX.1,hX.2.1,k _ hX.2.2 _ H' [] s (λp hp=>nomatch hp) JJ];exact hX.elim]
abbrev FG:=T->En->(En->Prop)->Prop
abbrev Pp:=List T->En->(En->Prop)->Prop
def lG(X:Cx)(Z:Zc)(tm:List (T×V))(is:qao)(h:FG):TG:=λv σ H Q=>E4 λρ O t q=>aB X.K Z tm O ρ σ H/\At X.K H (av Z O) t v/\h t ρ q/\∀ρ',q ρ'->∀O' σ',aB X.K Z tm O' ρ' σ' H->(∀a∈roots O',a∈roots O)->(∀(j:Nat),j∉is->O'[j]?=O[j]?)->σ'.length=σ.length->(∀(j:Nat),j∉is->σ'[j]?=σ[j]?)->Q σ' H
def lGs(X:Cx)(Z:Zc)(tm:List (T×V))(is:qao)(h:Pp):Oj:=λvs σ H Q=>E4 λρ O ts q=>aB X.K Z tm O ρ σ H/\aD X.K H (av Z O) ts vs/\h ts ρ q/\∀ρ',q ρ'->∀O' σ',aB X.K Z tm O' ρ' σ' H->(∀a∈roots O',a∈roots O)->(∀(j:Nat),j∉is->O'[j]?=O[j]?)->σ'.length=σ.length->(∀(j:Nat),j∉is->σ'[j]?=σ[j]?)->Q σ' H
def VG(X:Cx)(Z:Zc)(tg:Expr)(is:qao)(h:FG):Prop:=Bx λtm=>PG X tg (lG X Z tm is h)
instance{X:Cx}{Z:Zc}{tg:Expr}{is:qao}{h:FG}:CoeFun (VG X Z tg is h) λ_=>∀tm,PG X tg (lG X Z tm is h):=#[λh=>Bx.h h]
def VGs(X:Cx)(Z:Zc)(tgs:qap)(is:qao)(h:Pp):Prop:=Bx λtm=>IV X tgs (lGs X Z tm is h)
instance{X:Cx}{Z:Zc}{tgs:qap}{is:qao}{h:Pp}:CoeFun (VGs X Z tgs is h) λ_=>∀tm,IV X tgs (lGs X Z tm is h):=#[λh=>Bx.h h]
def hName(i:Nat):FG:=λt ρ Q=>Q (ρ.set i (some (t,false)))
def aM{pos:Pos}(hN:X.N.Nodup)(hi:X.N[i]?\x)(hx:Loc X.env.scope x)(hp:aY Z i)(hf:X.fn x=true\/X.env.scope.names.lookup x\.local:=by first|exact .inl rfl|exact .inr rfl|assumption) :
  VG X Z (.Name x pos) [i] (hName i):=.mk λtm=>PG.weak (Ol hN hi hx hf) λv σ H Q #[ρ,O,t,q,I,a,h,k] =>
 k _ h _ _ (I.put hp a) (cq i) (λj hj=>uO (λe=>hj (by simp[e]))) 6 λj hj=>uO (λe=>hj (by simp[e]))
def afK:Pp:=λts ρ Q=>ts=[]/\Q ρ
def Sx(h:FG)(hs:Pp):Pp:=λts ρ Q=>match ts with
 |t::r=>h t ρ λρ'=>hs r ρ' Q
 |[]=>False
def acZ(n:Nat)(h:Pp):FG:=λt ρ Q=>match t with
 |.tup ts=>ts.length=n/\h ts ρ Q
 |_=>False
def dI:VGs X Z [] [] afK:=.mk λtm=>IV.weak Om λvs σ H Q #[ρ,O,ts,q,I,a,h,k]=>by
 let(rfl,h):=h;have e:vs=[]:=by simpa only[aD] using a
 exact#[e,k _ h O σ I (λ_ z=>z) (λ_ _=>rfl) 9 λ_ _=>rfl]
def bq{is js:qao}{h:FG}{hs:Pp}(h1:VG X Z e is h)(h2:VGs X Z es js hs)(hse:(assignEach (e::es) X.env).map (·.2)=assign e X.env::(assignEach es X.env).map (·.2):=by rfl):VGs X Z (e::es) (is++js) (Sx h hs):=.mk λtm=>IV.weak (IX (h1 tm) (h2 tm) hse) λvs σ H Q #[ρ,O,ts,q,I,a,hh,k]=>by
 unfold Sx at hh;split at hh;simp only[aD] at a;let(v,r,rfl,a1,a2):=a;refine#[v,r,9,ρ,O,_,_,I,a1,hh,λρ' hρ O' σ' I' ro eo l e=>#[ρ',O',_,q,I',a2.bC λb hb=>?_,hρ,λρ2 h2 O2 σ2 I2 ro2 eo2 l2 e2=>k ρ2 h2 O2 σ2 I2 (λa z=>ro a (ro2 a z)) (λj hj=>?_) (l2.trans l) λj hj=>?_]];rcases fM.mp hb with z|z
 exact hY _ (ro b z);exact jZ _ z;rw[fM,not_or] at hj;exact (eo2 j hj.2).trans (eo j hj.1);rw[fM,not_or] at hj;exact (e2 j hj.2).trans (e j hj.1);exact hh.elim
def ff{k:Nat}{is:qao}{h:Pp}{pos:Pos}(hc:X.calm=true)(hh:VGs X Z es is h)(hn:(assignEach es X.env).length=n:=by rfl)(yL:(assignEach es X.env).findIdx? (·.1)=none:=by rfl):VG X Z (.Tuple es k pos) is (acZ n h):=.mk λtm=>PG.weak (Ut hc (hh tm) hn yL) λv σ H Q #[ρ,O,t,q,I,a,h',kk]=>by unfold acZ at h';split at h';simp only[At] at a;let(p,vs,rfl,s,a):=a;exact#[p,vs,9,s,a.length.trans h'.1,ρ,O,_,q,I,a,h'.2,kk];exact h'.elim
def afL(f:FE)(h:FG):FS:=λd ρ=>f ρ λt=>h t ρ d.nx
def Vl{tg:Expr}{f:FE}{is:qao}{h:FG}{pos:Pos}(he:VE X Z e f)(hg:VG X Z tg is h)(hs:swapsWithSole [tg] e pos.line X.env=pure false:=by rfl)(hw:swappedStores [tg] e X.env=pure none:=by rfl)(h1:(assignEach [tg] X.env).map (·.2)=[assign tg X.env]:=by rfl):VS X Z (.Assign [tg] e pos) (afL f h):=.mk λtm=>PS.weak (IY (he tm) (hg tm) hs hw h1) λD σ H #[ρ,O,d,I,q,F] =>
 #[ρ,O,_,I,q,λt ht v H' s a=>#[ρ,O,t,_,I.same s,a,ht,λρ' hρ O' σ' I' _ _ _ _=>F.nx O' ρ' σ' H' I' hρ]]
def oX(ts:List T)(h:FG)(g:FS):FS:=λd ρ=>∃Pv:Nat->En->Prop,Pv 0 ρ/\(∀(i:Nat) t ρ',ts[i]?\t->Pv i ρ'->h t ρ' λρ2=>g {nx:=Pv (i+1),ct:=Pv (i+1),bk:=d.nx,rt:=d.rt} ρ2)/\∀ρ',Pv ts.length ρ'->d.nx ρ'
def afM(f:FI)(h:FG)(g:FS):FS:=λd ρ=>f ρ λts=>oX ts h g d ρ
theorem cQ{body:qaq}{f:FI}{is:qao}{h:FG}{g:FS}{pos:Pos}(hp:PassesOwn (model X.prog X.w) X.A X.env X.xe)(hc:X.calm=true)(hi:VI X Z tg iter f)(hg:VG X Z tg is h)(hb:ku X Z body g)(hs:∀x,foldedSetIterable iter X.env x=pure x:=by intro _;rfl):VS X Z (.For tg iter body [] pos) (afM f h g):=by
 refine .mk λtm ε s σ H D I0 hw=>?_;let(ρ,O,d,I,q,F):=hw;refine BD (g:=λv σ H Q=>∃bu,lG X Z (bu++tm) is h v σ H Q) (tb:=λD σ H=>∃bu,lS X Z (bu++tm) g D σ H) hp hc (hi tm) (λε s σ H v u Q I r #[bu,z]=>hg (bu++tm) ε s σ H v u Q I r z) (λε s σ H D I #[bu,z]=>hb (bu++tm) ε s σ H D I z) hs ε s σ H D I0 #[ρ,O,_,I,q,λts hX J H' bu s a wk=>?_];let(Pv,p0,step,fin):=hX;have J0:=(I.same s).pQ λp hp=>by
  rcases fM.mp hp with z|z
  exact a p z;exact (I.same s).lj p z
 refine#[λi m σ H=>m=ts.length-i/\i<=ts.length/\E2 λρ O=>aB X.K Z (bu++tm) O ρ σ H/\Pv i ρ,#[ts.length,by simp,fB _,ρ,O,J0,p0],?_];rintro i m σ1 H1 ⟨rfl,hi,ρ1,O1,I1,p1⟩;let(w1,w2,w3):=wk H1 (av Z O1) I1.O0 (λp hp=>I1.lj p (hY _ hp)) i;have un:∀{O:HD}{ρ:En}{σ:St}{H:Hp},aB X.K Z (bu++tm) O ρ σ H->aB X.K Z tm O ρ σ H:=λI=>I.pQ λp hp=>I.lj p (jZ _ hp);by_cases di:i<ts.length;refine .inr #[w1 di,λσ' H'=>E2 λρ O=>aB X.K Z (bu++tm) O ρ σ' H'/\Pv (i+1) ρ,λσ' H' #[ρ',O',I',p']=>#[ts.length-(i+1),(),9,di,ρ',O',I',p'],λx H2 y=>?_];have e:ts[i]?\ts[i]:=by simp[di]
 let(s2,a2):=w3 ts[i] e x H2 y;exact#[bu,ρ1,O1,ts[i],_,I1.same s2,a2,step i _ ρ1 e p1,λρ2 h2 O2 σ2 I2 _ _ _ _=>#[bu,ρ2,O2,_,I2,h2,#[λO ρ σ H I p=>#[ρ,O,I,p],λO ρ σ H r v z p=>F.rt O ρ σ H r v z.pQ p,λO ρ σ H I p=>F.nx O ρ σ H (un I) p,λO ρ σ H I p=>#[ρ,O,I,p]]]];have e:i=ts.length:=by lia
 subst e;exact .inl #[w2 (9),F.nx O1 ρ1 σ1 H1 (un I1) (fin ρ1 p1)]
def Vm(c:FB)(g:FS):FS:=λd ρ=>∃(Pv:Nat->En->Prop),(∃m,Pv m ρ)/\∀m ρ',Pv m ρ'->c ρ' λb=>if b=true then g {nx:=λρ2=>∃m',m'<m/\Pv m' ρ2,ct:=λρ2=>∃m',m'<m/\Pv m' ρ2,bk:=d.nx,rt:=d.rt} ρ' else d.nx ρ'
theorem qT{body:qaq}{fc:FB}{g:FS}{pos:Pos}(hp:PassesOwn (model X.prog X.w) X.A X.env X.xe)(hc:VC X Z c fc)(hb:ku X Z body g):VS X Z (.While c body [] pos) (Vm fc g):=.mk λtm=>PS.weak (yM hp (hc tm) (hb tm)) λD σ H #[ρ,O,d,I,q,F]=>by
 let(Pv,(m0,p0),step):=q;refine#[λm σ H=>E2 λρ O=>aB X.K Z tm O ρ σ H/\Pv m ρ,#[m0,ρ,O,I,p0],?_];rintro m σ1 H1 ⟨ρ1,O1,I1,p1⟩;refine#[ρ1,O1,_,I1,step m ρ1 p1,λb hb H2 s2=>?_];cases b with
 |true=>exact#[λσ' H'=>∃m',m'<m/\E2 λρ O=>aB X.K Z tm O ρ σ' H'/\Pv m' ρ,λσ' H' z=>z,ρ1,O1,_,I1.same s2,hb,#[λO ρ σ H I #[m',hm,p]=>#[m',hm,ρ,O,I,p],F.rt,F.nx,λO ρ σ H I #[m',hm,p]=>#[m',hm,ρ,O,I,p]]]
 |false=>exact F.nx O1 ρ1 σ1 H2 (I1.same s2) hb
end
def fj(O:HD)(n:Nat):roots (O++List.replicate n none)=roots O:=by
 unfold roots;rw[List.filterMap_append];have:(List.replicate n (none:qar)).filterMap id=[]:=by
  induction n with
  |zero=>rfl
  |succ n ih=>rw[Ic,tX];exact ih
 rw[this,Ie]
def aB.longer{Z:Zc}{tm:List (T×V)}{ρ:En}(I:aB K Z tm O ρ σ H)(n:Nat){τ:St}(hτ:τ.length=n) :
  aB K Z tm (O++List.replicate n none) (ρ++List.replicate n none) (σ++τ) H:=by
 have ea:av Z (O++List.replicate n none)=av Z O:=by unfold av;rw[fj]
 refine#[by simp[I.lσ,hτ],by simp[I.lO],λi e h=>?_,by rw[fj];exact I.nd,λa h=>I.own a (by rw[fj] at h;exact h),λp hp=>?_,I.ox,I.keep,λp hp=>by rw[ea];exact I.lj p hp];rw[ea];by_cases hi:i<ρ.length;rw[pI hi] at h;let(o,s,h1,h2,h3):=I.sl i e h;exact#[o,s,by rw[pI (by rw[I.lO];exact hi)];exact h1,by rw[pI (by rw[I.lσ];exact hi)];exact h2,h3];rw[uN (),Ib] at h;split at h
 rename_i hl
 cases h;refine#[none,τ[i-σ.length]'(by rw[I.lσ,hτ];exact hl),?_,?_,9];rw[uN (by rw[I.lO];lia),Ib,ι (by rw[I.lO];exact hl)];rw[uN (by rw[I.lσ];lia)];simp;cases h;have:=I.par p hp;have hl:=(c7.mp this).1;rw[pI hl];exact this
def aB.Vn{Z:Zc}{tm:List (T×V)}{ρ:En}{u o:HO}(I:aB K (Z.ex a) tm O ρ σ H)(hu:H a\u)(hm:pP u=true)(h0:Z.H0 a=none):aB K (Z.ex a) tm O ρ σ (upd H a o):=by
 have Iu:a∈av (Z.ex a) O:=jZ _ iz;have nr:∀b∈roots O,b≠a:=λb hb e=>(I.own b hb).2.1 (by rw[e];exact iz);refine#[I.lσ,I.lO,λi e h=>?_,I.nd,λb hb=>?_,I.par,λb hb=>?_,λb o' e n=>?_,λp hp=>(I.lj p hp).wrote Iu hu hm];let(o',s,h1,h2,h3):=I.sl i e h;refine#[o',s,h1,h2,h3.map (λ_ _ q=>q.wrote Iu hu hm) λb t e q=>?_];subst e;exact q.map (aG (nr b (aH.mpr (fL h1)))) λ_ _ z=>z.wrote Iu hu hm;let(q1,q2,v,e,m):=I.own b hb;exact#[q1,q2,v,by rw[aG (nr b hb)];exact e,m];by_cases e:b=a;subst e;rw[aK];simp;rw[aG e];exact I.ox b hb;have:b≠a:=λe'=>by subst e';have e2:Z.H0 b\o':=e;rw[h0] at e2;cases e2
 rw[aG this];exact I.keep b o' e n
def cU(h:FG)(fc:FB)(fe:FE)(ρ:En):List T->(List T->Prop)->Prop
 |[],Q=>Q []
 |t::ts,Q=>h t ρ λρ2=>fc ρ2 λb=>if b=true then fe ρ2 λu=>cU h fc fe ρ ts λus=>Q (u::us) else cU h fc fe ρ ts Q
def D5(n:Nat)(is:qao)(f:FI)(h:FG)(fc:FB)(fe:FE):FP:=λρ Q=>(is.all λj=>decide (ρ.length<=j))=true/\f ρ λts=>ts.length<=sizeLine/\cU h fc fe (ρ++List.replicate n none) ts λus=>Q (.fr (.lst us))
def Ym(X:Cx)(Z:Zc)(ifs:qap)(f:FB):Prop:=Bx λtm=>Jn X ifs (lB X Z tm f)
instance{X:Cx}{Z:Zc}{ifs:qap}{f:FB}:CoeFun (Ym X Z ifs f) λ_=>∀tm,Jn X ifs (lB X Z tm f):=#[λh=>Bx.h h]
def JK:FB:=λ_ Q=>Q true
def Jn.weak{e:qap}{t t':TT}(h:Jn X e t)(hw:∀σ H Q,t' σ H Q->t σ H Q):Jn X e t':=λε s σ H Q I q=>h ε s σ H Q I (hw _ _ _ q)
section
variable{Z:Zc}
def iL:Ym X Z [] JK:=.mk λtm=>Jn.weak OU λσ H Q #[ρ,O,q,I,h,k]=>k true h H (aW.refl H)
def j6{f:FB}(h:VC X Z c f):Ym X Z [c] f:=.mk λtm=>OW (h tm)
def cG(X:Cx)(Z:Zc)(tm:List (T×V))(is:qao)(h:FG):TG:=λv σ H Q=>E2 λD bu=>lG X (Z.ex D) (bu++tm) is h v σ H Q
def cB(X:Cx)(Z:Zc)(tm:List (T×V))(f:FB):TT:=λσ H Q=>E2 λD bu=>lB X (Z.ex D) (bu++tm) f σ H Q
def cE(X:Cx)(Z:Zc)(tm:List (T×V))(f:FE):TE:=λσ H Q=>E2 λD bu=>lE X (Z.ex D) (bu++tm) f σ H Q
theorem Vo{Z:Zc}{tm bu:List (T×V)}{ρ:En}{H1:Hp}{D:Addr}{J:It}{ts:List T}{h:FG}{fc:FB}{fe:FE}{is:qao}{q:Rt->Prop}{Q:VK}(X:Cx)(hK:X.K=K)(I:aB K Z (bu++tm) O ρ σ H1)(hD:H1 D=none)(wk:Wk K J bu ts)(hz:ts.length<=sizeLine)(his:∀j∈is,ρ.length<=j)(hw:cU h fc fe (ρ++List.replicate n none) ts λus=>q (.fr (.lst us)))(k:∀r,q r->∀v H',aW H1 H'->iI K Z tm O ρ σ H' r v->Q v H') :
  Jo J (cG X Z tm is h) (cB X Z tm fc) (cE X Z tm fe) n σ D (Q (.ref D)) H1:=by
 subst hK;let(n1,n2,n3):=I.fresh hD;refine#[λi m acc H2=>m=ts.length-i/\i<=ts.length/\aW H1 H2/\H2 D\.lst acc/\∃us,aD X.K H2 (av (Z.ex D) O) us acc/\acc.length<=i/\aB X.K (Z.ex D) (bu++tm) O ρ σ H2/\cU h fc fe (ρ++List.replicate n none) (ts.drop i) λr=>q (.fr (.lst (us++r))),
  #[ts.length,by simp,fB _,aI hD,aK,[],aD.nil,fB _,I.new hD 9,by simpa using hw],?_]
 rintro i m acc H2 ⟨rfl,hi,s2,hD2,us,a2,hl,I2,w2⟩;refine#[hD2,?_];let(w1,w2',w3):=wk H2 (av (Z.ex D) O) I2.O0 (λp hp=>I2.lj p (hY _ hp)) i;by_cases di:i<ts.length;refine .inr #[w1 di,(),λx H3 y=>?_];have e:ts[i]?\ts[i]:=by simp[di]
 let(s3,a3):=w3 ts[i] e x H3 y;rw[YH di] at w2;have I3:=(I2.same s3).longer n (τ:=List.replicate n none) 6;have ea:av (Z.ex D) (O++List.replicate n none)=av (Z.ex D) O:=by unfold av;rw[fj]
 refine#[D,bu,_,_,ts[i],_,I3,by rw[ea];exact a3,w2,λρ4 hρ4 O4 σ4 I4 ro4 eo4 l4 e4=>#[#[?_,λj v hj=>?_],D,bu,ρ4,O4,_,I4,hρ4,λb hb H5 s5=>?_]];rw[l4];simp;have hj':=(c7.mp hj).1;have:j∉is:=λz=>by have:=his j z;have:=I.lσ;lia
 rw[e4 j this,pI hj'];exact hj;have S5:=(s2.trans s3).trans s5;have J5:=(I2.same s3).same s5;cases b with
 |true=>
   refine ZJ #[D,bu,ρ4,O4,_,I4.same s5,hb,λu hu y H6 s6 a6=>?_];have hD6:=s6 _ _ (s5 _ _ (s3 _ _ hD2));refine#[hD6,ts.length-(i+1),(),9,di,λb o e=>?_,aK,us++[u],?_,by simp;lia,(J5.same s6).Vn hD6 9 n3,?_];rw[aG (bK e hD)];exact s6 _ _ (S5 _ _ e);have Iu:D∈av (Z.ex D) O:=jZ _ iz;have a6':At X.K H6 (av (Z.ex D) O) u y:=a6.bC λb hb=>by
    rcases fM.mp hb with z|z
    let(j,hj):=T4.mp (aH.mp z);have hj':=(c7.mp hj).1;have nj:j∉is:=λz=>by have:=his j z;have:=I.lO;lia
    have:=eo4 j nj;rw[pI hj',hj] at this;exact hY _ (aH.mpr (fL this));exact jZ _ z
   exact aD.wrote Iu hD6 9 ((((a2.same s3).same s5).same s6).append (aD.cons a6' aD.nil));have e2:∀r,(us++[u])++r=us++(u::r):=λr=>by simp
   simp only[e2];exact hu
 |false=>exact ZI #[ts.length-(i+1),(),9,di,S5,s5 _ _ (s3 _ _ hD2),us,(a2.same s3).same s5,(),J5,hb]
 have e:i=ts.length:=by lia
 subst e;refine .inl #[w2' (9),?_];rw[List.drop_length] at w2;simp only[cU,Ie] at w2;refine k _ w2 _ H2 s2 #[D,9,I2.pQ λp hp=>I2.lj p (jZ _ hp),#[acc,hD2,a2],n3,n2]
def D6{tm:List (T×V)}{is:qao}{f:FI}{h:FG}{fc:FB}{fe:FE}{Q:VK}(hq:lP X Z tm (D5 n is f h fc fe) σ H Q):Jq n (lI X Z tm f) (cG X Z tm is h) (cB X Z tm fc) (cE X Z tm fe) σ H Q:=by
 let(ρ,O,q,I,(his,hf),k):=hq;refine#[ρ,O,_,I,hf,λts hX J H' bu s a wk D hD=>?_];have I':=(I.same s).pQ λp hp=>by
  rcases fM.mp hp with z|z
  exact a p z;exact (I.same s).lj p z
 refine Vo X 9 I' hD wk hX.1 (λj hj=>?_) hX.2 λr hr v H2 s2 z=>k r hr v H2 (s.trans s2) z;have:=R3.mp his j hj;exact Θ this
variable{ts:χ}{elt tg:Expr}{ifs:qap}{pos:Pos}{f:FI}{h:FG}{fc:FB}{fe:FE}{is:qao}
def eI(hc:X.calm=true)(hS:k_ X.N ts X.env.scope sc=true)(hi:VI X Z tg iter f)(hg:∀D cl C fp s H,VG (bT X ts sc cl C fp s H) (Z.ex D) tg is h)(ht:∀D cl C fp s H,Ym (bT X ts sc cl C fp s H) (Z.ex D) ifs fc)(he:∀D cl C fp s H,VE (bT X ts sc cl C fp s H) (Z.ex D) elt fe)(hs:∀x,foldedSetIterable iter X.env x=pure x:=by intro _;rfl):VP X Z (.ListComp elt [#[tg,iter,ifs,0]] sc pos) (D5 ts.length is f h fc fe):=.mk λtm=>
 PE.weak (OX hc hS (hi tm) (λcl C fp s H ε s' σ H' v u Q I r #[D,bu,z]=>hg D cl C fp s H (bu++tm) ε s' σ H' v u Q I r z) (λcl C fp s H ε s' σ H' Q I #[D,bu,z]=>ht D cl C fp s H (bu++tm) ε s' σ H' Q I z)
  (λcl C fp s H ε s' σ H' Q I #[D,bu,z]=>he D cl C fp s H (bu++tm) ε s' σ H' Q I z) hs) λσ H Q hq=>D6 hq
def y4{y:Str}{py yY:Pos}(hN:X.N.Nodup)(hy:X.N[i]?\y)(hx:Loc X.env.scope y)(hc:X.calm=true)(hS:k_ X.N ts X.env.scope sc=true)(hi:VI X Z tg iter f)(hg:∀D cl C fp s H,VG (bT X ts sc cl C fp s H) (Z.ex D) tg is h)(ht:∀D cl C fp s H,Ym (bT X ts sc cl C fp s H) (Z.ex D) ifs fc)(he:∀D cl C fp s H,VE (bT X ts sc cl C fp s H) (Z.ex D) elt fe)(ZS:swapsWith (.ListComp elt [#[tg,iter,ifs,0]] sc pos) (some (.Name y py)) yY.line X.env=pure true)(hs:∀x,foldedSetIterable iter X.env x=pure x)(hf:X.fn y=true\/X.env.scope.names.lookup y\.local)(tm:List (T×V)) :
  PS X (.Assign [.Name y py] (.ListComp elt [#[tg,iter,ifs,0]] sc pos) yY) (Oo (lP X Z tm (D5 ts.length is f h fc fe)) (l9 i)) :=
 PS.weak (OY hN hy hx hc hS (hi tm) (λcl C fp s H ε s' σ H' v u Q I r #[D,bu,z]=>hg D cl C fp s H (bu++tm) ε s' σ H' v u Q I r z) (λcl C fp s H ε s' σ H' Q I #[D,bu,z]=>ht D cl C fp s H (bu++tm) ε s' σ H' Q I z)
  (λcl C fp s H ε s' σ H' Q I #[D,bu,z]=>he D cl C fp s H (bu++tm) ε s' σ H' Q I z) ZS hs hf) λD σ H hq=>D6 hq
def D7{y:Str}{py yY:Pos}(hN:X.N.Nodup)(hy:X.N[i]?\y)(hx:Loc X.env.scope y)(hc:X.calm=true)(hS:k_ X.N ts X.env.scope sc=true)(hi:VI X Z tg iter f)(hg:∀D cl C fp s H,VG (bT X ts sc cl C fp s H) (Z.ex D) tg is h)(ht:∀D cl C fp s H,Ym (bT X ts sc cl C fp s H) (Z.ex D) ifs fc)(he:∀D cl C fp s H,VE (bT X ts sc cl C fp s H) (Z.ex D) elt fe)(hp:aY Z i)(ZS:swapsWith (.ListComp elt [#[tg,iter,ifs,0]] sc pos) (some (.Name y py)) yY.line X.env=pure true:=by rfl)(hs:∀x,foldedSetIterable iter X.env x=pure x:=by intro _;rfl)(hf:X.fn y=true\/X.env.scope.names.lookup y\.local:=by first|exact .inl rfl|exact .inr rfl|assumption) :
  VS X Z (.Assign [.Name y py] (.ListComp elt [#[tg,iter,ifs,0]] sc pos) yY) (Z8 i (fX (D5 ts.length is f h fc fe))):=.mk λtm=>
 PS.weak (y4 hN hy hx hc hS hi hg ht he ZS hs hf tm) λD σ H #[ρ,O,d,I,q,F]=>#[ρ,O,_,I,q,λr hr v H' s z=>F.nx _ _ _ H' (z.env.put hp z.at) hr]
def ie{h:FG}{fc:FB}{fe:FE}{ρ:En}{ts:List T}{Q:List T->Prop}(p:T->Bool)(u:T->T)(step:∀t∈ts,∀k:List T->Prop,∀r:List T->Prop,(if p t=true then r [u t] else r [])->h t ρ λρ2=>fc ρ2 λb=>if b=true then fe ρ2 λx=>r [x] else r [])(hq:Q ((ts.filter p).map u)):cU h fc fe ρ ts Q:=by
 induction ts generalizing Q with
 |nil=>exact hq
 |cons t ts ih=>
  have st:=step t iz (λ_=>True) (λl=>match l with
   |[x]=>cU h fc fe ρ ts λus=>Q (x::us)
   |_=>cU h fc fe ρ ts Q)
  have rest:∀{Q':List T->Prop},Q' ((ts.filter p).map u)->cU h fc fe ρ ts Q':=λhq=>ih (λt ht=>step t (iB _ ht)) hq;refine st ?_;by_cases hp:p t=true;rw[ι hp];refine rest ?_;rw[YI hp] at hq;exact hq;rw[θ hp];refine rest ?_;rw[YJ hp] at hq;exact hq
end
def gm(K:qaf)(H:Hp)(A:qah):List Bool->qah->List T->qak->Prop
 |[],as,ts,vs=>as=[]/\ts=[]/\vs=[]
 |false::fs,as,ts,vs=>∃t j5 v lu,ts=t::j5/\vs=v::lu/\At K H A t v/\gm K H A fs as j5 lu
 |true::fs,as,ts,vs=>∃a u9 t j5 lu,as=a::u9/\ts=t::j5/\vs=.ref a::lu/\dq K H A a t/\gm K H A fs u9 j5 lu
def ac0(K:qaf)(H:Hp)(as Ox:qah)(H':Hp)(us:List T):Rt->V->Prop
 |.vw t,v=>At K H' (as++Ox) t v/\Paired (λa u=>dq K H' (as++Ox) a u) as us
 |.fr t,v=>∃b,v=.ref b/\H b=none/\b∉as/\dq K H' (b::(as++Ox)) b t/\Paired (λa u=>dq K H' (b::(as++Ox)) a u) as us
abbrev GT:=List T->(List T->Rt->Prop)->Prop
def B2(K:qaf)(fs:List Bool)(G:GT):Sp:=λvs H Q _=>E4 λts as Ox q=>as.Nodup/\(∀a∈as,a∉Ox)/\(∀a∈Ox,H a≠none)/\gm K H (as++Ox) fs as ts vs/\G ts q /\
 ∀us r,q us r->∀v H',(∀b o,H b\o->b∉as->H' b\o)->ac0 K H as Ox H' us r v->Q v H'
def ro:List Bool->qah->HD
 |[],_=>[]
 |false::fs,as=>none::ro fs as
 |true::fs,a::as=>some a::ro fs as
 |true::fs,[]=>none::ro fs []
def pz:List Bool->qah->Nat->List (Nat×Addr)
 |[],_,_=>[]
 |false::fs,as,k=>pz fs as (k+1)
 |true::fs,a::as,k=>(k,a)::pz fs as (k+1)
 |true::fs,[],k=>pz fs [] (k+1)
def wx:List Bool->List T->En
 |f::fs,t::ts=>some (t,f)::wx fs ts
 |_,_=>[]
def lz:List Bool->En->List T
 |[],_=>[]
 |false::fs,ρ=>lz fs ρ.tail
 |true::fs,some (t,_)::ρ=>t::lz fs ρ
 |true::fs,ρ=>.bY::lz fs ρ.tail
section
variable{A:qah}
theorem gp:∀{fs:List Bool}{as:qah}{ts:List T}{vs:qak},gm K H A fs as ts vs->ts.length=fs.length/\vs.length=fs.length/\(ro fs as).length=fs.length/\(wx fs ts).length=fs.length/\roots (ro fs as)=as
 |[],as,ts,vs,h=>by let(rfl,rfl,rfl):=h;exact#[9,9,9,9,9]
 |false::fs,as,ts,vs,h=>by let(t,j5,v,lu,rfl,rfl,_,h):=h;let(h1,h2,h3,h4,h5):=gp h;exact#[by simp[h1],by simp[h2],by simp[ro,h3],by simp[wx,h4],by simpa[ro,roots] using h5]
 |true::fs,as,ts,vs,h=>by let(a,u9,t,j5,lu,rfl,rfl,rfl,_,h):=h;let(h1,h2,h3,h4,h5):=gp h;refine#[by simp[h1],by simp[h2],by simp[ro,h3],by simp[wx,h4],?_];simp only[ro,roots,tX,id] at h5 ⊢;rw[h5]
theorem qU:∀{fs:List Bool}{as:qah}{ts:List T}{vs:qak},gm K H A fs as ts vs->∀(i:Nat) e,(wx fs ts)[i]?\e->∃o s,(ro fs as)[i]?\o/\(vs.map some)[i]?\s/\lh K H A e o s
 |[],as,ts,vs,h,i,e,he=>by simp[wx] at he
 |false::fs,as,ts,vs,h,i,e,he=>by
  let(t,j5,v,lu,rfl,rfl,a,h):=h;cases i with
  |zero=>simp only[wx,X0,Option.some.injEq] at he;subst he;exact#[none,some v,9,9,9,v,9,a]
  |succ i=>exact qU h i e (by simpa[wx] using he)
 |true::fs,as,ts,vs,h,i,e,he=>by
  let(a,u9,t,j5,lu,rfl,rfl,rfl,r,h):=h;cases i with
  |zero=>simp only[wx,X0,Option.some.injEq] at he;subst he;exact#[some a,some (.ref a),9,9,a,9,9,r]
  |succ i=>exact qU h i e (by simpa[wx] using he)
theorem nV:∀{fs:List Bool}{as:qah}{ts:List T}{vs:qak},gm K H A fs as ts vs->∀a∈as,∃t,dq K H A a t
 |[],as,ts,vs,h,a,ha=>by let(rfl,rfl,rfl):=h;cases ha
 |false::fs,as,ts,vs,h,a,ha=>by let(t,j5,v,lu,rfl,rfl,_,h):=h;exact nV h a ha
 |true::fs,as,ts,vs,h,a,ha=>by
  let(b,u9,t,j5,lu,rfl,rfl,rfl,r,h):=h;rcases dQ.mp ha with z|z
  subst z;exact#[t,r];exact nV h a z
theorem JM:∀{fs:List Bool}{as:qah}{ts:List T}{vs:qak}(k:Nat),gm K H A fs as ts vs->(pz fs as k).map (·.2)=as/\∀p∈pz fs as k,k<=p.1/\(ro fs as)[p.1-k]?\some p.2
 |[],as,ts,vs,k,h=>by let(rfl,rfl,rfl):=h;exact#[9,λ_ z=>nomatch z]
 |false::fs,as,ts,vs,k,h=>by
  let(t,j5,v,lu,rfl,rfl,_,h):=h;let(h1,h2):=JM (k+1) h;refine#[h1,λp hp=>?_];let(l,e):=h2 p hp;refine#[(),?_];have:p.1-k=(p.1-(k+1))+1:=by lia
  rw[this];simpa[ro] using e
 |true::fs,as,ts,vs,k,h=>by
  let(a,u9,t,j5,lu,rfl,rfl,rfl,_,h):=h;let(h1,h2):=JM (k+1) h;refine#[by simp[pz,h1],λp hp=>?_];rcases dQ.mp hp with z|z
  subst z;exact#[cL _,by simp[ro]];let(l,e):=h2 p z;refine#[(),?_];have:p.1-k=(p.1-(k+1))+1:=by lia
  rw[this];simpa[ro] using e
theorem wy{R:Addr->T->Prop}{ρ:En}:∀{fs:List Bool}{as:qah}{ts:List T}{vs:qak}(k:Nat),gm K H A fs as ts vs->(∀p∈pz fs as k,∃t,ρ[p.1]?\some (t,true)/\R p.2 t)->Paired R as (lz fs (ρ.drop k))
 |[],as,ts,vs,k,h,_=>by let(rfl,rfl,rfl):=h;exact .nil
 |false::fs,as,ts,vs,k,h,q=>by let(t,j5,v,lu,rfl,rfl,_,h):=h;have:=wy (k+1) h q;simp only[lz,List.tail_drop];exact this
 |true::fs,as,ts,vs,k,h,q=>by
  let(a,u9,t,j5,lu,rfl,rfl,rfl,_,h):=h;have:=wy (ρ:=ρ) (k+1) h λp hp=>q p (iB _ hp);let(u,e,r):=q (k,a) iz;have hk:=(c7.mp e).1;have e2:ρ[k]\(u,true):=by rw[eZ hk] at e;exact Option.some.inj e
  rw[YH hk,e2];exact .cons r this
end
theorem y7{N:χ}{fs:List Bool}{as Ox:qah}{ts:List T}{Q:VK}{q:List T->Rt->Prop}{g:FS}(nd:as.Nodup)(nx:∀a∈as,a∉Ox)(ox:∀a∈Ox,H a≠none)(ha:gm X.K H (as++Ox) fs as ts vs)(kk:∀us r,q us r->∀v H',(∀b o,H b\o->b∉as->H' b\o)->ac0 X.K H as Ox H' us r v->Q v H')(hq:g {nx:=λρ=>q (lz fs ρ) (.vw .bY),rt:=λρ r=>q (lz fs ρ) r} (wx fs ts++List.replicate (N.length-ts.length) none)) :
  lS X #[H,pz fs as 0,Ox] [] g {nx:=λ_ H'=>Q .bY H',rt:=Q} (start N vs) H:=by
 obtain⟨K,eK⟩:∃K,K=X.K:=#[_,9];unfold lS;rw[<- eK] at ha kk ⊢;let(l1,l2,l3,l4,l5):=gp ha;let(p1,p2):=JM 0 ha;have ea:av #[H,pz fs as 0,Ox] (ro fs as++List.replicate (N.length-ts.length) none)=as++Ox:=by unfold av;rw[fj,l5]
 have I0:aB K #[H,pz fs as 0,Ox] [] (ro fs as++List.replicate (N.length-ts.length) none) (wx fs ts++List.replicate (N.length-ts.length) none) (start N vs) H:=by
  refine#[?_,?_,λi e he=>?_,by rw[fj,l5];exact nd,λa h=>?_,λp hp=>?_,ox,λb o e _=>e,λp hp=>nomatch hp];unfold L2.start;simp[l2,l4,l1];simp[l3,l4];rw[ea];by_cases hi:i<fs.length;rw[pI (by rw[l4];exact hi)] at he;let(o,s,h1,h2,h3):=qU ha i e he;refine#[o,s,by rw[pI (by rw[l3];exact hi)];exact h1,?_,h3];unfold L2.start;rw[pI (by rw[bS,l2];exact hi)];exact h2;rw[List.getElem?_append_right (),Ib] at he;split at he
  rename_i hl
  cases he;refine#[none,none,?_,?_,9];rw[uN (),Ib,ι (by rw[l3];rw[l4] at hl;exact hl)];unfold L2.start;rw[uN (by rw[bS];lia),Ib,bS,ι (by rw[l2];rw[l4,l1] at hl;exact hl)];cases he;rw[fj,l5] at h;let(t,r):=nV ha a h;exact#[.inl (by rw[p1];exact h),nx a h,r.mut];let(_,e):=p2 p hp;rw[Nat.sub_zero] at e;rw[pI (c7.mp e).1];exact e
 have fin:∀{O:HD}{ρ:En}{σ:St}{H':Hp}{Z':Zc},Z'.P=pz fs as 0->aB K Z' [] O ρ σ H'->Paired (λa u=>dq K H' (av Z' O) a u) as (lz fs ρ):=λ{O ρ σ H' Z'} eP I=>by
  have:=wy (ρ:=ρ) (R:=λa u=>dq K H' (av Z' O) a u) 0 ha λp hp=>?_;rw[List.drop_zero] at this;exact this;have e:=I.par p (by rw[eP];exact hp);have hl:=(c7.mp e).1;have Oe:p.1<ρ.length:=by rw[<- I.lO];exact hl
  let(o,s',h1,h2,h3):=I.sl p.1 ρ[p.1] 6;rw[e] at h1;cases h1;cases q:ρ[p.1] with
  |none=>rw[q] at h3;cases h3
  |some tb=>
    let(t,b):=tb;rw[q] at h3;cases b with
    |false=>cases h3.1
    |true=>let(a',e1,_,r):=h3;cases e1;exact#[t,by rw[<- q];simp,r]
 have keep:∀{O:HD}{ρ:En}{σ:St}{H':Hp}{Z':Zc},Z'.H0=H->Z'.P=pz fs as 0->aB K Z' [] O ρ σ H'->∀b o,H b\o->b∉as->H' b\o:=λe0 eP I b o e n=>I.keep b o (by rw[e0];exact e) (by rw[eP,p1];exact n);have sub:∀{O:HD}{ρ:En}{σ:St}{H':Hp}{Z':Zc},Z'.P=pz fs as 0->aB K Z' [] O ρ σ H'->∀a∈as,a∈roots O:=λeP I a h=>by
  have:a∈(pz fs as 0).map (·.2):=by rw[p1];exact h
  let(p,hp,rfl):=k6.mp this;exact aH.mpr (fL (I.par p (by rw[eP];exact hp)))
 refine#[_,_,_,I0,hq,#[λO ρ σ H' I h=>?_,λO ρ σ H' r v z h=>?_,λ_ _ _ _ _ h=>h.elim,λ_ _ _ _ _ h=>h.elim]];have sb:∀a∈as++Ox,a∈av #[H,pz fs as 0,Ox] O:=λa h=>by
  rcases fM.mp h with h|h
  exact hY _ (sub 9 I a h);exact jZ _ h
 exact kk _ _ h .bY H' (keep 9 9 I) #[qM,Paired.pL (fin 9 I) λ_ _ q=>q.bC sb];cases r with
 |vw t=>
   let(I,a):=z;have sb:∀a∈as++Ox,a∈av #[H,pz fs as 0,Ox] O:=λa h=>by
    rcases fM.mp h with h|h
    exact hY _ (sub 9 I a h);exact jZ _ h
   exact kk _ _ h v H' (keep 9 9 I) #[a.bC sb,Paired.pL (fin 9 I) λ_ _ q=>q.bC sb]
 |fr t=>
   let(b,rfl,I,hR,h0,hx):=z;have sb:∀a∈b::(as++Ox),a∈av (Zc.ex #[H,pz fs as 0,Ox] b) O:=λa h=>by
    rcases dQ.mp h with h|h
    rw[h];exact jZ _ iz;rcases fM.mp h with h|h
    exact hY _ (sub 9 I a h);exact jZ _ (iB _ h)
   exact kk _ _ h (.ref b) H' (keep 9 9 I) #[b,9,h0,λhb=>(I.own b (sub 9 I b hb)).2.1 iz,hR.bC sb,Paired.pL (fin 9 I) λ_ _ q=>q.bC sb]
section
def fnV{st:Stmt}{N:χ}{k:Nat}{fs:List Bool}{G:GT}(F:Iq K x qual st f fd)(S:az N ps (ar st))(hfs:fs.length=ps.length)(fG:∀(bL:Value) (A:Around) (outer:List Env) (s:Shared) (H:Hp) (E:XK) (as Ox:qah),bG k (A.deeper (envOfC qual (ar st) 8 f bL))->∀ts q,ts.length=fs.length->G ts q ->
    ∃g,ku (h7 iA P w K mg base N qual (ar st) f bL A outer s H E).vV #[H,pz fs as 0,Ox] (bH st) g/\g {nx:=λρ=>q (lz fs ρ) (.vw .bY),rt:=λρ r=>q (lz fs ρ) r} (wx fs ts++List.replicate (N.length-ts.length) none)) :
  eD P w K mg base iA (k+1) f fd ps (B2 K fs G):=by
 refine F.ok S (λvs H Q E h=>?_) (λbL A outer s H vs Q E hr h=>?_);let(ts,as,Ox,q,_,_,_,ha,_):=h;rw[<- hfs];exact (gp ha).2.1;let(ts,as,Ox,q,nd,nx,ox,ha,hG,kk):=h;have l1:=(gp ha).1;let(g,hg,hq):=fG bL A outer s H E as Ox hr ts q l1 hG;exact#[_,hg [],y7 nd nx ox ha kk hq]
end
def bQ(K:qaf)(n:Nat)(G:List T->(Rt->Prop)->Prop):Sp:=B2 K (List.replicate n false) λts q=>G ts (q [])
section
variable{A:qah}
theorem iM:∀{n:Nat}{ts:List T}{vs:qak},ts.length=n->aD K H A ts vs->gm K H A (List.replicate n false) [] ts vs
 |0,ts,vs,l,h=>by have e:ts=[]:=NL.mp l;subst e;simp only[aD] at h;exact#[9,9,h]
 |n+1,ts,vs,l,h=>by
  cases ts with
  |nil=>simp at l
  |cons t ts=>simp only[aD] at h;let(v,r,rfl,h1,h2):=h;exact#[t,ts,v,r,9,9,h1,iM (by simpa using l) h2]
end
def aB.Sy{Z:Zc}{tm:List (T×V)}{ρ:En}(I:aB K Z tm O ρ σ H)(h:H a=none)(s:aW H H'){u:HO}(hu:H' a\u):aB K (Z.ex a) tm O ρ σ H':=by
 have J:=I.same s;let(n1,n2,n3):=I.fresh h;have mr:∀b∈av (Z.ex a) O,b∈av Z O\/H b=none:=λb hb=>(dG b hb).imp id λe=>by rw[e];exact h
 have fw:∀{t:T}{v:V},At K H (av Z O) t v->At K H' (av (Z.ex a) O) t v:=λq=>(q.more mr).same s;refine#[J.lσ,J.lO,λi e hi=>?_,J.nd,λb hb=>?_,J.par,λb hb=>?_,J.keep,λp hp=>fw (I.lj p hp)];let(o,w,h1,h2,h3):=I.sl i e hi;refine#[o,w,h1,h2,h3.map (λ_ _ q=>fw q) λb t eo q=>?_];exact dq.same (q.map 9 λ_ _ z=>z.more mr) s;let(q1,q2,q3):=J.own b hb;refine#[q1,λz=>?_,q3];rcases dQ.mp z with z|z
 exact n1 (by rw[<- z];exact hY _ hb);exact q2 z;rcases dQ.mp hb with z|z
 rw[z,hu];simp;exact J.ox b z
def qV(n:Nat)(g:FA)(G:List T->(Rt->Prop)->Prop):FP:=λρ Q=>g ρ λts=>ts.length=n/\G ts Q
section
variable{Z:Zc}{k:Nat}{G:List T->(Rt->Prop)->Prop}{pos:Pos}{g:FA}
def D8{tm:List (T×V)}{ρ:En}{ts:List T}{q:Rt->Prop}{Q:VK}(I:aB X.K Z tm O ρ σ H)(a:aD X.K H (av Z O) ts vs)(hn:ts.length=n)(hG:G ts q)(k:∀r,q r->∀v H',aW H H'->iI X.K Z tm O ρ σ H' r v->Q v H'):bQ X.K n G (vs++[]) H Q E0:=by
 rw[Ie];refine#[ts,[],av Z O,λ_ r=>q r,NS,λ_ z=>absurd z gR,I.O0,iM hn a,hG,λus r hr v H' fr z=>?_];have s:aW H H':=λb o e=>fr b o e gR;cases r with
 |vw t=>exact k _ hr v H' s #[I.same s,z.1]
 |fr t=>
  let(b,rfl,hb,_,hR,_):=z;let(n1,n2,n3):=I.fresh hb;let(u,eu,_):=hR.mut;refine k _ hr _ H' s #[b,9,I.Sy hb s eu,hR.bC λc hc=>?_,n3,n2];rcases dG c hc with z|z
  exact iB _ z;rw[z];exact iz
def dj(F:eD X.prog X.w X.K X.mg X.base iA k f fd ps (bQ X.K n G))(hr:bG k X.A)(hg:Gl X x)(hm:X.mg x\.ref f)(hk:W.keepIn X.K (.ref f)=true)(hb:Binds X.K fd ps [])(ha:VA X Z (e::es) g)(ua:gG x:=by decide)(he:starEach (e::es) X.env=(false,eval e X.env)::starEach es X.env:=by rfl)(j2:(backTo pos (starEach es X.env)).any (·.1)=false:=by rfl) :
  VP X Z (.Call (.Name x p) (e::es) [] pos) (qV n g G):=.mk λtm=>PE.weak (j1 F hr hg hm hk hb .nil oU (ha tm) ua he j2) λσ H Q #[ρ,O,q,I,hf,k] =>
 #[ρ,O,_,I,hf,λts hX vs H1 s1 a1=>D8 (I.same s1) a1 hX.1 hX.2 λr hr v H' s z=>k r hr v H' (s1.trans s) z]
end
def AM(K:qaf)(H:Hp)(A:qah)(O:HD)(ρ:En):List (Option Nat)->List T->qak->Prop
 |[],ts,vs=>ts=[]/\vs=[]
 |none::ms,ts,vs=>∃t j5 v lu,ts=t::j5/\vs=v::lu/\At K H A t v/\AM K H A O ρ ms j5 lu
 |some k::ms,ts,vs=>∃a t j5 lu,ts=t::j5/\vs=.ref a::lu/\ρ[k]?\some (t,true)/\O[k]?\some a/\AM K H A O ρ ms j5 lu
def lAM(X:Cx)(Z:Zc)(tm:List (T×V))(ms:List (Option Nat))(f:FA):TA:=λσ H Q=>E3 λρ O q=>aB X.K Z tm O ρ σ H/\f ρ q/\∀ts,q ts->∀vs H',aW H H'->AM X.K H' (av Z O) O ρ ms ts vs->Q vs H'
def Vp(X:Cx)(Z:Zc)(es:qap)(ms:List (Option Nat))(f:FA):Prop:=Bx λtm=>PA X es (lAM X Z tm ms f)
instance{X:Cx}{Z:Zc}{es:qap}{ms:List (Option Nat)}{f:FA}:CoeFun (Vp X Z es ms f) λ_=>∀tm,PA X es (lAM X Z tm ms f):=#[λh=>Bx.h h]
def JN(i:Nat):FE:=λρ Q=>match ρ[i]? with
 |some (some (t,true))=>Q t
 |_=>False
section
variable{Z:Zc}{g:FA}
def Pq:Vp X Z [] [] ui:=.mk λtm=>PA.weak cV λσ H Q #[ρ,O,q,I,hf,k]=>k _ hf [] H (aW.refl H) #[9,9]
def qW{ms:List (Option Nat)}{f:FE}(h:VE X Z e f)(h':Vp X Z es ms g)(hs:starEach (e::es) X.env=(false,eval e X.env)::starEach es X.env:=by rfl):Vp X Z (e::es) (none::ms) (gj f g) :=
 .mk λtm=>PA.weak (bD (h tm) (h' tm) hs) λσ H Q #[ρ,O,q,I,hf,k]=>#[ρ,O,_,I,hf,λt ht v H1 s1 a1=>#[ρ,O,_,I.same s1,ht,λts hX vs H2 s2 a2=>k _ hX _ H2 (s1.trans s2) #[t,ts,v,vs,9,9,a1.same s2,a2]]]
def D9(j:Nat){ms:List (Option Nat)}{y:Str}{py:Pos}(h':Vp X Z es ms g)(hN:X.N[j]?\y:=by rfl)(hv:nJ X.env.scope y:=by exact jvv 9)(hd:gG y:=by decide)(fW:tQ y:=by decide)(hs:starEach (.Name y py::es) X.env=(false,eval (.Name y py) X.env)::starEach es X.env:=by rfl):Vp X Z (.Name y py::es) (some j::ms) (gj (JN j) g) :=
 .mk λtm=>PA.weak (bD (cM hN hv hd fW) (h' tm) hs) λσ H Q #[ρ,O,q,I,hf,k]=>by
  have hf':JN j ρ λt=>g ρ λts=>q (t::ts):=hf;unfold JN at hf';split at hf'
  rename_i t e0
  let(a,h1,h2,h3):=I.root e0;exact#[.ref a,h2,ρ,O,_,I,hf',λts hX vs H2 s2 a2=>k _ hX _ H2 s2 #[a,t,ts,vs,9,9,e0,h1,a2]];exact hf'.elim
end
def putK:qao->List T->En->En
 |k::ks,u::us,ρ=>putK ks us (ρ.set k (some (u,true)))
 |_,_,ρ=>ρ
theorem qX:∀(ks:qao)(us:List T)(ρ:En),(putK ks us ρ).length=ρ.length
 |[],_,_=>rfl
 |_::_,[],_=>rfl
 |k::ks,u::us,ρ=>by rw[putK,qX];simp
theorem y8:∀{ks:qao}{us:List T}{ρ:En}{i:Nat}{e:Option (T×Bool)},ks.Nodup->ks.length=us.length->(putK ks us ρ)[i]?\e->(i∉ks/\ρ[i]?\e)\/∃(j:Nat)(u:T),ks[j]?\i/\us[j]?\u/\e\(u,true)
 |[],us,ρ,i,e,_,_,h=>.inl #[gR,h]
 |k::ks,[],ρ,i,e,_,l,h=>by simp at l
 |k::ks,u::us,ρ,i,e,nd,l,h=>by
  rw[qx] at nd;rcases y8 nd.2 (by simpa using l) (show (putK ks us (ρ.set k (some (u,true))))[i]?\e from h) with⟨h1,h2⟩|⟨j,u',h1,h2,h3⟩
  rcases get_set h2 with⟨rfl,rfl,_⟩|⟨ne,h2⟩
  exact .inr #[0,u,9,9,9];exact .inl #[λz=>by rcases dQ.mp z with z|z;exact ne z;exact h1 z,h2];exact .inr #[j+1,u',by simpa using h1,by simpa using h2,h3]
section
variable{A:qah}
def At.Vq{as:qah}{t:T}(fr:∀b o,H b\o->b∉as->H' b\o)(sub:∀a∈as,a∈A)(mu:∀a∈as,∃u,H a\u/\pP u=true)(h:At K H A t v):At K H' A t v:=by
 refine At.map (λb vs q=>?_) (λb vs q=>?_) (λb bj q=>?_) h;obtain q|q:=q
 refine .inl #[?_,q.2];have nb:b∉as:=λz=>q.2 (sub b z);obtain z|⟨o',z⟩:=q.1
 exact .inl (fr _ _ z nb);exact .inr #[o',fr _ _ z nb];exact .inr q;obtain z|z:=q
 refine .inl ?_;have nb:b∉as:=λm=>by
  let(u,eu,mu):=mu b m;obtain z|⟨o',z⟩:=z
  rw[z] at eu;cases eu;cases mu;rw[z] at eu;cases eu;cases mu
 obtain z|⟨o',z⟩:=z
 exact .inl (fr _ _ z nb);exact .inr #[o',fr _ _ z nb];exact .inr z;exact#[fr _ _ q.1 λz=>q.2 (sub b z),q.2]
theorem AM.args{A':qah}{O:HD}{ρ:En}(sub:∀a∈A',a∈A)(hr:∀(k:Nat) t,ρ[k]?\some (t,true)->∃a,O[k]?\some a/\dq K H A a t):∀{ms:List (Option Nat)}{ts:List T}{vs:qak},AM K H A O ρ ms ts vs ->
  ∃as,gm K H A' (ms.map Option.isSome) as ts vs/\Paired (λa k=>O[k]?\some a) as (ms.filterMap id)
 |[],ts,vs,h=>#[[],#[9,h.1,h.2],.nil]
 |none::ms,ts,vs,h=>by let(t,j5,v,lu,rfl,rfl,a,h):=h;let(as,h1,h2):=AM.args sub hr h;exact#[as,#[t,j5,v,lu,9,9,a.bC sub,h1],h2]
 |some k::ms,ts,vs,h=>by let(a,t,j5,lu,rfl,rfl,e0,e1,h):=h;let(as,h1,h2):=AM.args sub hr h;let(a',e2,r):=hr k t e0;rw[e1] at e2;cases e2;exact#[a::as,#[a,as,t,j5,lu,9,9,9,r.bC sub,h1],.cons e1 h2]
end
def Vr(ms:List (Option Nat))(g:FA)(G:GT):FX:=λρ Q=>g ρ λts=>G ts λus r=>Q (putK (ms.filterMap id) us ρ) r
section
variable{Z:Zc}{k:Nat}{fs:List Bool}{G:GT}{pos:Pos}{g:FA}{ms:List (Option Nat)}
theorem y9{tm:List (T×V)}{ρ:En}(I:aB K Z tm O ρ σ H)(h1:O[i]?\some a)(h2:O[j]?\some a):i=j:=by
 have key:∀(O:HD)(i j:Nat),i<j->O[i]?\some a->O[j]?\some a->(roots O).Nodup->False:=by
  intro O;induction O with
  |nil=>intro i j _ h;simp at h
  |cons o O ih=>
   intro i j hij e1 e2 nd;cases j with
   |zero=>lia
   |succ j=>
    have Ge:O[j]?\some a:=by simpa using e2
    cases i with
    |zero=>
     have:o\a:=by simpa using e1
     subst this;simp only[roots,tX,id] at nd;exact (qx.mp nd).1 (aH.mpr (fL Ge))
    |succ i=>
     refine ih i j () (by simpa using e1) Ge ?_;cases o with
     |none=>simpa[roots] using nd
     |some b=>simp only[roots,tX,id] at nd;exact (qx.mp nd).2
 rcases Nat.lt_trichotomy i j with l|l|l
 exact (key O i j l h1 h2 I.nd).elim;exact l;exact (key O j i l h2 h1 I.nd).elim
theorem gq{α β:Type}{F:α->β->Prop}:∀{l₁:List α}{l₂:List β}{a:α},Paired F l₁ l₂->a∈l₁->∃b∈l₂,F a b
 |_,_,_,.nil,h=>nomatch h
 |_,_,a,.cons r t,h=>by
  rcases dQ.mp h with z|z
  subst z;exact#[_,iz,r];let(b,h1,h2):=gq t z;exact#[b,iB _ h1,h2]
theorem qY{α β:Type}{F:α->β->Prop}:∀{l₁:List α}{l₂:List β}{i:Nat}{b:β},Paired F l₁ l₂->l₂[i]?\b->∃a,l₁[i]?\a/\F a b
 |_,_,_,_,.nil,e=>by simp at e
 |_,_,0,_,.cons r _,e=>by simp at e;subst e;exact#[_,9,r]
 |_,_,i+1,b,.cons _ t,e=>by let(a,h1,h2):=qY (i:=i) (b:=b) t (by simpa using e);exact#[a,by simpa using h1,h2]
theorem fJ{α β:Type}{F:α->β->Prop}:∀{l₁:List α}{l₂:List β}{i:Nat}{a:α},Paired F l₁ l₂->l₁[i]?\a->∃b,l₂[i]?\b/\F a b
 |_,_,_,_,.nil,e=>by simp at e
 |_,_,0,_,.cons r _,e=>by simp at e;subst e;exact#[_,9,r]
 |_,_,i+1,b,.cons _ t,e=>by let(a,h1,h2):=fJ (i:=i) (a:=b) t (by simpa using e);exact#[a,by simpa using h1,h2]
def aB.called{Z':Zc}{tm:List (T×V)}{ρ:En}{as:qah}{ks:qao}{us:List T}(I:aB K Z tm O ρ σ H)(hk:Paired (λa k=>O[k]?\some a) as ks)(nk:ks.Nodup)(fr:∀b o,H b\o->b∉as->H' b\o)(hu:Paired (λa u=>dq K H' (av Z' O) a u) as us)(hZ:Z'.H0=Z.H0)(hP:Z'.P=Z.P)(hox:∀a∈Z'.Ox,a∉roots O/\H' a≠none)(more:∀a∈av Z' O,a∈av Z O\/H a=none):aB K Z' tm O (putK ks us ρ) σ H':=by
 have B3:∀a∈as,a∈roots O:=λa h=>by let(k,_,e):=gq hk h;exact aH.mpr (fL e)
 have sub:∀a∈as,a∈av Z O:=λa h=>hY _ (B3 a h);have afN:∀a∈as,a∈av Z' O:=λa h=>hY _ (B3 a h);have mu:∀a∈as,∃u,H a\u/\pP u=true:=λa h=>(I.own a (B3 a h)).2.2;have fw:∀{t:T}{v:V},At K H (av Z O) t v->At K H' (av Z' O) t v:=λq=>(q.more more).Vq fr afN mu;have fwL:∀{t:List T}{v:qak},aD K H (av Z O) t v->aD K H' (av Z' O) t v:=λq=>aD.iff.mpr (Paired.pL (aD.iff.mp q) λ_ _ z=>fw z);refine#[by rw[qX];exact I.lσ,by rw[qX];exact I.lO,λi e h=>?_,I.nd,λb hb=>?_,by rw[hP];exact I.par,λa ha=>(hox a ha).2,λb o e n=>?_,λp hp=>fw (I.lj p hp)];rcases y8 nk (by rw[<- R5 hk,R5 hu]) h with⟨h1,h2⟩|⟨j,u,h1,h2,rfl⟩
 let(o,s,g1,g2,g3):=I.sl i e h2;refine#[o,s,g1,g2,g3.map (λ_ _ q=>fw q) λb t eo q=>?_];subst eo;have nb:b∉as:=λm=>by let(k,yz,wz):=gq hk m;exact h1 (by rw[y9 I g1 wz];exact yz)
 let(u,eu,_):=q.mut;exact q.map (by rw[eu];exact fr _ _ eu nb) λ_ _ z=>fwL z;let(a,ha,r):=qY hu h2;let(k,yz,wz):=fJ hk ha;rw[h1] at yz;cases yz;have hl:i<ρ.length:=by rw[<- I.lO];exact (c7.mp wz).1
 let(o,s,g1,g2,g3):=I.sl i ρ[i] 6;rw[wz] at g1;cases g1;refine#[some a,s,wz,g2,a,9,?_,r];cases q:ρ[i] with
 |none=>rw[q] at g3;cases g3
 |some tb=>
  let(t,b):=tb;rw[q] at g3;cases b with
  |false=>cases g3.1
  |true=>let(a',e1,e2,_):=g3;cases e1;exact e2
 let(q1,q2,v,e,m):=I.own b hb;refine#[by rw[hZ,hP];exact q1,λz=>(hox b z).1 hb,?_];by_cases hba:b∈as;let(j,hj):=T4.mp hba;let(u,_,r):=fJ hu hj;exact r.mut;exact#[v,fr _ _ e hba,m];rw[hZ] at e;rw[hP] at n;refine fr _ _ (I.keep b o e n) λm=>?_;rcases (I.own b (B3 b m)).1 with z|z
 exact n z;rw[z] at e;cases e
def JO(F:eD X.prog X.w X.K X.mg X.base iA k f fd ps (B2 X.K fs G))(hr:bG k X.A)(hg:Gl X x)(hm:X.mg x\.ref f)(hk:W.keepIn X.K (.ref f)=true)(hb:Binds X.K fd ps [])(ha:Vp X Z (e::es) ms g)(hfs:ms.map Option.isSome=fs:=by rfl)(Gi:(ms.filterMap id).Nodup:=by decide)(ua:gG x:=by decide)(he:starEach (e::es) X.env=(false,eval e X.env)::starEach es X.env:=by rfl)(j2:(backTo pos (starEach es X.env)).any (·.1)=false:=by rfl) :
  VX X Z (.Call (.Name x p) (e::es) [] pos) (Vr ms g G):=.mk λtm=>PE.weak (j1 F hr hg hm hk hb .nil oU (ha tm) ua he j2) λσ H Q #[ρ,O,q,I,hf,k] =>
 #[ρ,O,_,I,hf,λts hX vs H1 s1 a1=>by
   subst hfs;show B2 X.K _ G (vs++[]) H1 Q E0;rw[Ie];have J:=I.same s1;let(as,h1,h2):=AM.args (A':=av Z O) (λ_ z=>z) (λk t e=>by let(a,q1,q2,q3):=J.root e;exact#[a,q1,q3]) a1;have B3:∀a∈as,a∈roots O:=λa h=>by let(k,_,e):=gq h2 h;exact aH.mpr (fL e)
   have ndA:as.Nodup:=by
    clear h1;have:∀{as:qah}{ks:qao},ks.Nodup->Paired (λa k=>O[k]?\some a) as ks->as.Nodup:=by
     intro as ks nd h;induction h with
     |nil=>exact NS
     |cons r t ih=>rw[qx] at nd ⊢;refine#[λm=>?_,ih nd.2];let(k',m1,m2):=gq t m;exact nd.1 (by rw[y9 J r m2];exact m1)
    exact this Gi h2
   have mOx:∀b,b∈as++(av Z O).filter (λb=>decide (b∉as))↔b∈av Z O:=λb=>by rw[fM,N9];constructor;rintro (z|z);exact hY _ (B3 b z);exact z.1;intro z;by_cases hb:b∈as;exact .inl hb;exact .inr #[z,ο hb]
   let(u9,JP,JQ):=AM.args (A':=as++(av Z O).filter (λb=>decide (b∉as))) (λb z=>(mOx b).mp z) (λk t e=>by let(a,q1,q2,q3):=J.root e;exact#[a,q1,q3]) a1;have ee:u9=as:=by
    have:∀{as u9:qah}{ks:qao},Paired (λa k=>O[k]?\some a) as ks->Paired (λa k=>O[k]?\some a) u9 ks->u9=as:=by
     intro as u9 ks h h';induction h generalizing u9 with
     |nil=>cases h';rfl
     |cons r t ih=>
       cases h' with
       |cons r' t'=>rw[r] at r';cases r';rw[ih t']
    exact this h2 JQ
   subst ee;refine#[ts,u9,(av Z O).filter (λb=>decide (b∉u9)),_,ndA,λa h z=>?_,λa h=>J.O0 a (N9.mp h).1,JP,hX,λus r hr v H' fr z=>?_];exact (Θ (N9.mp z).2) h;have ac1:∀a∈Z.Ox,a∉roots O/\H' a≠none:=λa h=>by
    have na:a∉roots O:=λm=>(J.own a m).2.1 h;refine#[na,?_];cases e:H1 a with
    |none=>exact absurd e (J.ox a h)
    |some u=>rw[fr _ _ e λm=>na (B3 a m)];simp
   cases r with
   |vw t=>let(z1,z2):=z;exact k _ _ hr O v H' #[J.called h2 Gi fr (Paired.pL z2 λ_ _ q=>q.bC λb hb=>(mOx b).mpr hb) 9 9 ac1 λa h=>.inl h,z1.bC λb hb=>(mOx b).mpr hb]
   |fr t=>
     let(b,rfl,hb,nb,hR,z2):=z;let(n1,n2,n3):=J.fresh hb;have sb:∀c∈av (Z.ex b) O,c∈b::(u9++(av Z O).filter (λb=>decide (b∉u9))):=λc hc=>by
      rcases dG c hc with z|z
      exact iB _ ((mOx c).mpr z);rw[z];exact iz
     refine k _ _ hr O _ H' #[b,9,J.called h2 Gi fr (Paired.pL z2 λ_ _ q=>q.bC sb) 9 9 (λa h=>?_) (λa h=>(dG a h).imp id λe=>by rw[e];exact hb),hR.bC sb,n3,n2];rcases dQ.mp h with z|z
     subst z;let(u,eu,_):=hR.mut;exact#[λm=>n1 (hY _ m),by rw[eu];simp];exact ac1 a z]
end
section
variable(K:qaf)
theorem y_:PySem.W.kitOne K (.type "int") (.type "str")\false:=by kernel_rfl
theorem wB:PySem.W.kitOne K (.type "bool") (.type "str")\false:=by kernel_rfl
theorem za:PySem.W.kitOne K (.type "str") (.type "str")\true:=by kernel_rfl
theorem wC:PySem.W.kitOne K (.type "list") (.type "str")\false:=by kernel_rfl
theorem um:PySem.W.kitOne K (.type "tuple") (.type "str")\false:=by kernel_rfl
theorem wD:PySem.W.kitOne K (.type "dict") (.type "str")\false:=by kernel_rfl
theorem nW:PySem.W.kitOne K (.type "NoneType") (.type "str")\false:=by kernel_rfl
end
def Ty2(K:qaf)(H:Hp):V->String->Prop
 |.bY,t=>t="NoneType"
 |.bl _,t=>t="bool"
 |.int _,t=>t="int"
 |.str _,t=>t="str"
 |.ref a,t=>(t="list"/\∃xs,f_ K H a xs)\/(t="tuple"/\∃xs,e_ K H a xs)\/(t="dict"/\∃bj,H a\.dK bj)
 |_,_=>False
def ac2(K:qaf):qak->Hp->VK->Prop:=λxs H Q=>E4 λx n t b=>xs=[x,.ty n]/\Ty2 K H x t/\W.kitOne K (.type t) (.type n)\b/\Q (.bl b) H
def Gj:dh X (.builtin "isinstance") (ac2 X.K):=by
 intro ε s σ H xs us Q I r h;let(x,n,t,b,rfl,ty,e,q):=h;let(u,w',rfl,rx,ry):=vals2 r;obtain rfl:=ry;have fin:∀tk,EP X ε σ Q (.bool b) {s with toks:=tk}:=λtk=>#[.bl b,H,I.tok _,9,q];cases x with
 |bY=>cases (show t=_ from ty);cases (show u=Value.none from rx);exact T9 W.kitx_none I.vT True.intro e (λz=>nomatch z) fin
 |bl y=>cases (show t=_ from ty);cases (show u=Value.bool y from rx);exact T9 W.kitx_bool I.vT True.intro e (λz=>nomatch z) fin
 |int i=>cases (show t=_ from ty);let(t,q):=(show ∃t,u=Value.int i t from rx);cases q;exact T9 W.kitx_int I.vT True.intro e (λz=>nomatch z) fin
 |str y=>cases (show t=_ from ty);let(t,q):=(show ∃t,u=Value.str y t from rx);cases q;exact T9 W.kitx_str I.vT True.intro e (λz=>nomatch z) fin
 |ref a=>
  cases (show u=Value.ref a from rx);obtain⟨rfl,xs,hq⟩|⟨rfl,xs,hq⟩|⟨rfl,bj,hq⟩:=ty
  let(aR,_,p,_):=I.list hq;let(o,n',h1,h2,_):=p;exact T9 W.kitx_list I.vT #[o,h1,h2] e (λz=>nomatch z) fin;let(aR,_,p,_):=I.tuple hq;let(o,h1,h2,_):=p;exact T9 W.kitx_tuple I.vT #[o,h1,h2] e (λz=>nomatch z) fin;let(_,_,vs,_,p):=(show cb X.prog X.w H s.heap a (.dK bj) from I.bZ a _ hq);let(o,es,ep,h1,h2,_):=p;exact T9 W.kitx_dict I.vT #[o,h1,h2.1] e (λz=>nomatch z) fin
 |_=>exact (show False from ty).elim
def isStr:T->Bool
 |.str _=>true
 |_=>false
def known:T->Bool
 |.dt _ _=>false
 |.df _ _ _=>false
 |.kt _=>false
 |.ins _ _ _=>false
 |.pin _ _=>false
 |.ob _=>false
 |.ty _=>false
 |_=>true
def JR(K:qaf)(n:String)(p:T->Bool):Prop:=∀H A t v,known t=true->hW K H A t v->∃ty,Ty2 K H v ty/\W.kitOne K (.type ty) (.type n)\p t
def zc:JR K "str" isStr:=by
 intro H A t v hk h;cases t with
 |bY=>rw[h.bY];exact#[_,9,nW K]
 |bl b=>rw[h.bl];exact#[_,9,wB K]
 |int b=>rw[h.int];exact#[_,9,y_ K]
 |str b=>rw[h.str];exact#[_,9,za K]
 |tup l=>let(a,vs,rfl,q,_):=h.tup;exact#[_,.inr (.inl #[9,_,q]),um K]
 |lst l=>let(a,vs,rfl,q,_):=h.lst;exact#[_,.inl #[9,_,q],wC K]
 |dk ks l=>let(a,vs,rfl,_,q,_):=h.dk;exact#[_,.inr (.inr #[9,_,q]),wD K]
 |_=>simp only[known] at hk;cases hk
def ac3(f:FE)(p:T->Bool):FP:=λρ Q=>f ρ λt=>known t=true/\Q (.vw (.bl (p t)))
section
variable{Z:Zc}{a:Expr}{pos:Pos}{fa fb fcc:FE}
def wF:bootBuiltins "isinstance"\.builtin "isinstance":=by decide +kernel
def D_{n:String}{y:Str}{q:T->Bool}(hq:JR X.K n q)(hg:Gl X "isinstance")(hm:X.mg "isinstance"=none)(hgy:Gl X y)(hmy:X.mg y=none)(hby:bootBuiltins y\.type n)(ha:VR X Z e fa)(hny:y≠"__name__":=by decide)(hdy:gG y:=by decide)(hs:starEach [e,.Name y p2] X.env=(false,eval e X.env)::starEach [.Name y p2] X.env:=by rfl)(BH:starEach [.Name y p2] X.env=(false,eval (.Name y p2) X.env)::starEach [] X.env:=by rfl)(j2:(backTo pos (starEach [.Name y p2] X.env)).any (·.1)=false:=by rfl) :
  VP X Z (.Call (.Name "isinstance" p) [e,.Name y p2] [] pos) (ac3 fa q):=.mk λtm=>
 PE.weak (jq Gj hg hm wF (bD (ha tm) (bD (Og (v:=.ty n) hgy hmy hby rfl hny hdy) cV BH) hs) 15 15 hs j2) λσ H Q #[ρ,O,q',I,hf,k]=>#[ρ,O,_,I,hf,λt ht v H1 s1 a1=>by let(ty,h1,h2):=hq H1 _ t v ht.1 a1;exact#[v,n,ty,_,9,h1,h2,k _ ht.2 _ H1 s1 #[I.same s1,d7]]]
def gJ:T->Bool
 |.bY=>true
 |.bl _=>true
 |.int _=>true
 |.str _=>true
 |_=>false
def mz:List T->Bool
 |[]=>true
 |t::ts=>gJ t && mz ts
def mB(x:T):List T->Bool
 |[]=>false
 |t::ts=>eqT t x || mB x ts
theorem ig{K:qaf}{H:Hp}{A:qah}:∀{ts:List T}{vs:qak}{x:T}{v:V},mz ts=true->gJ x=true->aD K H A ts vs->At K H A x v->vs.all jr=true/\jr v=true/\inV v vs=mB x ts
 |[],vs,x,v,_,fx,h,hx=>by simp only[aD] at h;subst h;refine#[9,?_,9];cases x<;>simp only[At] at hx<;>first|(subst hx;rfl)|(simp only[gJ] at fx;cases fx)
 |t::ts,vs,x,v,f,fx,h,hx=>by
  let(u,r,rfl,h1,h2):=h;simp only[mz,pK] at f;let(i1,i2,i3):=ig f.2 fx h2 hx;have ft:jr u=true:=by cases t<;>simp only[At] at h1<;>first|(subst h1;rfl)|(have:=f.1;simp only[gJ] at this;cases this)
  have e:NU u v=eqT t x:=by
   cases t<;>simp only[At] at h1<;>first
    | (have:=f.1;simp only[gJ] at this;cases this;done)
    | (subst h1
       cases x<;>simp only[At] at hx<;>first
        | (simp only[gJ] at fx;cases fx;done)
        | (subst hx;simp[NU,eqT];done))
  refine#[by simp[ft,i1],i2,?_];simp only[mB,inV,FN]
  congr 1
def Pr(K:qaf)(neg:Bool):R2:=λx y H Q=>rIn K neg x y H Q\/E2 λi j=>x=.str i/\y=.str j/\Q (.bl (if neg then !(!(Builtin.Str.occurrences j i 0 j.length 1).isEmpty) else !(Builtin.Str.occurrences j i 0 j.length 1).isEmpty)) H
def JS:fF X (compareOp .In) (Pr X.K false):=by
 intro ε s σ H x y v u Q I rx ry h;obtain h|⟨i,j,h1,h2,h⟩:=h
 exact F7 ε s σ H x y v u Q I rx ry h;exact F1 ε s σ H x y v u Q I rx ry #[i,j,h1,h2,by simpa using h]
def Gk:fF X (compareOp .NotIn) (Pr X.K true):=by
 intro ε s σ H x y v u Q I rx ry h;obtain h|⟨i,j,h1,h2,h⟩:=h
 exact v7 ε s σ H x y v u Q I rx ry h;exact v8 ε s σ H x y v u Q I rx ry #[i,j,h1,h2,by simpa using h]
def Ea(i j:Str):Bool:=!(Builtin.Str.occurrences j i 0 j.length 1).isEmpty
def pIn(x y:T)(q:Rt->Prop):Prop:=match y with
 |.lst ts=>gJ x=true/\mz ts=true/\q (.vw (.bl (mB x ts)))
 |.tup ts=>gJ x=true/\mz ts=true/\q (.vw (.bl (mB x ts)))
 |.str j=>∃i,x=.str i/\q (.vw (.bl (Ea i j)))
 |_=>False
def Vs(x y:T)(q:Rt->Prop):Prop:=match y with
 |.lst ts=>gJ x=true/\mz ts=true/\q (.vw (.bl (!mB x ts)))
 |.tup ts=>gJ x=true/\mz ts=true/\q (.vw (.bl (!mB x ts)))
 |.str j=>∃i,x=.str i/\q (.vw (.bl (!Ea i j)))
 |_=>False
def JT:nR K (Pr K false) pIn:=by
 intro Z tm O ρ σ H x y v w q Q I h1 h2 h k;have x1:gJ x=true->At K H (av Z O) x v:=λf=>by
  obtain h|⟨a,rfl,h⟩:=h1
  exact h;cases x<;>first|exact h.elim|(simp only[gJ] at f;cases f)
 unfold pIn at h;split at h;let(f1,f2,h):=h;let(a,vs,rfl,q1,q2):=h2.lst;let(i1,i2,i3):=ig f2 f1 q2 (x1 f1);exact .inl #[a,vs,9,.inl q1,i2,i1,k _ h _ H (aW.refl H) #[I,by rw[θ iC,i3];exact d7]];let(f1,f2,h):=h;let(a,vs,rfl,q1,q2):=h2.tup;let(i1,i2,i3):=ig f2 f1 q2 (x1 f1);exact .inl #[a,vs,9,.inr q1,i2,i1,k _ h _ H (aW.refl H) #[I,by rw[θ iC,i3];exact d7]];let(i,rfl,h):=h;exact .inr #[i,_,h1.str,h2.str,k _ h _ H (aW.refl H) #[I,by rw[θ iC];exact d7]];exact h.elim
def Pt:nR K (Pr K true) Vs:=by
 intro Z tm O ρ σ H x y v w q Q I h1 h2 h k;have x1:gJ x=true->At K H (av Z O) x v:=λf=>by
  obtain h|⟨a,rfl,h⟩:=h1
  exact h;cases x<;>first|exact h.elim|(simp only[gJ] at f;cases f)
 unfold Vs at h;split at h;let(f1,f2,h):=h;let(a,vs,rfl,q1,q2):=h2.lst;let(i1,i2,i3):=ig f2 f1 q2 (x1 f1);exact .inl #[a,vs,9,.inl q1,i2,i1,k _ h _ H (aW.refl H) #[I,by rw[ι 9,i3];exact d7]];let(f1,f2,h):=h;let(a,vs,rfl,q1,q2):=h2.tup;let(i1,i2,i3):=ig f2 f1 q2 (x1 f1);exact .inl #[a,vs,9,.inr q1,i2,i1,k _ h _ H (aW.refl H) #[I,by rw[ι 9,i3];exact d7]];let(i,rfl,h):=h;exact .inr #[i,_,h1.str,h2.str,k _ h _ H (aW.refl H) #[I,by rw[ι 9];exact d7]];exact h.elim
def JU(ha:VR X Z a fa)(hb:VR X Z b fb)(hm:behindInMarks .In b=false:=by rfl):VP X Z (.Compare a [.In] [b] pos) (f2 fa fb pIn):=BY JS JT ha hb hm
def u_(ha:VR X Z a fa)(hb:VR X Z b fb)(hm:behindInMarks .In b=false:=by rfl):VC X Z (.Compare a [.In] [b] pos) (mq (f2 fa fb pIn)):=jw JS JT ha hb hm
def JV(ha:VR X Z a fa)(hb:VR X Z b fb)(hm:behindInMarks .NotIn b=false:=by rfl):VC X Z (.Compare a [.NotIn] [b] pos) (mq (f2 fa fb Vs)):=jw Gk Pt ha hb hm
def zd:T->Bool
 |.bY=>true
 |_=>false
def pIs(x y:T)(q:Rt->Prop):Prop:=match y with
 |.bY=>q (.vw (.bl (zd x)))
 |_=>False
def wG(x y:T)(q:Rt->Prop):Prop:=match y with
 |.bY=>q (.vw (.bl (!zd x)))
 |_=>False
def Eb{A:qah}{t:T}(h:hW K H A t v):decide (v=.bY)=zd t:=by
 cases t with
 |bY=>rw[h.bY];rfl
 |bl b=>rw[h.bl];rfl
 |int b=>rw[h.int];rfl
 |str b=>rw[h.str];rfl
 |ob b=>rw[h.ob];rfl
 |ty b=>have:=h.elim (λq=>by simpa only[At] using q) λ#[_,_,q]=>q.elim;rw[this];rfl
 |tup l=>let(a,vs,rfl,_):=h.tup;rfl
 |lst l=>let(a,vs,rfl,_):=h.lst;rfl
 |dk ks l=>let(a,vs,rfl,_):=h.dk;rfl
 |dt ks l=>let(a,vs,rfl,_):=h.dt;rfl
 |df o ks l=>let(a,vs,rfl,_):=h.df;rfl
 |kt k=>let(a,rfl,_):=h.kt;rfl
 |ins C ns l=>let(a,dx,vs,rfl,_):=h.ins;rfl
 |pin a t=>have e:=h.elim (λq=>by simp only[At] at q;exact q.1) λ#[_,_,q]=>q.elim;rw[e];rfl
def Vt:nR K (λx y H Q=>y=.bY/\Q (.bl (decide (x=.bY))) H) pIs:=by intro Z tm O ρ σ H x y v w q Q I h1 h2 h k;unfold pIs at h;split at h;exact#[h2.bY,k _ h _ H (aW.refl H) #[I,by rw[Eb h1];exact d7]];exact h.elim
def Gm:nR K (λx y H Q=>y=.bY/\Q (.bl (!decide (x=.bY))) H) wG:=by intro Z tm O ρ σ H x y v w q Q I h1 h2 h k;unfold wG at h;split at h;exact#[h2.bY,k _ h _ H (aW.refl H) #[I,by rw[Eb h1];exact d7]];exact h.elim
def JW(ha:VR X Z a fa)(hb:VR X Z b fb):VC X Z (.Compare a [.Is] [b] pos) (mq (f2 fa fb pIs)):=jw UL Vt ha hb (jn _)
def zf(ha:VR X Z a fa)(hb:VR X Z b fb):VC X Z (.Compare a [.IsNot] [b] pos) (mq (f2 fa fb wG)):=jw Oz Gm ha hb (jn _)
def JX{g g':Int->Int->Bool}{tm:List (T×V)}{Q:VK}(h:lP X Z tm (f3 fa fb fcc (Z2 g) (Z2 g')) σ H Q):Ja (tR λi j=>.bl (g i j)) (tR λi j=>.bl (g' i j)) (lR X Z tm fa) (lR X Z tm fb) (lR X Z tm fcc) σ H Q:=by
 let(ρ,O,q,I,hf,k):=h;refine#[ρ,O,_,I,hf,λx hx v H1 s1 a1=>#[ρ,O,_,I.same s1,hx,λy hy w H2 s2 a2=>?_]];have J:=(I.same s1).same s2;unfold Z2 at hy;split at hy
 rename_i i j
 refine#[i,j,(a1.same s2).int,a2.int,_,9,?_];cases e:g i j with
 |true=>
  rw[e] at hy;refine ZJ #[ρ,O,_,J,hy,λz hz w3 H3 s3 a3=>?_];split at hz
  rename_i e1
  cases e1;exact#[_,_,(a2.same s3).int,a3.int,k _ hz _ H3 ((s1.trans s2).trans s3) #[J.same s3,d7]];exact hz.elim
 |false=>rw[e] at hy;exact ZI (k _ hy _ H2 (s1.trans s2) #[J,d7])
 exact hy.elim
def JY{op UM:CmpOp}{g g':Int->Int->Bool}(ho:fF X (compareOp op) (tR λi j=>.bl (g i j)))(qy:fF X (compareOp UM) (tR λi j=>.bl (g' i j)))(ha:VR X Z a fa)(hb:VR X Z b fb)(hc:VR X Z c fcc)(hm:lastMarks [op,UM] [b,c]=false:=by with_unfolding_all rfl):VC X Z (.Compare a [op,UM] [b,c] pos) (mq (f3 fa fb fcc (Z2 g) (Z2 g'))):=.mk λtm=>PT.weak (Jb ho qy (ha tm) (hb tm) (hc tm) hm) λσ H Q #[ρ,O,q,I,hf,k] =>
 JX #[ρ,O,_,I,hf,λt ht u H' s a=>by let(c,rfl,hc):=BZ ht;have e:=a.2;exact#[c,e,k c hc H' s]]
def dR(ts:List T):List T:=ts.mapIdx λi t=>.tup [.int (i:Int),t]
def ac4(f:FE):FI:=λρ Q=>f ρ λt=>match t with
 |.lst ts=>Q (dR ts)
 |_=>False
theorem Pu{a:Addr}{ts:List T}:Wk K (Ite K a) [(.lst ts,.ref a)] (dR ts):=λH A hA h i=>by
 have h:=h _ iz;let(b,vs,e,l,q):=h;cases e;have hl:=q.length;have hle:(dR ts).length=ts.length:=by unfold dR;rw[List.length_mapIdx]
 refine#[λhi=>#[vs,vs[i]'(),l.sq,by simp],λhi=>#[vs,l.sq,()],λt ht x H' y=>?_];let(p,u,hp,rfl,hu,rfl):=y;unfold dR at ht;rw[X4] at ht;cases e:ts[i]? with
 |none=>rw[e] at ht;cases ht
 |some t'=>rw[e] at ht;cases ht;let(v,e1,e2):=q.get e;have:=hu vs l.sq;rw[e1] at this;cases this;exact#[aI hp,cj (e_.of aK) (aD.cons bw (aD.cons (e2.same (aI hp)) aD.nil))]
def gK{x1}(hg:Gl X "enumerate")(hm:X.mg "enumerate"=none)(ha:VE X Z a fa)(hs:starEach [a] X.env=[(false,eval a X.env)]:=by rfl) :
  VI X Z (.Tuple elts x1 tp) (.Call (.Name "enumerate" p) [a] [] pos) (ac4 fa):=.mk λtm=>PI.weak (OZ hg hm (bD (ha tm) cV hs) hs) λσ H R #[ρ,O,q,I,hf,k]=>#[ρ,O,_,I,hf,λt ht v H' s a=>by
 split at ht;have a0:=a;let(p,vs,rfl,l,_):=a;exact#[p,9,#[vs,l.sq],k _ ht _ H' _ s (λp hp=>by rw[fE.mp hp];exact a0) Pu];exact ht.elim]
def dU:List T->Option (List Bool)
 |[]=>some []
 |.bl b::ts=>(dU ts).map (b::·)
 |_=>none
def intsOf:List T->Option (qan)
 |[]=>some []
 |.int b::ts=>(intsOf ts).map (b::·)
 |_=>none
theorem JZ{K:qaf}{H:Hp}{A:qah}:∀{ts:List T}{bs:List Bool}{vs:qak},dU ts\bs->aD K H A ts vs->vs=bs.map V.bl
 |[],bs,vs,e,h=>by simp only[dU] at e;cases e;simp only[aD] at h;rw[h];rfl
 |.bl b::ts,bs,vs,e,h=>by
  simp only[dU] at e;cases q:dU ts with
  |none=>rw[q] at e;cases e
  |some cs=>rw[q] at e;cases e;let(v,r,rfl,rfl,h):=h;rw[JZ q h];rfl
 |.bY::_,_,_,e,_=>by simp[dU] at e
 |.int _::_,_,_,e,_=>by simp[dU] at e
 |.str _::_,_,_,e,_=>by simp[dU] at e
 |.tup _::_,_,_,e,_=>by simp[dU] at e
 |.lst _::_,_,_,e,_=>by simp[dU] at e
 |.dk _ _::_,_,_,e,_=>by simp[dU] at e
 |.dt _ _::_,_,_,e,_=>by simp[dU] at e
 |.df _ _ _::_,_,_,e,_=>by simp[dU] at e
 |.kt _::_,_,_,e,_=>by simp[dU] at e
 |.ins _ _ _::_,_,_,e,_=>by simp[dU] at e
 |.pin _ _::_,_,_,e,_=>by simp[dU] at e
 |.ob _::_,_,_,e,_=>by simp[dU] at e
 |.ty _::_,_,_,e,_=>by simp[dU] at e
theorem Ec{K:qaf}{H:Hp}{A:qah}:∀{ts:List T}{bs:qan}{vs:qak},intsOf ts\bs->aD K H A ts vs->vs=bs.map V.int
 |[],bs,vs,e,h=>by simp only[intsOf] at e;cases e;simp only[aD] at h;rw[h];rfl
 |.int b::ts,bs,vs,e,h=>by
  simp only[intsOf] at e;cases q:intsOf ts with
  |none=>rw[q] at e;cases e
  |some cs=>rw[q] at e;cases e;let(v,r,rfl,rfl,h):=h;rw[Ec q h];rfl
 |.bY::_,_,_,e,_=>by simp[intsOf] at e
 |.bl _::_,_,_,e,_=>by simp[intsOf] at e
 |.str _::_,_,_,e,_=>by simp[intsOf] at e
 |.tup _::_,_,_,e,_=>by simp[intsOf] at e
 |.lst _::_,_,_,e,_=>by simp[intsOf] at e
 |.dk _ _::_,_,_,e,_=>by simp[intsOf] at e
 |.dt _ _::_,_,_,e,_=>by simp[intsOf] at e
 |.df _ _ _::_,_,_,e,_=>by simp[intsOf] at e
 |.kt _::_,_,_,e,_=>by simp[intsOf] at e
 |.ins _ _ _::_,_,_,e,_=>by simp[intsOf] at e
 |.pin _ _::_,_,_,e,_=>by simp[intsOf] at e
 |.ob _::_,_,_,e,_=>by simp[intsOf] at e
 |.ty _::_,_,_,e,_=>by simp[intsOf] at e
def ac5(ts:List T)(q:Rt->Prop):Prop:=match ts with
 |[.lst l]=>∃bs,dU l\bs/\q (.vw (.bl (bs.all id)))
 |_=>False
def Gn:my K (λxs H Q=>∃(p:Addr)(bs:List Bool),xs=[.ref p]/\f_ K H p (bs.map V.bl)/\Q (.bl (bs.all id)) H) ac5:=by intro Z tm O ρ σ H ts vs q Q I h hp k;unfold ac5 at hp;split at hp;let(bs,e,hp):=hp;let(v,rfl,a):=dH h;let(p,ws,rfl,q1,q2):=a.lst;rw[JZ e q2] at q1;exact#[p,bs,9,q1,k _ hp _ H (aW.refl H) #[I,d7]];exact hp.elim
def ac6(ts:List T)(q:Rt->Prop):Prop:=match ts with
 |[.lst l]=>∃ns,intsOf l\ns/\q (.vw (.int ns.sum))
 |_=>False
def Gp:my K (λxs H Q=>∃(p:Addr)(ns:qan),xs=[.ref p]/\f_ K H p (ns.map V.int)/\Q (.int ns.sum) H) ac6:=by intro Z tm O ρ σ H ts vs q Q I h hp k;unfold ac6 at hp;split at hp;let(bs,e,hp):=hp;let(v,rfl,a):=dH h;let(p,ws,rfl,q1,q2):=a.lst;rw[Ec e q2] at q1;exact#[p,bs,9,q1,k _ hp _ H (aW.refl H) #[I,bw]];exact hp.elim
def afO(f:FP)(fb:FE):FP:=λρ Q=>f ρ λr=>match r with
 |.fr (.lst ts)=>fb ρ λy=>match y with
  |.int k=>-(2 ^ 63)<=k/\k<2 ^ 63/\ts.length * k.toNat<=sizeLine/\Q (.fr (.lst (List.replicate k.toNat ts).flatten))
  |_=>False
 |_=>False
theorem aD.rep{K:qaf}{H:Hp}{A:qah}{ts:List T}{vs:qak}(h:aD K H A ts vs):∀k:Nat,aD K H A (List.replicate k ts).flatten (List.replicate k vs).flatten
 |0=>aD.nil
 |k+1=>by rw[Ic,Ic,X8,X8];exact h.append (aD.rep h k)
def qZ{f:FP}(ha:VP X Z a f)(hb:VR X Z b fb):VP X Z (.BinOp a .Mult b pos) (afO f fb):=.mk λtm=>PE.weak (I8 U1 (ha tm) (hb tm)) λσ H Q #[ρ,O,q,I,hf,k]=>#[ρ,O,_,I,hf,λr hr v H1 s1 z=>by split at hr;let(l,rfl,J,(xs,e,q1),_):=z;refine#[ρ,O,_,I.same s1,hr,λy hy w H2 s2 a2=>?_];split at hy;let(h1,h2,h3,hy):=hy;have q2:=(q1.same s2).bC gc;exact#[l,_,xs,9,a2.int,s2 _ _ e,h1,h2,by rw[q2.length];exact h3,λp hp=>k _ hy _ _ ((s1.trans s2).trans (aI hp)) (((I.same s1).same s2).wm hp (q2.rep _))];exact hy.elim;exact hr.elim]
end
structure Df(K:qaf)(mg:qae)(x:Str)(st:Stmt)(ps:χ)(f:Addr)(fd:FuncData):Prop where
 F:Iq K x x st f fd
 m:mg x\.ref f
 b:Binds K fd ps []
def bP(P:Program)(w:World)(K:qaf)(mg:qae)(base:Heap)(x:Str)(ps:χ)(k:Nat)(sp:Sp):Prop :=
 ∃f fd,mg x\.ref f/\W.keepIn K (.ref f)=true/\Binds K fd ps []/\eD P w K mg base iA k f fd ps sp
def Df.fm{st:Stmt}{k:Nat}(D:Df K mg x st ps f fd)(F:eD P w K mg base iA k f fd ps sp):bP P w K mg base x ps k sp :=
 #[f,fd,D.m,D.F.kp,D.b,F]
def gX{Ox:qah}:aY #[H,[],Ox] i:=λ_ z=>nomatch z
section
def gf{st:Stmt}{N:χ}{k:Nat}{G:List T->(Rt->Prop)->Prop}(F:Iq K x qual st f fd)(S:az N ps (ar st))(hn:n=ps.length)(fG:∀(bL:Value) (A:Around) (outer:List Env) (s:Shared) (H:Hp) (E:XK) (Ox:qah),bG k (A.deeper (envOfC qual (ar st) 8 f bL))->∀ts q,G ts q ->
    ∃g,ku (h7 iA P w K mg base N qual (ar st) f bL A outer s H E).vV #[H,[],Ox] (bH st) g/\(ts.length=n->g {nx:=λ_=>q (.vw .bY),rt:=λ_ r=>q r} (ts.map (λt=>some (t,false))++List.replicate (N.length-ts.length) none))) :
  eD P w K mg base iA (k+1) f fd ps (bQ K n G):=by
 have hp:∀n as k,pz (List.replicate n false) as k=[]:=by
  intro n;induction n with
  |zero=>intro as k;rfl
  |succ n ih=>intro as k;exact ih as (k+1)
 have hfi:∀n ρ,lz (List.replicate n false) ρ=[]:=by
  intro n;induction n with
  |zero=>intro ρ;rfl
  |succ n ih=>intro ρ;exact ih ρ.tail
 have he:∀n ts,ts.length=n->wx (List.replicate n false) ts=ts.map λt=>some (t,false):=by
  intro n;induction n with
  |zero=>intro ts e;cases ts<;>simp_all [wx]
  |succ n ih=>
    intro ts e;cases ts with
    |nil=>simp at e
    |cons t ts=>rw[Ic,wx,ih ts (by simpa using e)];rfl
 refine fnV F S (by rw[NN];exact hn) λbL A outer s H E as Ox hr ts q hl hG=>?_;rw[NN] at hl;let(g,h1,h2):=fG bL A outer s H E Ox hr ts (q []) hG;refine#[g,by rw[hp];exact h1,?_];rw[he n ts hl];simp only[hfi];exact h2 hl
end
def bG.dW{k:Nat}(r:bG k A):A.units+101<cLine:=by have:=r.un;lia
def B4:bootBuiltins "list"\.type "list":=by decide +kernel
def Ed:bootBuiltins "tuple"\.type "tuple":=by decide +kernel
def ac7:bootBuiltins "all"\.builtin "all":=by decide +kernel
def ac8:bootBuiltins "sum"\.builtin "sum":=by decide +kernel
def ac9:bootBuiltins "min"\.builtin "min":=by decide +kernel
def Sz:bootBuiltins "str"\.type "str":=by decide +kernel
theorem qa:∀{fs:List Bool}{as:qah}{k:Nat},∀p∈pz fs as k,k<=p.1/\fs[p.1-k]?\true
 |[],_,_,p,hp=>nomatch hp
 |false::fs,as,k,p,hp=>by
  let(h1,h2):=qa (fs:=fs) p hp;refine#[(),?_];have:p.1-k=(p.1-(k+1))+1:=by lia
  rw[this];simpa using h2
 |true::fs,a::as,k,p,hp=>by
  rcases dQ.mp hp with z|z
  subst z;exact#[cL _,by simp];let(h1,h2):=qa (fs:=fs) p z;refine#[(),?_];have:p.1-k=(p.1-(k+1))+1:=by lia
  rw[this];simpa using h2
 |true::fs,[],k,p,hp=>by
  let(h1,h2):=qa (fs:=fs) p hp;refine#[(),?_];have:p.1-k=(p.1-(k+1))+1:=by lia
  rw[this];simpa using h2
def Ee{fs:List Bool}{as Ox:qah}(h:fs[i]?≠some true):aY #[H,pz fs as 0,Ox] i:=λp hp e=>by have:=(qa p hp).2;rw[Nat.sub_zero,e] at this;exact h this
def iN(lo:Int)(n:Nat):(rangeT lo n).length=n:=by unfold rangeT;rw[bS,pJ]
def lC{lo:Int}{t:T}(h:(rangeT lo n)[i]?\t):i<n/\t=.int (lo+(i:Int)):=by
 unfold rangeT at h;rw[fU] at h;cases e:(List.range n)[i]? with
 |none=>rw[e] at h;cases h
 |some j=>rw[e] at h;let(h1,h2):=c7.mp e;rw[List.getElem_range] at h2;rw[pJ] at h1;subst h2;cases h;exact#[h1,9]
def dz{lo:Int}{h:FG}{g:FS}{d:Su}{ρ:En}(Pv:Nat->En->Prop)(h0:Pv 0 ρ)(hs:∀(i:Nat) ρ',i<n->Pv i ρ'->h (.int (lo+(i:Int))) ρ' λρ2=>g {nx:=Pv (i+1),ct:=Pv (i+1),bk:=d.nx,rt:=d.rt} ρ2)(hd:∀ρ',Pv n ρ'->d.nx ρ'):oX (rangeT lo n) h g d ρ:=#[Pv,h0,λi t ρ' e p=>by let(h1,rfl):=lC e;exact hs i ρ' h1 p,λρ' p=>hd ρ' (by rw[iN] at p;exact p)]
theorem eJ{f:α->T}{xs:List α}{h:FG}{g:FS}{d:Su}{ρ:En}(Pv:Nat->En->Prop)(h0:Pv 0 ρ)(hs:∀(i:Nat) x ρ',xs[i]?\x->Pv i ρ'->h (f x) ρ' λρ2=>g {nx:=Pv (i+1),ct:=Pv (i+1),bk:=d.nx,rt:=d.rt} ρ2)(hd:∀ρ',Pv xs.length ρ'->d.nx ρ'):oX (xs.map f) h g d ρ:=#[Pv,h0,λi t ρ' e p=>by
 rw[fU] at e;cases q:xs[i]? with
 |none=>rw[q] at e;cases e
 |some x=>rw[q] at e;cases e;exact hs i x ρ' q p,λρ' p=>hd ρ' (by rw[bS] at p;exact p)]
def Vu{c:Bool}{A:Prop}(hc:c=true)(h:A):if c=true then A else B:=by rw[ι hc];exact h
def gY{c:Bool}{A:Prop}(hc:c=false)(h:B):if c=true then A else B:=by rw[θ (by rw[hc];exact iC)];exact h
def cH{c A:Prop}[Decidable c](h1:c->A)(h2:¬ c->B):if decide c=true then A else B:=by by_cases h:c;rw[ι (ο h)];exact h1 h;rw[θ (by rw[ς h];exact iC)];exact h2 h
section
def mC{t:Addr}{items:Array Value}{x:Value}(hit:s.heap.IsTupleIter it t i)(ht:s.heap.IsTuple t items)(hx:items[i]?\x)(hQ:∀h',h'.IsTupleIter it t (i+1)->Heap.SameBut it s.heap h'->Q x {s with heap:=h'}):wpAny 14 A (Builtin.SmallTypes.nextOf (.ref it)) Q E s:=by
 let(o,ho,hc,hd):=id hit;let(ol,Pw,_,nl,Yn):=ht;refine ζ (ψ hit.typeIs aca
  (υ aca hit.typeIs F.entry_tuple_iterator_next ?_ (F.args_tuple_iterator_next_1 _)))
 show wpAny _ _ (field (.ref it) 0 >>= _) _ _ s;refine ζ (Φ ho hd 9 (ζ (Φ ho hd 9 (ζ (aak Pw Yn ?_)))));simp only[i_,hx];refine ζ (aaf ho hd 6 (η #[x,9,η (hQ _ ?_ (IH ..))]));exact#[_,T3 _ ho (YM (NP hd _)),(Obj.cls_mapFields ..).trans hc,by
  rw[NP hd];simp[rawInt]]
def nX{t:Addr}{items:Array Value}(hh:A.handled=none)(hit:s.heap.IsTupleIter it t i)(ht:s.heap.IsTuple t items)(hx:items[i]?=none)(hE:∀h' e,Heap.ExtBut it s.heap h'->(∃o,h'.get? e\o/\o.cls=.type "StopIteration")->E (.ref e) {s with heap:=h'}):wpAny 14 A (Builtin.SmallTypes.nextOf (.ref it)) Q E s:=by
 let(o,ho,hc,hd):=id hit;let(ol,Pw,_,nl,Yn):=ht;refine ζ (ψ hit.typeIs aca
  (υ aca hit.typeIs F.entry_tuple_iterator_next ?_ (F.args_tuple_iterator_next_1 _)))
 show wpAny _ _ (field (.ref it) 0 >>= _) _ _ s;refine ζ (Φ ho hd 9 (ζ (Φ ho hd 9 (ζ (aak Pw Yn ?_)))));simp only[i_,hx];refine ζ (aab (ζ (aaf ho hd 6 (ζ (ζ (m:=firstArgMember _ _) (aaM (by first|rfl|(simp only[firstArgMember];rfl)) (Δ (ζ (aaO ?_)) (by size_fits))))))))
 first|rw[show A.in1.handled=none from hh]|rw[hh]
 exact ζ (η (wpAny_throw (hE _ _ (((IH ..).extBut.push _).push _) #[_,gQ _ 9,9])))
end
structure Part(prog:Program)(w:World)(i:Addr)(fp:qah)(n:Nat)(Pv:Nat->Value->Prop)(st:Nat->Heap->Prop):Prop where
 draws:∀A:Around,A.handled=none->Draws prog w A i fp n Pv st
 mem:i∈fp
 fld:∀k h,st k h->∃o vs,h.get? i\o/\o.data=.fields vs
def Gq(it l:Addr)(fY:l≠it)(items:Array Value):Part prog w it [it,l] items.size (λi v=>items[i]?\v) (λi h=>h.IsListIter it l i/\h.IsList l items) :=
 #[λA hh=>Draws.list hh it l fY items,by simp,λk h st=>let #[#[o,e,_,d],_]:=st;#[o,_,e,d]]
def B5(it l:Addr)(fY:l≠it)(items:Array Value):Part prog w it [it,l] items.size (λi v=>items[i]?\v) (λi h=>h.IsTupleIter it l i/\h.IsTuple l items) :=
 #[λA hh=>{live:=λ_ _ st=>let #[o,ho,_]:=st.1;#[o,ho],frame:=λ_ _ _ st hk=>#[let #[o,ho,r]:=st.1;#[o,hk it 6 o ho,r],let #[o,ho,r]:=st.2;#[o,hk l 6 o ho,r]],item:=λi s Q E hi st hQ=>mC st.1 st.2 (x:=items[i]) (by simp[hi]) λh' J1 hs'=>hQ _ h' s.toks (by simp[hi]) #[J1,st.2.extBut hs'.extBut fY] hs',done:=λs Q E st hE=>nX hh st.1 st.2 6 hE},by simp,λk h st=>let #[#[o,e,_,d],_]:=st;#[o,_,e,d]]
def J_(it:Addr)(x:Str)(t:Tok):Part prog w it [it] x.cps.size (λi v=>∃c u,x.cps[i]?\c/\v=.str #[([c].toArray)] u) (λi h=>h.IsStrIter it (strIterType x) x t i):=by
 rcases dS x with z|z
 rw[z];exact#[λA hh=>Draws.strAscii hh it x t,by simp,λk h st=>let #[o,e,_,d]:=st;#[o,_,e,d]];rw[z];exact#[λA hh=>Draws.strWide hh it x t,by simp,λk h st=>let #[o,e,_,d]:=st;#[o,_,e,d]]
structure Apart(z TI TO i1 i2:Addr)(tV q8:qah):Prop where
 TIz:TI≠z
 TOz:TO≠z
 i1z:i1≠z
 i2z:i2≠z
 TITO:TI≠TO
 TIi1:TI≠i1
 TIi2:TI≠i2
 TOi1:TO≠i1
 TOi2:TO≠i2
 i12:i1≠i2
 z1:z∉tV
 z2:z∉q8
 O1:TO∉tV
 O2:TO∉q8
 x1:i2∉tV
 x2:i1∉q8
section
variable{z TI TO i1 i2:Addr}{tV q8:qah}{n1 n2:Nat}{P1 P2:Nat->Value->Prop}{S1 S2:Nat->Heap->Prop}
def Ka{k:Nat}{a b:Value}(hh:A.handled=none)(D:Apart z TI TO i1 i2 tV q8)(p1:Part prog w i1 tV n1 P1 S1)(p2:Part prog w i2 q8 n2 P2 S2)(hz:IsZip s.heap z TI TO .none)(Px:IsPair s.heap TI (.ref i1) (.ref i2))(Py:IsPair s.heap TO a b)(h1:S1 k s.heap)(h2:S2 k s.heap)(hx:k<n1)(hy:k<n2)(hQ:∀x y h' tk,P1 k x->P2 k y->IsZip h' z TI TO (rawInt 8)->IsPair h' TO x y->S1 (k+1) h'->S2 (k+1) h'->IsPair h' 8 x y->h'.objs.size=8+1 ->
    (∀c o,c≠z->c≠TO->c≠i1->c≠i2->s.heap.get? c\o->h'.get? c\o)->Q (.ref 8) {s with heap:=h',toks:=tk}) :
  wpAny 14 A (Builtin.«zip.__next__» #[[.ref z],[]]) (λfin s'=>∃v,fin=.done (.ret v)/\Q v s') E s:=by
 show wpAny _ _ (field (.ref z) 2 >>= _) _ _ _;refine ζ (Φ hz 9 9 (ζ (Φ hz 9 9 (ζ (aak Px 9 (ζ (ζ (Φ hz 9 9 (η (ζ (aab (ζ (Φ hz 9 9 (ζ (Ξ hz 6 λh₁ Js B6=>ζ ?_)))))))))))))));have f1:∀{m h h' c},c∉tV->S1 m h->Heap.SameBut c h h'->S1 m h':=λ{m h h' c} hc st sb=>(p1.draws A hh).frame m h h' st λb hb o e=>sb.extBut b o (λq=>hc (q▸hb)) e;have f2:∀{m h h' c},c∉q8->S2 m h->Heap.SameBut c h h'->S2 m h':=λ{m h h' c} hc st sb=>(p2.draws A hh).frame m h h' st λb hb o e=>sb.extBut b o (λq=>hc (q▸hb)) e;refine ζ (ζ (aaP (ζ ((p1.draws _ hh).item k _ _ _ hx (f1 D.z1 h1 B6) λx h₂ tk₂ px h1₂ yZ=>η ?_))));have Kb:=yZ.extBut _ _ D.TOi1 (B6.extBut _ _ D.TOz Py);refine ζ (aak Kb 9 (ζ (aaD Kb λh₃ ada Bo=>ζ (wpAny_letGo (η ?_)))));refine ζ (ζ (aaP (ζ ((p2.draws _ hh).item k _ _ _ hy (f2 D.O2 (f2 D.x2 (f2 D.z2 h2 B6) yZ) Bo) λy h₄ tk₄ py h2₄ Iw=>η ?_))));have adb:=Iw.extBut _ _ D.TOi2 ada;refine ζ (aak adb 9 (ζ (aaD adb λh₅ Pz Iy=>?_)))
 replace Pz:IsPair h₅ TO x y:=Pz
 refine ζ (wpAny_letGo (η (η ?_)));refine ζ (aak Pz 9 (ζ (aaJ ?_)));have hsz:h₅.objs.size=8:=by rw[Iy.1,Iw.1,Bo.1,yZ.1,B6.1]
 have hz₅:=Iy.extBut _ _ D.TOz.symm (Iw.extBut _ _ D.i2z.symm (Bo.extBut _ _ D.TOz.symm (yZ.extBut _ _ D.i1z.symm Js)));have hk₅:∀c o,c≠z->c≠TO->c≠i1->c≠i2->s.heap.get? c\o->h₅.get? c\o:=λc o c1 c2 c3 c4 e=>
  Iy.extBut _ _ c2 (Iw.extBut _ _ c4 (Bo.extBut _ _ c2 (yZ.extBut _ _ c3 (B6.extBut _ _ c1 e))))
 have h1₅:=f1 D.O1 (f1 D.x1 (f1 D.O1 h1₂ Bo) Iw) Iy;have h2₅:=f2 D.O2 h2₄ Iy;have ade:=eS hz₅;refine ζ ?_;have hz₆:IsZip (h₅.push {cls:=.type "tuple",data:=.seq ([x,y].toArray)}) z TI TO .ellipsis:=dF _ hz₅;refine ζ (Ξ hz₆ 6 λh₇ hz₇ hs₇=>Ξ hz₇ 6 λh₈ hz₈ hs₈=>?_);have up:∀c o,c≠z->h₅.get? c\o->h₈.get? c\o:=λc o c1 e=>hs₈.extBut _ _ c1 (hs₇.extBut _ _ c1 (dF _ e));have hT₈:=hs₈.extBut _ _ (FQ ade) (hs₇.extBut _ _ (FQ ade) (gQ _ 9));have hz8:h₈.objs.size=h₅.objs.size+1:=by rw[hs₈.1,hs₇.1,uP]
 have h1₈:=(p1.draws A hh).frame _ _ _ h1₅ λb hb o e=>up b o (λq=>D.z1 (q▸hb)) e;have h2₈:=(p2.draws A hh).frame _ _ _ h2₅ λb hb o e=>up b o (λq=>D.z2 (q▸hb)) e;rw[hsz] at hz₈ hT₈ hz8;refine η #[_,9,?_];rw[hsz];exact hQ x y h₈ tk₄ px py hz₈ (up _ _ D.TOz Pz) h1₈ h2₈ hT₈ hz8 λc o c1 c2 c3 c4 e=>up c o c1 (hk₅ c o c1 c2 c3 c4 e)
def PB{k:Nat}{a b:Value}{Q:PySem.Fin->Shared->Prop}(hh:A.handled=none)(D:Apart z TI TO i1 i2 tV q8)(p1:Part prog w i1 tV n1 P1 S1)(p2:Part prog w i2 q8 n2 P2 S2)(hz:IsZip s.heap z TI TO .none)(Px:IsPair s.heap TI (.ref i1) (.ref i2))(Py:IsPair s.heap TO a b)(h1:S1 k s.heap)(h2:S2 k s.heap)(Gr:k=n1\/(k<n1/\k=n2))(hE:∀h' tk e,(∀c o,c≠z->c≠TO->c≠i1->c≠i2->s.heap.get? c\o->h'.get? c\o)->(∃o,h'.get? e\o/\o.cls=.type "StopIteration")->E (.ref e) {s with heap:=h',toks:=tk}) :
  wpAny 14 A (Builtin.«zip.__next__» #[[.ref z],[]]) Q E s:=by
 have f1:∀{m h h' c},c∉tV->S1 m h->Heap.SameBut c h h'->S1 m h':=λ{m h h' c} hc st sb=>(p1.draws A hh).frame m h h' st λb hb o e=>sb.extBut b o (λq=>hc (q▸hb)) e;have f2:∀{m h h' c},c∉q8->S2 m h->Heap.SameBut c h h'->S2 m h':=λ{m h h' c} hc st sb=>(p2.draws A hh).frame m h h' st λb hb o e=>sb.extBut b o (λq=>hc (q▸hb)) e;show wpAny _ _ (field (.ref z) 2 >>= _) _ _ _;refine ζ (Φ hz 9 9 (ζ (Φ hz 9 9 (ζ (aak Px 9 (ζ (ζ (Φ hz 9 9 (η (ζ (aab (ζ (Φ hz 9 9 (ζ (Ξ hz 6 λh₁ Js B6=>ζ (ζ (ζ (aaP ?_))))))))))))))))));obtain rfl|⟨di,rfl⟩:=Gr
 . refine ζ ((p1.draws _ hh).done _ _ _ (f1 D.z1 h1 B6) λh₂ e yZ he=>?_);let(oe,Vv,hce):=he;have Yo:=yZ _ _ D.i1z.symm Js;have hez:e≠z:=λx=>by subst x;rw[Yo] at Vv;cases Vv;simp at hce
   refine Ξ Yo 6 λh₃ _ Bo=>hE h₃ _ e (λc o c1 _ c3 _ x=>Bo.extBut _ _ c1 (yZ _ _ c3 (B6.extBut _ _ c1 x))) #[oe,Bo.extBut _ _ hez Vv,hce]
 . refine ζ ((p1.draws _ hh).item k _ _ _ di (f1 D.z1 h1 B6) λx h₂ tk₂ px h1₂ yZ=>η ?_);have Kb:=yZ.extBut _ _ D.TOi1 (B6.extBut _ _ D.TOz Py);refine ζ (aak Kb 9 (ζ (aaD Kb λh₃ ada Bo=>ζ (wpAny_letGo (η (ζ (ζ (aaP (ζ ((p2.draws _ hh).done _ _ _ (f2 D.O2 (f2 D.x2 (f2 D.z2 h2 B6) yZ) Bo) λh₄ e Iw he=>?_))))))))));let(oe,Vv,hce):=he;have hz₄:=Iw _ _ D.i2z.symm (Bo.extBut _ _ D.TOz.symm (yZ.extBut _ _ D.i1z.symm Js));have hez:e≠z:=λx=>by subst x;rw[hz₄] at Vv;cases Vv;simp at hce
   refine Ξ hz₄ 6 λh₅ _ Iy=>hE h₅ _ e (λc o c1 c2 c3 c4 x=>Iy.extBut _ _ c1 (Iw _ _ c4 (Bo.extBut _ _ c2 (yZ.extBut _ _ c3 (B6.extBut _ _ c1 x))))) #[oe,Iy.extBut _ _ hez Vv,hce]
def pR{k:Nat}{a b:Value}{Q:(Option Value)->Shared->Prop}(hh:A.handled=none)(D:Apart z TI TO i1 i2 tV q8)(p1:Part prog w i1 tV n1 P1 S1)(p2:Part prog w i2 q8 n2 P2 S2)(hz:IsZip s.heap z TI TO .none)(Px:IsPair s.heap TI (.ref i1) (.ref i2))(Py:IsPair s.heap TO a b)(h1:S1 k s.heap)(h2:S2 k s.heap)(hx:k<n1)(hy:k<n2)(hQ:∀x y h' tk,P1 k x->P2 k y->IsZip h' z TI TO (rawInt 8)->IsPair h' TO x y->S1 (k+1) h'->S2 (k+1) h'->IsPair h' 8 x y->h'.objs.size=8+1 ->
    (∀c o,c≠z->c≠TO->c≠i1->c≠i2->s.heap.get? c\o->h'.get? c\o)->Q (some (.ref 8)) {s with heap:=h',toks:=tk}):wpAny 14 A (pyNext (.ref z)) Q E s:=by
 have hT:s.TypeIs (.ref z) "zip":=#[_,hz,9];exact ζ (aai (ψ hT F.slot_zip_next
  (wpAny_call_entry F.slot_zip_next hT F.entry_zip_next
    (Ka hh D p1 p2 hz Px Py h1 h2 hx hy λx y h' tk q1 q2 a1 a2 a3 a4 a5 a6 a7=>η (hQ x y h' tk q1 q2 a1 a2 a3 a4 a5 a6 a7)) (F.args_zip_next_1 _))))
def q9{k:Nat}{a b:Value}{Q:(Option Value)->Shared->Prop}(hh:A.handled=none)(D:Apart z TI TO i1 i2 tV q8)(p1:Part prog w i1 tV n1 P1 S1)(p2:Part prog w i2 q8 n2 P2 S2)(hz:IsZip s.heap z TI TO .none)(Px:IsPair s.heap TI (.ref i1) (.ref i2))(Py:IsPair s.heap TO a b)(h1:S1 k s.heap)(h2:S2 k s.heap)(Gr:k=n1\/(k<n1/\k=n2))(hQ:∀h' tk,(∀c o,c≠z->c≠TO->c≠i1->c≠i2->s.heap.get? c\o->h'.get? c\o)->Q none {s with heap:=h',toks:=tk}):wpAny 14 A (pyNext (.ref z)) Q E s:=by
 have hT:s.TypeIs (.ref z) "zip":=#[_,hz,9];refine ζ (aai (ψ hT F.slot_zip_next
  (υ F.slot_zip_next hT F.entry_zip_next (PB hh D p1 p2 hz Px Py h1 h2 Gr λh' tk e hk he=>?_) (F.args_zip_next_1 _))))
 let(o,ho,hc):=he;exact ζ (aaC #[o,ho,hc] aaK (η (hQ _ _ hk)))
end
def jy(v:Value)(o:Obj)(c:Heap->Prop):Prop:=∀(prog:Program)(w:World)(A:Around)(E:qad)(s:Shared)(Q:qad),c s.heap ->
 Q (.ref 8) {s with heap:=s.heap.push o}->wpAny 14 A (pyIter v) Q E s
def SA(l:Addr)(items:Array Value):jy (.ref l) {cls:=.type "list_iterator",data:=.fields ([.ref l,.int 0 0].toArray)} (λh=>h.IsList l items):=λ_ _ _ _ _ _ h q=>aay h q
def wH(l:Addr)(items:Array Value):jy (.ref l) {cls:=.type "tuple_iterator",data:=.fields ([.ref l,.int 0 0].toArray)} (λh=>h.IsTuple l items):=λ_ _ _ _ _ _ h q=>wpAny_pyIter_tuple h q
def Vw(x:Str)(t:Tok):jy (.str x t) {cls:=.type (strIterType x),data:=.fields ([.str x t,.int 0 0].toArray)} (λ_=>True):=λ_ _ _ _ _ _ _ q=>wpAny_pyIter_strU q
abbrev zH3(h:Heap)(o1 o2:Obj):Heap:=((h.push o1).push o2).push {cls:=.type "tuple",data:=.seq ([.ref h.objs.size,.ref (h.push o1).objs.size].toArray)}
abbrev zH4(h:Heap)(o1 o2:Obj):Heap:=(zH3 h o1 o2).push {cls:=.type "tuple",data:=.seq ([.none,.none].toArray)}
abbrev Vx(h:Heap)(o1 o2:Obj):Heap:=(zH4 h o1 o2).push {cls:=.type "zip",data:=.fields ([.none,.bool false,.bool false,.ref ((h.push o1).push o2).objs.size,.ref (zH3 h o1 o2).objs.size].toArray)}
def B7{v1 v2:Value}{o1 o2:Obj}{c1 c2:Heap->Prop}(i1:jy v1 o1 c1)(i2:jy v2 o2 c2)(Gs:∀h o,c2 h->c2 (h.push o)) :
  Meets (Builtin.«zip.__new__» #[[.type "zip",v1,v2],[]]) (λ_ R s=>c1 s.heap/\c2 s.heap /\
   R (.ok (.ret (.ref (zH4 s.heap o1 o2).objs.size))) {s with heap:=Vx s.heap o1 o2}) :=
 .of_wp λprog w A R s h=>by
  let(hp,g,d,tk,os):=s;let(hc1,OG,h):=h;have Kc:=sub_zip;have hC2:=Gs _ o1 OG;have I1:=λA E Q q=>i1 prog w A E _ Q hc1 q;have I2:∀A E Q,Q (.ref (hp.push o1).objs.size) #[(hp.push o1).push o2,g,d,tk,os]->wpAny 14 A (pyIter v2) Q E #[hp.push o1,g,d,tk,os]:=λA E Q q=>i2 prog w A E _ Q hC2 q
  wp_walk using I1,I2
  exact#[_,9,h]
section
def Gu{v1 v2:Value}{o1 o2:Obj}{c1 c2:Heap->Prop}(i1:jy v1 o1 c1)(i2:jy v2 o2 c2)(Gs:∀h o,c2 h->c2 (h.push o))(h1:c1 s.heap)(h2:c2 s.heap)(hf1:o1.isFreed=false)(hf2:o2.isFreed=false)(h:∀h',IsZip h' (8+04) (8+2) (8+3) .none->IsPair h' (8+2) (.ref 8) (.ref (8+1)) ->
    IsPair h' (8+3) .none .none->h'.get? 8\o1->h'.get? (8+1)\o2->h'.objs.size=8+05 ->
    (∀c o,s.heap.get? c\o->h'.get? c\o)->Q (.ref (8+04)) {s with heap:=h'}) :
  wpAny 14 A (call (.type "zip") [v1,v2]) Q E s:=by
 refine callType_new F.called_zip 15 (F.typeCall_zip_2 _ _) (F.newCall_zip_2 _ _) (λobj=>F.args_object_init_3 obj _ _) F.entry_zip_new
  (B7 i1 i2 Gs) #[h1,h2,?_]
 have z1:(s.heap.push o1).objs.size=8+1:=uP ..;have z2:((s.heap.push o1).push o2).objs.size=8+2:=by rw[uP,z1]
 have z3:(zH3 s.heap o1 o2).objs.size=8+3:=by rw[uP,z2]
 have z4:(zH4 s.heap o1 o2).objs.size=8+04:=by rw[uP,z3]
 have z5:(Vx s.heap o1 o2).objs.size=8+05:=by rw[uP,z4]
 have g5:(Vx s.heap o1 o2).get? (zH4 s.heap o1 o2).objs.size\_:=gQ _ 9;have g4:(Vx s.heap o1 o2).get? (zH3 s.heap o1 o2).objs.size\_:=dF _ (gQ _ 9);have g3:(Vx s.heap o1 o2).get? ((s.heap.push o1).push o2).objs.size\_:=dF _ (dF _ (gQ _ 9));have g2:(Vx s.heap o1 o2).get? (s.heap.push o1).objs.size\_:=dF _ (dF _ (dF _ (gQ _ hf2)));have g1:(Vx s.heap o1 o2).get? 8\_:=dF _ (dF _ (dF _ (dF _ (gQ _ hf1))));rw[z2,z3,z4] at g5;rw[z1,z2] at g3;rw[z3] at g4;rw[z1] at g2;rw[z4];exact#[#[_,g5,9],h _ g5 g3 g4 g1 g2 z5 λc o x=>
  dF _ (dF _ (dF _ (dF _ (dF _ x))))]
end
structure Gv(P:Program)(w:World)(K:qaf)(i:Addr)(fp:qah)(sq:Hp->qak->Prop)(it:Nat->Heap->Prop):Prop where
 part:∀(X:Cx)(ε:qaa)(σ:St)(H:Hp)(s:Shared),X.prog=P->X.w=w->X.K=K->Inv X ε σ H s->∀xs,sq H xs ->
  ∃(Pv:Nat->Value->Prop)(S:Nat->Heap->Prop),Part P w i fp xs.length Pv S/\(∀k v,Pv k v->∃x,xs[k]?\x/\RelV x v)/\(∀k h,S k h->it k h)/\∀k,it k s.heap->S k s.heap
 keep:∀k h h',it k h->(∀o,h.get? i\o->h'.get? i\o)->it k h'
 obj:∀k h,it k h->∃o,h.get? i\o/\∀v,o.data≠.cell v
 inj:∀(X:Cx)(ε:qaa)(σ:St)(H:Hp)(s:Shared),X.K=K->Inv X ε σ H s->∀xs ys,sq H xs->sq H ys->xs=ys
def src_list(i l:Addr)(fY:l≠i):Gv P w K i [i,l] (λH xs=>f_ K H l xs) (λk h=>h.IsListIter i l k) where
 part:=λX ε σ H s hP hw hK I xs hq=>by
  subst hP hw hK;let(aR,rv,p,hz):=I.list hq;have e:aR.toArray.size=xs.length:=by simp[rv.length]
  refine#[_,_,e▸Gq i l fY aR.toArray,λk v hv=>?_,λk h st=>st.1,λk st=>#[st,p.isList]];have yO:aR[k]?\v:=by simpa using hv
  have hk:k<xs.length:=by rw[<- e];simp;exact (c7.mp yO).1
  let(u,hu,ru):=rv.get (show xs[k]?\xs[k] by simp);rw[yO] at hu;cases hu;exact#[_,by simp,ru]
 keep:=λk h h' st q=>st.at q
 obj:=λk h st=>let #[o,e,_,d]:=st;#[o,e,λv z=>by rw[d] at z;cases z]
 inj:=λX ε σ H s hK I xs ys h1 h2=>by subst hK;exact I.qA h1 h2
def src_tuple(i l:Addr)(fY:l≠i):Gv P w K i [i,l] (λH xs=>e_ K H l xs) (λk h=>h.IsTupleIter i l k) where
 part:=λX ε σ H s hP hw hK I xs hq=>by
  subst hP hw hK;let(aR,rv,p,hz):=I.tuple hq;have e:aR.toArray.size=xs.length:=by simp[rv.length]
  refine#[_,_,e▸B5 i l fY aR.toArray,λk v hv=>?_,λk h st=>st.1,λk st=>#[st,p]];have yO:aR[k]?\v:=by simpa using hv
  have hk:k<xs.length:=by rw[<- e];simp;exact (c7.mp yO).1
  let(u,hu,ru):=rv.get (show xs[k]?\xs[k] by simp);rw[yO] at hu;cases hu;exact#[_,by simp,ru]
 keep:=λk h h' st q=>let #[o,e,r]:=st;#[o,q o e,r]
 obj:=λk h st=>let #[o,e,_,d]:=st;#[o,e,λv z=>by rw[d] at z;cases z]
 inj:=λX ε σ H s hK I xs ys h1 h2=>by subst hK;exact I.uT h1 h2
def PC(x:Str):qak:=x.cps.toList.map λc=>.str #[([c].toArray)]
def aeR(i:Addr)(x:Str)(t:Tok):Gv P w K i [i] (λ_ xs=>xs=PC x) (λk h=>h.IsStrIter i (strIterType x) x t k) where
 part:=λX ε σ H s hP hw hK I xs hq=>by
  subst hP hw hK hq;have e:x.cps.size=(PC x).length:=by unfold PC;simp
  refine#[_,_,e▸J_ i x t,λk v hv=>?_,λk h st=>st,λk st=>st];let(c,u,h1,rfl):=hv;exact#[.str #[([c].toArray)],by unfold PC;rw[fU];simp[h1],u,9]
 keep:=λk h h' st q=>let #[o,e,r]:=st;#[o,q o e,r]
 obj:=λk h st=>let #[o,e,_,d]:=st;#[o,e,λv z=>by rw[d] at z;cases z]
 inj:=λX ε σ H s hK I xs ys h1 h2=>by rw[h1,h2]
section
def PD{ch:qah}(I:Inv X ε σ H s)(k:∀b u,b∉ch->s.heap.get? b\u->h'.get? b\u)(hf:∀b∈ch,nM X ε H b):Inv X ε σ H {s with heap:=h',toks:=t'}:=by
 have IQ:∀b u,H b\u->b∉ch:=λb u e z=>by rw[(hf b z).1] at e;cases e
 refine I.step (λb hb=>?_) (λb u _ _ hc e _=>k b u hc e) (λb u _ _ hc e _=>#[u.slots,k b u hc e]) (λb u _ e n=>n) (λb u hc e=>#[u,k b u hc e])
  (λb xs e=>e) (λb u v e=>e) (λb ps e=>#[([].toArray),?_]) (λm hm=>?_) (λb u e=>?_) I.bare
 let(_,f1,_,f3,f4,f5):=hf b hb;exact#[f3,f1,f4,f5];rw[e];simp;let(ob,es,ep,ho,r):=hm;exact#[ob,es,ep,k _ ob (λz=>(hf _ z).2.1 9) ho,r];refine (I.bZ b u e).By (λc v hc q=>k c v ?_ q) (λc q=>q) λc xs q=>q;obtain z|z:=hc
 rw[z];exact IQ b u e;exact IQ c _ z
end
def Itz(B8 B9:Hp->qak->Prop):It :=
 #[λi H=>∃xs ys,B8 H xs/\B9 H ys/\i<xs.length/\i<ys.length,λi H v H'=>∃t x y,H t=none/\v=.ref t/\(∀xs,B8 H xs->xs[i]?\x)/\(∀ys,B9 H ys->ys[i]?\y)/\H'=upd H t (.tup [x,y]),
  λi H=>∃xs ys,B8 H xs/\B9 H ys/\(i=xs.length\/(i<xs.length/\i=ys.length))]
def Ke{x1}{z TI TO i1 i2:Addr}{tV q8:qah}{B8 B9:Hp->qak->Prop}{t1 t2:Nat->Heap->Prop}(D:Apart z TI TO i1 i2 tV q8)(p1:Gv P w K i1 tV B8 t1)(p2:Gv P w K i2 q8 B9 t2) :
  Turn P w K (.Tuple elts x1 tp) (Itz B8 B9) [z,TI,TO,i1,i2] z (λi h=>IsZip h z TI TO .none/\IsPair h TI (.ref i1) (.ref i2)/\(∃a b,IsPair h TO a b)/\t1 i h/\t2 i h) where
 mem:=by simp
 obj:=λi h st b hb=>by
  let(h1,h2,(a,c,h3),h4,h5):=st;simp only[dQ,gR,aah] at hb;obtain rfl|rfl|rfl|rfl|rfl:=hb
  exact#[_,h1,λv q=>by cases q];exact#[_,h2,λv q=>by cases q];exact#[_,h3,λv q=>by cases q];exact p1.obj i h h4;exact p2.obj i h h5
 keep:=λi h h' st k=>by let(h1,h2,(a,c,h3),h4,h5):=st;exact#[k z 6 _ h1,k TI 6 _ h2,#[a,c,k TO 6 _ h3],p1.keep i h h' h4 λo q=>k i1 6 o q,p2.keep i h h' h5 λo q=>k i2 6 o q]
 item:=by
  intro X hP hw hK hc i ε s σ H E I hf st hg;let(xs,ys,hq1,SE,l1,l2):=hg;let(h1,h2,(a,c,h3),h4,h5):=st;let(P1,S1,q1,v1,b1,f1):=p1.part X ε σ H s hP hw hK I xs hq1;let(P2,S2,q2,v2,b2,f2):=p2.part X ε σ H s hP hw hK I ys SE;refine pR (I.ok.hd hc) D q1 q2 h1 h2 h3 (f1 i h4) (f2 i h5) l1 l2 λx y h₁ tk px py Js afP s1 s2 hp₁ hsz hk=>?_;let(x',ex,rx):=v1 i x px;let(y',ey,ry):=v2 i y py;refine#[_,9,wpAny_letOwnedTupleGo_zip Js λh₂ Yo yZ=>?_];have ue:=yZ;have di:=eS h1;have hte:=FQ di;have kk:∀b ob,b∉[z,TI,TO,i1,i2]->s.heap.get? b\ob->h₂.get? b\ob:=λb ob hb q=>by simp only[dQ,gR,aah,not_or] at hb;exact (ue.2 b hb.1).trans (hk b ob hb.1 hb.2.2.1 hb.2.2.2.1 hb.2.2.2.2 q)
  have new:cb X.prog X.w (upd H 8 (.tup [x',y'])) h₂ 8 (.tup [x',y']) :=
   #[by show 2<=sizeLine;rw[π];decide,[x,y],.cons rx (.cons ry .nil),#[_,(ue.2 _ hte).trans hp₁,9,_,9]]
  refine#[.ref 8,upd H 8 (.tup [x',y']),I.grown kk hf (cL _) new,9,#[_,x',y',I.fresh,9,λzs hz=>by rw[p1.inj X ε σ H s hK I _ _ hz hq1];exact ex,λzs hz=>by rw[p2.inj X ε σ H s hK I _ _ hz SE];exact ey,9],#[Yo,?_,#[x,y,?_],?_,?_],λb hb=>?_];exact (ue.2 TI D.TIz).trans (hk TI _ D.TIz D.TITO D.TIi1 D.TIi2 h2);exact (ue.2 TO D.TOz).trans afP;exact p1.keep _ _ _ (b1 _ _ s1) λo q=>(ue.2 i1 D.i1z).trans q;exact p2.keep _ _ _ (b2 _ _ s2) λo q=>(ue.2 i2 D.i2z).trans q;have Yj:b<8:=by
   simp only[dQ,gR,aah] at hb;obtain rfl|rfl|rfl|rfl|rfl:=hb
   exact di;exact eS h2;exact eS h3;let(o,e,_):=p1.obj i _ h4;exact eS e;let(o,e,_):=p2.obj i _ h5;exact eS e
  rw[aG (hV Yj)];exact (hf b hb).1
 done:=by intro X hP hw hK hc i ε s σ H E I hf st hg;let(xs,ys,hq1,SE,he):=hg;let(h1,h2,(a,c,h3),h4,h5):=st;let(P1,S1,q1,v1,b1,f1):=p1.part X ε σ H s hP hw hK I xs hq1;let(P2,S2,q2,v2,b2,f2):=p2.part X ε σ H s hP hw hK I ys SE;refine q9 (I.ok.hd hc) D q1 q2 h1 h2 h3 (f1 i h4) (f2 i h5) he λh' tk hk=>#[9,PD I (λb u hb q=>?_) hf];simp only[dQ,gR,aah,not_or] at hb;exact hk b u hb.1 hb.2.2.1 hb.2.2.2.1 hb.2.2.2.2 q
 self:=λ_ _ _ _ _ st h=>by let(h1,_):=st;exact wpAny_pyIter_zip h1 h
inductive ZK(K:qaf)(H:Hp):V->(Hp->qak->Prop)->Prop where
 |tup {a:Addr} {xs:qak}:e_ K H a xs->ZK K H (.ref a) (λH xs=>e_ K H a xs)
theorem SF{x:V}{sq:Hp->qak->Prop}(I:Inv X ε σ H s)(z:ZK X.K H x sq)(r:RelV x u) :
  ∃(o:Obj)(c:Heap->Prop)(fp:qah)(it:Addr->Nat->Heap->Prop),jy u o c/\c s.heap/\(∀h o,c h->c (h.push o))/\o.isFreed=false/\(∀b∈fp,b<8) /\
   ∀i,8<=i->Gv X.prog X.w X.K i (i::fp) sq (it i)/\∀h,h.get? i\o->it i 0 h:=by
 cases z with
 |tup hq=>
   rename_i a xs
   cases r;let(aR,rv,p,hz):=I.tuple hq;have hl:a<8:=by let(o,e,_):=p;exact eS e
   refine#[_,_,[a],λi k h=>h.IsTupleIter i a k,wH a aR.toArray,p,λh o q=>(let #[o',e,r]:=q;#[o',dF _ e,r]),9,λb hb=>by rw[fE.mp hb];exact hl,λi hi=>#[src_tuple i a (hV (tY hl hi)),λh e=>#[_,e,9,9]]]
def nn{a b:Nat}(h:a<b):a≠b:=hV h
def Kg{tV q8:qah}(h1:∀b∈tV,b<n)(h2:∀b∈q8,b<n):Apart (n+04) (n+2) (n+3) n (n+1) (n::tV) ((n+1)::q8):=by
 have k1:∀b:Nat,n<b->b∉(n::tV):=λb hb m=>by
  rcases dQ.mp m with q|q
  exact FQ hb q;exact FL _ (Ua hb (h1 b q))
 have k2:∀b:Nat,n+1<b->b∉((n+1)::q8):=λb hb m=>by
  rcases dQ.mp m with q|q
  exact FQ hb q;exact FL _ (Ua (Ua (qw n) hb) (h2 b q))
 have k3:n∉((n+1)::q8):=λm=>by
  rcases dQ.mp m with q|q
  exact hV (qw n) q;exact FL _ (h2 n q)
 exact#[nn (),nn (),nn (),nn (),nn (),(nn ()).symm,(nn ()).symm,(nn ()).symm,(nn ()).symm,nn (),k1 _ (),k2 _ (),k1 _ (),k2 _ (),k1 _ (),k3]
def PF{c:Nat}(h:c∈[n+04,n+2,n+3,n,n+1]):n<=c:=by
 simp only[dQ,gR,aah] at h
 lia
def afQ(K:qaf)(ta:TA):TI:=λσ H R=>ta σ H λvs H1=>E4 λx y B8 B9=>vs=[x,y]/\ZK K H1 x B8/\ZK K H1 y B9/\R (Itz B8 B9) H1
section
variable{Z:Zc}
def boot_zip:bootBuiltins "zip"\.type "zip":=by decide +kernel
def Vy{x1}{a:Expr}{ta:TA}{pos:Pos}(hg:Gl X "zip")(hm:X.mg "zip"=none)(ha:PA X [a,b] ta)(hs:starEach [a,b] X.env=[(false,eval a X.env),(false,eval b X.env)])(BH:starEach [b] X.env=[(false,eval b X.env)]) :
  PI X (.Tuple elts x1 tp) (.Call (.Name "zip" p) [a,b] [] pos) (afQ X.K ta):=by
 intro ε s σ H R I h;refine Call_ (nK I hg hm boot_zip (ab2 (cT (ha pos ε s σ H _ I h) λus s1 #[vs,H1,I1,r1,q1]=>?_) (by rw[hs,BH]) (by rw[BH];rfl)));let(x,y,B8,B9,e,k1,k2,q):=q1;subst e;let(u,w',rfl,ru,rw'):=vals2 r1;let(o1,c1,tV,t1,i1,hc1,Yp,hf1,Ef,z1):=SF I1 k1 ru;let(o2,c2,q8,t2,i2,OG,Gs,hf2,Kh,z2):=SF I1 k2 rw';refine Gu i1 i2 Gs hc1 OG hf1 hf2 λh' hz Px Py g1 g2 hsz hk=>?_;have I2:=I1.kept (t':=s1.toks) hk;refine wpAny_pyIter_zip hz ?_;let(S1,a1):=z1 s1.heap.objs.size (cL _);let(S2,a2):=z2 (s1.heap.objs.size+1) (IK _);have D:=Kg Ef Kh;refine#[s1.heap.objs.size+04,_,_,_,H1,9,I2,Ke D S1 S2,#[hz,Px,#[_,_,Py],a1 _ g1,a2 _ g2],λc hc=>?_,q];have hge:=PF hc;exact I1.qB hge (I1.bZ.fresh hge)
def Vz:T->Option (List T)
 |.tup ts=>some ts
 |_=>none
def zg(xs ys:List T):List T:=List.zipWith (λa b=>.tup [a,b]) xs ys
def afR(fa fb:FE):FI:=λρ Q=>fa ρ λx=>fb ρ λy=>match Vz x,Vz y with
 |some xs,some ys=>Q (zg xs ys)
 |_,_=>False
def SH{A:qah}{x:T}{xs:List T}(h:At K H A x v)(e:Vz x\xs):∃sq,ZK K H v sq/\∀H A,At K H A x v->∃vs,sq H vs/\aD K H A xs vs:=by
 cases x with
 |tup ts=>cases e;let(a,vs,rfl,l,q):=h;refine#[_,.tup l,λH A h=>?_];let(a',lu,e,l',q'):=h;cases e;exact#[lu,l',q']
 |_=>cases e
theorem VB{x y:T}{w:V}{xs ys:List T}{B8 B9:Hp->qak->Prop}(h1:∀H A,At K H A x v->∃vs,B8 H vs/\aD K H A xs vs)(h2:∀H A,At K H A y w->∃vs,B9 H vs/\aD K H A ys vs) :
  Wk K (Itz B8 B9) [(x,v),(y,w)] (zg xs ys):=λH A hA h i=>by
 let(vs,q1,l1):=h1 H A (h _ iz);let(ws,q2,l2):=h2 H A (h _ (iB _ iz));have e1:=l1.length;have e2:=l2.length;have el:(zg xs ys).length=min xs.length ys.length:=by unfold zg;rw[List.length_zipWith]
 refine#[λhi=>#[vs,ws,q1,q2,(),()],λhi=>#[vs,ws,q1,q2,()],λt ht x H' y=>?_];let(p,a,b,hp,rfl,ha,hb,rfl):=y;unfold zg at ht;rw[List.getElem?_zipWith] at ht;cases ex:xs[i]? with
 |none=>rw[ex] at ht;cases ht
 |some tx=>
   cases ey:ys[i]? with
   |none=>rw[ex,ey] at ht;cases ht
   |some ty=>rw[ex,ey] at ht;cases ht;let(v1,g1,g2):=l1.get ex;let(v2,g3,g4):=l2.get ey;have z1:=ha vs q1;have z2:=hb ws q2;rw[g1] at z1;rw[g3] at z2;cases z1;cases z2;exact#[aI hp,cj (e_.of aK) (aD.cons (g2.same (aI hp)) (aD.cons (g4.same (aI hp)) aD.nil))]
def VF{x1}{pos:Pos}{a:Expr}{fa fb:FE}(hg:Gl X "zip")(hm:X.mg "zip"=none)(ha:VE X Z a fa)(hb:VE X Z b fb)(hs:starEach [a,b] X.env=[(false,eval a X.env),(false,eval b X.env)]:=by rfl)(BH:starEach [b] X.env=[(false,eval b X.env)]:=by rfl) :
  VI X Z (.Tuple elts x1 tp) (.Call (.Name "zip" p) [a,b] [] pos) (afR fa fb):=.mk λtm=>
 PI.weak (Vy hg hm (bD (ha tm) (bD (hb tm) cV BH) (by rw[hs,BH])) hs BH) λσ H R #[ρ,O,q,I,hf,k]=>#[ρ,O,_,I,hf,λx hx v H1 s1 a1=>#[ρ,O,_,I.same s1,hx,λy hy w H2 s2 a2=>by
  split at hy
  rename_i xs ys e1 e2
  let(B8,k1,w1):=SH (a1.same s2) e1;let(B9,k2,w2):=SH a2 e2;exact#[v,w,B8,B9,9,k1,k2,k _ hy _ H2 _ (s1.trans s2) (λp hp=>by
   rcases dQ.mp hp with e|hp
   rw[e];exact a1.same s2;rw[fE.mp hp];exact a2) (VB w1 w2)]
  exact hy.elim]]
end
end VT
variable{Z:VT.Zc}{ρ:VT.En}{ts:List VT.T}{fa fb fe:VT.FE}{tm:List (VT.T×L2.V)}{g:VT.FA}
abbrev qab:=List (VT.T×L2.V)
abbrev Λ:=List VT.T
abbrev qam:=VT.Rt->Prop
abbrev ν:=@VT.VP.vr
abbrev ω:=@VT.VP.ve
abbrev Ψ:=@VT.VP.vx
namespace HE
open PySem PySem.W PySem.Calls PyProof.Rows
def qb(tb:String->Option Builtin)(p:Program)(w:World)(n₀:Nat)(ann:Option Value):Nat->SharedT->Thread->Option SharedT
 |0,_,_=>none
 |n+1,s,t=>match through t with
  |true=>some s
  |false=>match stepOk n₀ ann t with
   |false=>none
   |true=>match stepT (denote tb) p w s t with
    |some (s',t')=>qb tb p w n₀ ann n s' t'
    |none=>none
theorem va{tb:String->Option Builtin}{p:Program}{w:World}{n₀:Nat}{ann:Option Value}:∀{n:Nat}{s s':SharedT}{t:Thread},qb tb p w n₀ ann n s t\s'->topRun tb p w n₀ ann n s.abs t\s'.abs
 |0,_,_,_,h=>by cases h
 |n+1,s,s',t,h=>by
  unfold qb at h;unfold topRun;cases ht:through t with
  |true=>rw[ht] at h;cases h;rfl
  |false=>
   rw[ht] at h;cases hk:stepOk n₀ ann t with
   |false=>rw[hk] at h;cases h
   |true=>
    rw[hk] at h;cases hs:stepT (denote tb) p w s t with
    |none=>rw[hs] at h;cases h
    |some r=>let(s₂,t₂):=r;rw[hs] at h;rw[stepT_spec hs];exact va h
def mkT(l:List Obj):BT:=(l.foldl (λ(p:BT×Nat) o=>(p.1.ins p.2 o,p.2+1)) (.nil,0)).1
def eX(P:Params):BT:=mkT (boot_heap P).objs.toList
def st0(T:BT)(os:OsState):SharedT:=#[T,11,{},Array.mk [],boot_drawn,boot_toks,os]
theorem boot_abs(P:Params):absHeap (eX P) 11 {}=boot_heap P:=by kernel_rfl
theorem Gw(P:Params):((boot_heap P).isNs mainGlobals,(boot_heap P).objs.size,(boot_heap P).nsMap mainGlobals "__annotations__")=(true,11,some (.ref 06)):=by kernel_rfl
def VH(p:Program)(T:BT)(w:World)(M:Nat)(os:OsState):Option SharedT:=qb treeTable p w 11 (some (.ref 06)) M (st0 T os) (topStub p)
def Kf(as:qah)(g:Addr->Option Obj):Frag:=as.filterMap λa=>(g a).map λo=>(a,o)
def tg(T:BT)(n:Nat)(a:Addr):Option Obj:=match Nat.blt a n with
 |true=>alive ((T.get a).getD default)
 |false=>none
def adf(T:BT)(n:Nat)(life:Life)(a:Addr):(absHeap T n life).get? a=tg T n a:=by
 unfold tg;cases h:Nat.blt a n with
 |true=>
  have hn:a<n:=Nat.ble_eq.mp h;cases g:T.get a with
  |some o=>rw[abs_get hn g];rfl
  |none=>have e:=absHeap_at T n life a;rw[ι hn,g] at e;unfold Heap.get?;rw[e];rfl
 |false=>
  have hn:¬ a<n:=λz=>by have:Nat.blt a n=true:=Nat.ble_eq.mpr z;rw[h] at this;cases this
  exact abs_get_none hn
abbrev SI(q:Program)(lv:List (Str×WData))(R:WRecords)(s:Shared):Bool:=xlAt q lv s && recOk R s
def lookA(p q:Program)(loose:χ)(lv:List (Str×WData))(R:WRecords)(T:BT)(H0:Heap)(w:World)(M:Nat)(os:OsState) :=
 (VH p T w M os).map λs=>((staticsOk (importedModules p.main.body) H0 s.abs.heap && namesBound p s.abs.heap && gensDone s.abs && laidKept H0 s.abs.heap),
  (openSeen q loose (importedModules p.main.body) (SI q lv R) true s.abs).1,(openSeen q loose (importedModules p.main.body) (SI q lv R) true s.abs).2.1)
def lookB(p q:Program)(loose:χ)(lv:List (Str×WData))(R:WRecords)(T:BT)(w:World)(M:Nat)(os:OsState) :=
 (VH p T w M os).map λs=>(openSeen q loose (importedModules p.main.body) (SI q lv R) true s.abs).2.2
def lookC{β:Type}(p:Program)(as:qah)(F:Frag->β)(T:BT)(w:World)(M:Nat)(os:OsState) :=
 (VH p T w M os).map λs=>F (Kf as (tg s.tree s.n))
def wI(p:Program)(N:Nat)(w:World)(a:Addr):Option Obj:=(openEnds treeTable p w N).bind (·.heap.get? a)
def head{p q:Program}{loose:χ}{lv:List (Str×WData)}{R:WRecords}{as:qah}{N M:Nat}{F:Frag->β}{v:World->β}(e:opening p=plainProg p.main.scope.names)(hN:Nat.ble 600 N=true)(f:∀s,fenceModules? p s\s)(le:Nat.ble M N=true)(ra:∀(w:World) (os:OsState),lookA p q loose lv R (eX w.params) (boot_heap w.params) w M os\(true,(openGood q loose).1,(openGood q loose).2.1))(rb:∀(w:World) (os:OsState),lookB p q loose lv R (eX w.params) w M os=some (openGood q loose).2.2)(rc:∀(w:World) (os:OsState),lookC p as F (eX w.params) w M os\v w) :
  LeftO p q loose (SI q lv R) (λs=>as.map s.heap.get?) (λw=>as.map (wI p N w)) N/\∀w,F (Kf as (wI p N w))=v w:=by
 have key:∀w,∃s,openEnds treeTable p w N\s/\openSeen q loose (importedModules p.main.body) (SI q lv R) true s=openGood q loose/\F (Kf as s.heap.get?)=v w:=λw=>by
  let((h,gs,d,k,os),e1,e2):=X2.mp (boot_open e hN f w);obtain⟨rfl,rfl,rfl,rfl⟩:h=boot_heap w.params/\gs=Array.mk []/\d=boot_drawn/\k=boot_toks:=by simpa using e2
  let(s,r1,r2):=X2.mp (ra w os);let(s',r1',rb'):=X2.mp (rb w os);let(Yf,afS,rc'):=X2.mp (rc w os);obtain rfl:=Option.some.inj (r1.symm.trans r1');obtain rfl:=Option.some.inj (r1.symm.trans afS);have r3:=aaa (λx=>x.1) r2;have r4:=Prod.ext (aaa (λx=>x.2.1) r2) (Prod.ext (aaa (λx=>x.2.2) r2) rb');have r5:F (Kf as s.abs.heap.get?)=v w:=by rw[show s.abs.heap.get?=tg s.tree s.n from funext λa=>adf _ _ _ a];exact rc'
  have t1:=va r1;have ea:(st0 (eX w.params) os).abs=#[boot_heap w.params,Array.mk [],boot_drawn,boot_toks,os]:=by show (#[absHeap (eX w.params) 11 {},_,_,_,_]:Shared)=_;rw[boot_abs];rfl
  rw[ea] at t1;have t2:=topRun_mono (N-M) _ _ _ _ t1;rw[show M+(N-M)=N by have:=Nat.le_of_ble_eq_true le;lia] at t2;have z:=Gw w.params;have z1:=aaa (λx=>x.1) z;have z2:=aaa (λx=>x.2.1) z;have z3:=aaa (λx=>x.2.2) z;refine#[s.abs,?_,r4,r5];unfold openEnds;rw[e1];show topFrom treeTable p w N _=_;unfold topFrom;dsimp only at z1 z2 z3 ⊢;rw[z1,z2,z3,t2];show (match staticsOk (importedModules p.main.body) (boot_heap w.params) s.abs.heap && namesBound p s.abs.heap && gensDone s.abs && laidKept (boot_heap w.params) s.abs.heap with|true=>_|false=>_)=_;have r3':(staticsOk (importedModules p.main.body) (boot_heap w.params) s.abs.heap && namesBound p s.abs.heap && gensDone s.abs && laidKept (boot_heap w.params) s.abs.heap)=true:=r3;rw[r3']
 refine#[λw=>?_,λw=>?_];let(s,a,b,c):=key w;rw[a];have:wI p N w=s.heap.get?:=by funext x;unfold wI;rw[a];rfl
 show some (openSeen q loose (importedModules p.main.body) (SI q lv R) true s,as.map s.heap.get?)\(openGood q loose,as.map (wI p N w));rw[b,this];let(s,a,b,c):=key w;have:wI p N w=s.heap.get?:=by funext x;unfold wI;rw[a];rfl
 rw[this];exact c
def kf_in{as:qah}{g:Addr->Option Obj}(e:as.map h.get?=as.map g):(Kf as g).In h:=by
 have key:∀{as:qah},as.map h.get?=as.map g->∀a o,(Kf as g).lookup a\o->h.get? a\o:=by
  intro as;induction as with
  |nil=>intro _ a o z;cases z
  |cons x as ih=>
   intro e a o z;injection e with e1 e2
   unfold Kf at z;rw[tX] at z;cases hg:g x with
   |none=>rw[hg] at z;exact ih e2 a o z
   |some o'=>
    rw[hg] at z;simp only[Option.map_some,N6] at z;split at z
    rename_i q
    have:a=x:=by simpa using q
    subst this;cases z;rw[e1,hg];exact ih e2 a o z
 exact λa o z=>key e a o z
def Ki{q:Program}{loose:χ}{XP:(qae)->Heap->Prop}{as:qah}{g:World->Addr->Option Obj}{r:RowW}{d:DefRec}{kwd:List (Str×Expr)}{run:Value->qag->Sem Value}(h:WalkO q loose XP (λw h=>(Kf as (g w)).In h) r d kwd run):WalkX q loose XP (λs=>as.map s.heap.get?) (λw=>as.map (g w)) r d kwd run :=
 λw s₀ s₁ mg mb G y a o pm cd doc dV kV h1 h2 h3 h4 h5 h6 args vals u9 L mh ZF hrd U2 hlo=>h w s₀ s₁ mg mb G (λb o' z=>Laid.keeps L _ _ (kf_in y b o' z)) a o pm cd doc dV kV h1 h2 h3 h4 h5 h6 args vals u9 mh ZF hrd U2 hlo
def adg:Stmt->DefRec
 |.FunctionDef n ps b _ _ _ sc _ _ p=>#[n,ps,b,sc,p]
 |_=>#[Str.empty,default,[],default,default]
end HE
lay_quick HE.lookA HE.lookB HE.lookC
namespace eM
open PySem
abbrev pE:Program:=PySem.Challenge.pw_slicewise_k44_slices_of_several_sets
def qE:Program:=W.view pE [1,2,3,05,06,07,08,09,10,11,12,13,014,015,16,17,19,20,21,22,24,25,26,27,28,30,31,32,34,35,36,37,38,39,40,41,43,44,46,47,48,49,50,51,52,53,54,56,57,58,59,62,63,64,65,66,67,68,69,70,71,72,73]
def q_:χ:=["USED_PLACES","net_of","slice_of"]
def B_(w:World)(os:OsState):HE.lookA pE qE q_ [] [] (HE.eX (w.withFollow "special-get-raises" false).params) (W.boot_heap (w.withFollow "special-get-raises" false).params) (w.withFollow "special-get-raises" false) 2681 os\(true,(W.openGood qE q_).1,(W.openGood qE q_).2.1):=by
 rw[PySem.W.Fast.te2848547177322276819]
 kernel_rfl
def Gx(w:World)(os:OsState):HE.lookA pE qE q_ [] [] (HE.eX (w.withFollow "special-get-raises" true).params) (W.boot_heap (w.withFollow "special-get-raises" true).params) (w.withFollow "special-get-raises" true) 2681 os\(true,(W.openGood qE q_).1,(W.openGood qE q_).2.1):=by
 rw[PySem.W.Fast.te2848547177322276819]
 kernel_rfl
def afT(w:World)(os:OsState):HE.lookA pE qE q_ [] [] (HE.eX (w).params) (W.boot_heap (w).params) (w) 2681 os\(true,(W.openGood qE q_).1,(W.openGood qE q_).2.1) :=
 W.byRow2 "special-get-raises" (P:=λw=>∀os,HE.lookA pE qE q_ [] [] (HE.eX (w).params) (W.boot_heap (w).params) (w) 2681 os\(true,(W.openGood qE q_).1,(W.openGood qE q_).2.1)) B_ Gx w os
def Ca(w:World)(os:OsState):HE.lookB pE qE q_ [] [] (HE.eX (w.withFollow "special-get-raises" false).params) (w.withFollow "special-get-raises" false) 2681 os=some (W.openGood qE q_).2.2:=by
 rw[PySem.W.Fast.te312265020846911052]
 kernel_rfl
def Gy(w:World)(os:OsState):HE.lookB pE qE q_ [] [] (HE.eX (w.withFollow "special-get-raises" true).params) (w.withFollow "special-get-raises" true) 2681 os=some (W.openGood qE q_).2.2:=by
 rw[PySem.W.Fast.te312265020846911052]
 kernel_rfl
def afU(w:World)(os:OsState):HE.lookB pE qE q_ [] [] (HE.eX (w).params) (w) 2681 os=some (W.openGood qE q_).2.2 :=
 W.byRow2 "special-get-raises" (P:=λw=>∀os,HE.lookB pE qE q_ [] [] (HE.eX (w).params) (w) 2681 os=some (W.openGood qE q_).2.2) Ca Gy w os
theorem VJ:PySem.Challenge.rw_slicewise_k44_slices_of_several_sets.wellSaid=true:=by kernel_rfl
end eM
namespace VT
open PySem PySem.Spec PyProof.Rows L2
section
variable{k k':Nat}{pos:Pos}{G:Λ->(qam)->Prop}
def aw(C:bP X.prog X.w X.K X.mg X.base x ps k (bQ X.K n G))(hr:bG k' X.A)(ha:VA X Z (e::es) g)(hg:Gl X x:=by rfl)(hk:k<=k':=by decide)(ua:gG x:=by decide)(he:starEach (e::es) X.env=(false,eval e X.env)::starEach es X.env:=by rfl)(j2:(backTo pos (starEach es X.env)).any (·.1)=false:=by rfl) :
  VP X Z (.Call (.Name x p) (e::es) [] pos) (qV n g G):=by
 let(f,fd,h1,h2,h3,F):=C;exact dj F (hr.mono hk) hg h1 h2 h3 ha ua he j2
end
end VT
namespace Gen
open PySem L2 VT
open y0 (cf)
def small(h:n<=1000):n<=sizeLine:=T' (Ga h)
def wJ(h:Nat.ble n 1000=true):n<=sizeLine:=small (Nat.le_of_ble_eq_true h)
def nY(n:Int):Nat:=cf.cps.toList.getD (n % 26).toNat 0
def zh:cf.cps.toList.length=26:=by decide +kernel
def wK:cf.length=26:=by decide +kernel
def gZ:cf.length<=sizeLine:=by rw[wK,π];decide
def vb(n:Int):h9 cf.cps.toList (n % 26)\nY n:=by
 have h0:0<=n % 26:=Bv n 15;unfold nY;let(j,hj):=qv h0;rw[hj];have di:j<cf.cps.toList.length:=by rw[zh];lia
 refine ai ?_;rw[i_,List.getD,eZ di];rfl
def Eg(c:Int):Int:=c % 1000000000000
def oY(c:Int):Nat:=(1+Eg c % 07).toNat
def SJ(c:Int):Nat:=(Eg c / 07 % (oY c:Int)).toNat
def Gz(c:Int)(k j:Nat):Int:=Eg c / 49 / ((j:Int)+1)+(j:Int) * (j:Int)+(if j=SJ c then (k:Int) else 0)
def c6(c:Int)(k n:Nat):Str:=#[((List.range n).map λj=>nY (Gz c k j)).toArray]
def fq(c:Int)(m:Nat):χ :=
 if Eg c / 49 % 3=1 then ((List.range m).map λk=>c6 c k (oY c)).set 1 (c6 c 0 (oY c)++#[([nY (Eg c / 147)].toArray)]) else (List.range m).map λk=>c6 c k (oY c)
def SK(c:Int):((oY c:Nat):Int)=1+Eg c % 07:=by
 unfold oY
 lia
def Kj(c:Int):1<=oY c/\oY c<=07:=by
 have:=SK c
 lia
def adh(c:Int):((SJ c:Nat):Int)=Eg c / 07 % (oY c:Int):=by
 unfold SJ;have h:=Kj c;have:0<=Eg c / 07 % (oY c:Int):=Bv _ ()
 lia
def Cb(c:Int)(k n:Nat):c6 c k (n+1)=c6 c k n++#[([nY (Gz c k n)].toArray)]:=by
 unfold c6;rw[T_,nD]
 congr 1
 simp
def j7(c:Int)(k n:Nat):(c6 c k n).length=n:=by unfold c6 Str.length;simp
def Cc(c:Int)(m:Nat):(fq c m).length=m:=by unfold fq;split<;>simp
def adi:(10:Int) ^ (12:Int).toNat=1000000000000:=by decide +kernel
inductive nH where
 |nm (x:Str)
 |nu (i:Int)
inductive Ky where
 |fld (x:Str)
 |op (o:nH)
inductive Rw where
 |df (f:Str) (ps:χ)
 |give (a:nH)
 |put (x:Str) (a:nH)
 |uo (x:Str) (a:nH) (op:Str) (b:nH)
 |new (x:Str)
 |get (x r:Str) (k:Ky)
 |set (r:Str) (k:Ky) (a:nH)
 |call (x f:Str) (as:List nH)
 |fail (w:Str)
 |wL (a:nH)
 |pS
 |nZ (a:nH)
 |fin
 |skip
def mD:nH->T
 |.nm x=>.str x
 |.nu i=>.int i
def Cd:Ky->T
 |.fld x=>.str (((".":String):Str)++x)
 |.op o=>mD o
def aZ:Rw->T
 |.df f ps=>.tup [.str "def",.str f,.tup (ps.map .str)]
 |.give a=>.tup [.str "give",mD a]
 |.put x a=>.tup [.str "put",.str x,mD a]
 |.uo x a op b=>.tup [.str "do",.str x,mD a,.str op,mD b]
 |.new x=>.tup [.str "new",.str x]
 |.get x r k=>.tup [.str "get",.str x,.str r,Cd k]
 |.set r k a=>.tup [.str "set",.str r,Cd k,mD a]
 |.call x f as=>.tup [.str "call",.str x,.str f,.tup (as.map mD)]
 |.fail w=>.tup [.str "fail",.str w]
 |.wL a=>.tup [.str "if",mD a]
 |.pS=>.tup [.str "else"]
 |.nZ a=>.tup [.str "while",mD a]
 |.fin=>.tup [.str "end"]
 |.skip=>.tup [.str "skip"]
def dX(ys:χ):nH->Prop
 |.nm x=>x∈ys
 |.nu i=>-1000000000000000000000000000000<=i/\i<1000000000000000000000000000000
def wQ(ys:χ):Ky->Prop
 |.fld x=>x∈ys
 |.op o=>dX ys o
abbrev Plan:=List (Str×χ)
def reckon:χ:=["plus","minus","times","over","rest","less","same"]
def ij(ys:χ)(later:Plan):Rw->Prop
 |.put x a=>x∈ys/\dX ys a
 |.uo x a op b=>x∈ys/\dX ys a/\op∈reckon/\dX ys b
 |.new x=>x∈ys
 |.get x r k=>x∈ys/\r∈ys/\wQ ys k
 |.set r k a=>r∈ys/\wQ ys k/\dX ys a
 |.call x f as=>x∈ys/\(∃ps,(f,ps)∈later/\as.length=ps.length)/\∀a∈as,dX ys a
 |.fail w=>w∈ys
 |.skip=>True
 |_=>False
def cv(p:Str×χ):T:=.tup [.str p.1,.tup (p.2.map .str)]
def mE(hl:ys.length=06){n:Int}(hm:0<m)(hm6:m<=06):∃y∈ys,h9 (ys.map T.str) (n % (m:Int))\T.str y:=by
 have h0:0<=n % m:=Bv n ();have h1:n % m<m:=IJ n ();let(j,hj):=qv h0;have di:j<ys.length:=by lia
 refine#[ys[j],FK di,?_];rw[hj];refine ai ?_;rw[fU,eZ di];rfl
def adj:(10:Int) ^ (30:Int).toNat=1000000000000000000000000000000:=by decide +kernel
def adk:(10:Int) ^ (09:Int).toNat=1000000000:=by decide +kernel
def adl:(10:Int) ^ (06:Int).toNat=1000000:=by decide +kernel
def afV:(((".":String):Str)).length=1:=by decide +kernel
def adm(i:Int):∃op∈reckon,h9 [T.str "plus",T.str "minus",T.str "times",T.str "over",T.str "rest",T.str "less",T.str "same"] (i % 07)\T.str op:=by
 have h0:0<=i % 07:=Bv i 15;have h1:i % 07<07:=IJ i 15;let(j,hj):=qv h0;rw[hj] at h1 ⊢;have:j=0\/j=1\/j=2\/j=3\/j=04\/j=05\/j=06:=by lia
 obtain rfl|rfl|rfl|rfl|rfl|rfl|rfl:=this
 exact#["plus",by simp[reckon],ai 9];exact#["minus",by simp[reckon],ai 9];exact#["times",by simp[reckon],ai 9];exact#["over",by simp[reckon],ai 9];exact#["rest",by simp[reckon],ai 9];exact#["less",by simp[reckon],ai 9];exact#["same",by simp[reckon],ai 9]
def Ce(hl:ys.length=06)(n:Int):∃y∈ys,h9 (ys.map T.str) (04+n % 2)\T.str y:=by
 have h0:0<=n % 2:=Bv n 15;let(j,hj):=qv h0;have di:04+j<ys.length:=by lia
 refine#[ys[04+j],FK di,?_];rw[hj];refine ai ?_;rw[fU,eZ di];rfl
def rf(ys:χ)(pl:Plan)(ck:χ)(new:List Rw)(eO:χ):Prop :=
 (∃o,dX ys o/\new=[.wL o]/\eO=ck++([("if":Str)]:χ))\/(∃o,dX ys o/\new=[.nZ o]/\eO=ck++([("while":Str)]:χ)) \/
 (∃y,y∈ys/\new=[.nZ (.nm y),.uo y (.nm y) "minus" (.nu 1)]/\eO=ck++([("while":Str)]:χ))\/(∃s0,ck=s0++([("if":Str)]:χ)/\new=[.pS]/\eO=s0++([("else":Str)]:χ)) \/
 (∃s0 x,ck=s0++[x]/\new=[.fin]/\eO=s0)\/(∃r,ij ys pl r/\new=[r]/\eO=ck)
def PH{pl:Plan}{ck new eO}(h:rf ys pl ck new eO):new.length+eO.length<=ck.length+3:=by obtain⟨o,_,rfl,rfl⟩|⟨o,_,rfl,rfl⟩|⟨y,_,rfl,rfl⟩|⟨s0,rfl,rfl,rfl⟩|⟨s0,x,rfl,rfl,rfl⟩|⟨r,_,rfl,rfl⟩:=h<;>simp<;>lia
def Cf(ys:χ)(pl:Plan):Prop:=∀(k:Nat) f ps,pl[k]?\(f,ps)->ys[k]?\f/\E2 λ(a:Int) (r:Nat)=>r<=2/\ps=(List.range r).map λj=>ys.getD ((a+((j:Nat):Int)) % 04).toNat Str.empty
def Kk(hl:ys.length=06)(n:Int):h9 (ys.map T.str) (n % 04)\T.str (ys.getD (n % 04).toNat Str.empty):=by
 have h0:0<=n % 04:=Bv n 15;let(j,hj):=qv h0;have di:j<ys.length:=by lia
 rw[hj];refine ai ?_;rw[fU,i_,List.getD,eZ di];rfl
inductive Body(ys:χ)(later:Plan):χ->List Rw->Prop
 |nil:Body ys later [] []
 |step {ck eO:χ} {body new:List Rw}:Body ys later ck body->rf ys later ck new eO->Body ys later eO (body++new)
inductive Pre(ys:χ)(pl:Plan):Nat->List Rw->Prop
 |zero:Pre ys pl 0 []
 |succ {k:Nat} {rs:List Rw} {f:Str} {ps:χ} {ck:χ} {body:List Rw} {o:nH} {sk:List Rw}:Pre ys pl k rs->pl[k]?\(f,ps)->Body ys (pl.drop (k+1)) ck body->dX ys o->(sk=[]\/sk=[.skip]) ->
  Pre ys pl (k+1) (rs++(.df f ps::(body++(List.replicate ck.length .fin++(.give o::sk)))))
theorem iO{α:Type}{f:α->T}(h:∀x,plainT (f x)=true):∀l:List α,iK (l.map f)=true
 |[]=>by simp[iK]
 |x::l=>by simp only[kH,iK,h x,iO h l,Bool.and_self]
theorem mF{α:Type}{f:α->T}{n:Nat}(h:∀x,dep (f x)<=n):∀l:List α,B1 (l.map f)<=n
 |[]=>by simp[B1]
 |x::l=>by have:=h x;have:=mF h l;simp only[kH,B1];lia
def Cg(p:Str×χ):plainT (cv p)=true:=by simp[cv,plainT,iK,iO (f:=T.str) (λ_=>by simp[plainT])]
def zi(pl:Plan):plainT (.lst (pl.map cv))=true:=by simp only[plainT];exact iO Cg pl
def Kl(p:Str×χ):dep (cv p)<=2:=by have:=mF (f:=T.str) (n:=0) (λ_=>by simp[dep]) p.2;simp only[cv,dep,B1];lia
def GA(pl:Plan):dep (.lst (pl.map cv))<=100:=by have:=mF Kl pl;simp only[dep];lia
end Gen
variable{r:Gen.Rw}{pl:Gen.Plan}
abbrev qal:=List Gen.Rw
namespace Gen
open PySem L2 VT
open y0 (cf NV cW)
def Eh(n:Int):NV (nY n)=true:=by
 have h0:0<=n % 26:=Bv n 15;have h1:n % 26<26:=IJ n 15;have h:∀j<26,NV (cf.cps.toList.getD j 0)=true:=by decide +kernel
 exact h _ ()
def rh{c:Int}{k:Nat}(h1:1<=n)(h8:n<=08):cW (c6 c k n)=true:=by unfold cW;rw[j7,ο (),ο (),yx,yx];show ((List.range n).map λj=>nY (Gz c k j)).all NV=true;rw[List.all_map];exact R3.mpr λj _=>Eh _
def Km{n:Int}(h:cW x=true)(hl:x.length<=07):cW (x++#[([nY n].toArray)])=true:=by
 have hx:=y0.wg h;have el:(x++(#[([nY n].toArray)]:Str)).length=x.length+1:=by show (x.cps++([nY n].toArray)).size=_;simp[Str.length]
 unfold cW;rw[el,ο (),ο (),yx,yx];show (x.cps++([nY n].toArray)).toList.all NV=true;simp only[FJ,List.all_append,hx,yx];simp[Eh]
def GB{c:Int}{y:Str}(h:y∈fq c m):(∃k<m,y=c6 c k (oY c))\/y=c6 c 0 (oY c)++#[([nY (Eg c / 147)].toArray)]:=by
 have hz:∀{y},y∈((List.range m).map λk=>c6 c k (oY c))->∃k<m,y=c6 c k (oY c):=λh=>by let(k,hk,rfl):=k6.mp h;exact#[k,Bm.mp hk,9]
 unfold fq at h;split at h;rcases XZ h with h|h
 exact .inl (hz h);exact .inr h;exact .inl (hz h)
def Ci{c:Int}:∀y∈fq c m,cW y=true:=by
 intro y hy;have hs:=Kj c;rcases GB hy with⟨k,_,rfl⟩|rfl
 exact rh () ();exact Km (rh () ()) (by rw[j7];lia)
def Kn(hl:ys.length=06)(hP:Cf ys pl):∀f ps,(f,ps)∈pl->f∈ys/\ps.length<=2:=by intro f ps h;let(k,hk):=List.getElem?_of_mem h;let(h1,a,r,hr,rfl):=hP k f ps hk;exact#[fL h1,by rw[bS,pJ];exact hr]
def wd:Rw->Str
 |.df _ _=>"def"
 |.give _=>"give"
 |.put _ _=>"put"
 |.uo _ _ _ _=>"do"
 |.new _=>"new"
 |.get _ _ _=>"get"
 |.set _ _ _=>"set"
 |.call _ _ _=>"call"
 |.fail _=>"fail"
 |.wL _=>"if"
 |.pS=>"else"
 |.nZ _=>"while"
 |.fin=>"end"
 |.skip=>"skip"
def gD(st:χ)(x:Str):Bool:=match st.getLast? with
 |none=>mB (.str x) [.str "def",.str "skip"]
 |some l=>if x="give" then decide (l="def") else if x="else" then decide (l="if") else if x="end" then !decide (l="def") else !decide (x="def")
def l6(st:χ)(x:Str):χ :=
 if x="def"\/x="if"\/x="while" then st++[x] else if x="give"\/x="end" then st.dropLast else if x="else" then st.dropLast++[("else":Str)] else st
theorem gL(x:Str):∀l:χ,mB (.str x) (l.map .str)=decide (x∈l)
 |[]=>by simp[mB]
 |y::l=>by show (eqT (.str y) (.str x) || mB (.str x) (l.map .str))=_;rw[gL x l];show (decide (y=x) || decide (x∈l))=_;rw[YV];simp only[N_,aar,dQ];constructor;rintro (h|h);exact .inl h.symm;exact .inr h;rintro (h|h);exact .inl h.symm;exact .inr h
def j8(r:Rw):∃l,aZ r=.tup (.str (wd r)::l):=by cases r<;>exact#[_,9]
theorem j9{f:α->T}{xs:List α}{h:FG}{g:FS}{d:Su}(Pv:Nat->En->Prop)(h0:Pv 0 ρ)(hs:∀(i:Nat) x ρ',xs[i]?\x->Pv i ρ'->h (.tup [.int (i:Int),f x]) ρ' λρ2=>g {nx:=Pv (i+1),ct:=Pv (i+1),bk:=d.nx,rt:=d.rt} ρ2)(hd:∀ρ',Pv xs.length ρ'->d.nx ρ'):oX (dR (xs.map f)) h g d ρ:=#[Pv,h0,λi t ρ' e p=>by
 unfold dR at e;rw[X4,fU] at e;cases q:xs[i]? with
 |none=>rw[q] at e;cases e
 |some x=>rw[q] at e;cases e;exact hs i x ρ' q p,λρ' p=>hd ρ' (by unfold dR at p;rw[List.length_mapIdx,bS] at p;exact p)]
def PJ(o:Option (χ))(r:Rw):Option (χ):=o.bind λst=>if gD st (wd r)=true then some (l6 st (wd r)) else none
def mG(o:Option (χ))(rs:qal):Option (χ):=rs.foldl PJ o
def j_(o:Option (χ))(a b:qal):mG o (a++b)=mG (mG o a) b:=R0
def zj(rs:qal):mG none rs=none:=by
 induction rs with
 |nil=>rfl
 |cons r rs ih=>exact ih
def GC{st:χ}(h:gD st (wd r)=true):PJ (some st) r\l6 st (wd r):=by show (if gD st (wd r)=true then _ else _)=_;rw[ι h]
def f6{st:χ}(h:gD st (wd r)=true):mG (some st) [r]\l6 st (wd r):=GC h
theorem zl{rs:qal}{st:χ}(h:mG (some []) rs\st)(i:Nat)(hr:rs[i]?\r) :
  ∃s,mG (some []) (rs.take i)\s/\gD s (wd r)=true/\mG (some []) (rs.take (i+1))\l6 s (wd r):=by
 have e:rs=rs.take i++(r::rs.drop (i+1)):=by have hg:=(c7.mp hr).2;rw[<- hg,List.getElem_cons_drop,X3]
 have e2:rs.take (i+1)=rs.take i++[r]:=by have hg:=(c7.mp hr).2;rw[<- hg,List.take_append_getElem]
 rw[e,j_] at h;cases hs:mG (some []) (rs.take i) with
 |none=>rw[hs,zj] at h;cases h
 |some s=>
   rw[hs] at h;have h':mG (PJ (some s) r) (rs.drop (i+1))\st:=h;cases hm:gD s (wd r) with
   |false=>
     have:PJ (some s) r=none:=by show (if gD s (wd r)=true then _ else _)=_;rw[hm];rfl
     rw[this,zj] at h';cases h'
   |true=>exact#[s,9,hm,by rw[e2,j_,hs];exact f6 hm]
abbrev uq:Str:="def"
def Hd(x:Str):Prop:=x="if"\/x="while"\/x="else"
def Hd.ne(h:Hd x):x≠"def":=by obtain rfl|rfl|rfl:=h<;>decide +kernel
def vd(h:ij ys pl r):∀st,st≠[]->gD st (wd r)=true/\l6 st (wd r)=st:=by
 intro st yL;obtain⟨l,hl⟩:∃l,st.getLast?\l:=by
  cases e:st.getLast? with
  |none=>rw[List.getLast?_eq_none_iff] at e;exact absurd e yL
  |some l=>exact#[l,9]
 have k:∀x:Str,(x="put"\/x="do"\/x="new"\/x="get"\/x="set"\/x="call"\/x="fail"\/x="skip")->gD st x=true/\l6 st x=st:=by intro x hx;unfold gD l6;rw[hl];obtain rfl|rfl|rfl|rfl|rfl|rfl|rfl|rfl:=hx<;>exact#[(by show (if _ then _ else _)=true;rw[θ (by decide +kernel),θ (by decide +kernel),θ (by decide +kernel)];decide +kernel),(by rw[θ (by decide +kernel),θ (by decide +kernel),θ (by decide +kernel)])]
 cases r<;>first
  |exact h.elim
  |exact k _ (by simp[wd])
def Ko(st:χ):l6 st "if"=st++[("if":Str)]:=by unfold l6;rw[ι (.inr 5)]
def n4(st:χ):l6 st "while"=st++[("while":Str)]:=by unfold l6;rw[ι (.inr (.inr 9))]
def Ei(st:χ):l6 st "def"=st++[uq]:=by unfold l6;rw[ι 5]
def wR(st:χ):l6 st "end"=st.dropLast:=by unfold l6;rw[θ (by decide +kernel),ι (by decide +kernel)]
def Kq(st:χ):l6 st "give"=st.dropLast:=by unfold l6;rw[θ (by decide +kernel),ι (by decide +kernel)]
def zo(st:χ):l6 st "else"=st.dropLast++[("else":Str)]:=by unfold l6;rw[θ (by decide +kernel),θ (by decide +kernel),ι 9]
def Ej(st:χ)(l x:Str)(hx:x="if"\/x="while"):gD (st++[l]) x=true:=by unfold gD;rw[RX];obtain rfl|rfl:=hx<;>(show (if _ then _ else _)=true;rw[θ (by decide +kernel),θ (by decide +kernel),θ (by decide +kernel)];decide +kernel)
def GD(st:χ):gD (st++[("if":Str)]) "else"=true:=by unfold gD;rw[RX];decide +kernel
def zq(st:χ){l:Str}(h:l≠"def"):gD (st++[l]) "end"=true:=by unfold gD;rw[RX];show (if _ then _ else _)=true;rw[θ (by decide +kernel),θ (by decide +kernel),ι 9,ς h];rfl
def Yq(st:χ):gD (st++[uq]) "give"=true:=by unfold gD;rw[RX];show (if _ then _ else _)=true;decide +kernel
def qc{st:χ}(h:st≠[]):∃s l,st=s++[l]:=#[st.dropLast,st.getLast h,(acw h).symm]
def PK{ck new eO}(h:rf ys pl ck new eO)(hs:∀x∈ck,Hd x) :
  mG (some (uq::ck)) new\(uq::eO)/\∀x∈eO,Hd x:=by
 have hd:∀st:χ,∃s l,uq::st=s++[l]:=λst=>qc 6;obtain⟨o,_,rfl,rfl⟩|⟨o,_,rfl,rfl⟩|⟨y,_,rfl,rfl⟩|⟨s0,rfl,rfl,rfl⟩|⟨s0,x,es,rfl,e'⟩|⟨r,hr,rfl,e'⟩:=h
 let(s,l,e):=hd ck;refine#[?_,?_];rw[f6 (by rw[e];exact Ej s l _ 5)];show some (l6 _ "if")=_;rw[Ko];rfl;intro x hx;rcases fM.mp hx with hx|hx
 exact hs x hx;simp only[dQ,gR,aah] at hx;exact .inl hx;let(s,l,e):=hd ck;refine#[?_,?_];rw[f6 (by rw[e];exact Ej s l _ (.inr 9))];show some (l6 _ "while")=_;rw[n4];rfl;intro x hx;rcases fM.mp hx with hx|hx
 exact hs x hx;simp only[dQ,gR,aah] at hx;exact .inr (.inl hx);let(s,l,e):=hd ck;refine#[?_,?_];have h1:mG (some (uq::ck)) [Rw.nZ (.nm y)]\((uq::ck)++[("while":Str)]):=by show some (l6 _ "while")=_;rw[n4]
 have h2:=vd (ys:=[y]) (pl:=[]) (r:=.uo y (.nm y) "minus" (.nu 1)) #[by simp,by simp[dX],by simp[reckon],by decide,by decide] ((uq::ck)++[("while":Str)]) 6;show mG (mG (some (uq::ck)) [Rw.nZ (.nm y)]) [Rw.uo y (.nm y) "minus" (.nu 1)]=_;rw[h1,f6 h2.1,h2.2];rfl;intro x hx;rcases fM.mp hx with hx|hx
 exact hs x hx;simp only[dQ,gR,aah] at hx;exact .inr (.inl hx);refine#[?_,?_];have e:uq::(s0++[("if":Str)])=(uq::s0)++[("if":Str)]:=rfl;rw[e,f6 (GD _)];show some (l6 _ "else")=_;rw[zo,X5];rfl;intro x hx;rcases fM.mp hx with hx|hx
 exact hs x (hY _ hx);simp only[dQ,gR,aah] at hx;exact .inr (.inr hx);subst es;subst e';refine#[?_,λy hy=>hs y (hY _ hy)];have e:uq::(eO++[x])=(uq::eO)++[x]:=rfl;rw[e,f6 (zq _ (hs x 6).ne)];show some (l6 _ "end")=_;rw[wR,X5];subst e';have:=vd hr (uq::eO) 6;refine#[?_,hs];rw[f6 this.1,this.2]
def Kr{ck body}(h:Body ys pl ck body):mG (some [uq]) body\(uq::ck)/\∀x∈ck,Hd x:=by
 induction h with
 |nil=>exact#[9,λx hx=>nomatch hx]
 |step _ h2 ih=>have:=PK h2 ih.2;exact#[by rw[j_,ih.1];exact this.1,this.2]
theorem zt:∀(n:Nat)(ck:χ),ck.length=n->(∀x∈ck,Hd x)->mG (some (uq::ck)) (List.replicate n .fin)=some [uq]
 |0,ck,hl,_=>by rw[NL] at hl;subst hl;rfl
 |n+1,ck,hl,hs=>by let(s,l,rfl):=qc (st:=ck) (by intro z;subst z;cases hl);show mG (mG (some ((uq::s)++[l])) [Rw.fin]) (List.replicate n .fin)=_;rw[f6 (zq _ (hs l 6).ne)];show mG (some (l6 _ "end")) _=_;rw[wR,X5];exact zt n s (by simpa using hl) λx hx=>hs x (hY _ hx)
def PL{rs:qal}(h:Pre ys pl n rs):mG (some []) rs=some []:=by
 induction h with
 |zero=>rfl
 |@succ k rs f ps ck body o sk _ hk hb ho hs ih=>
  rw[j_,ih];show mG (some (l6 [] "def")) _=_;rw[Ei,j_];have hB:=Kr hb;show mG (mG (some [uq]) body) _=_;rw[hB.1,j_,zt _ ck 9 hB.2];show mG (mG (some ([]++[uq])) [Rw.give o]) sk=_;show mG (some (l6 _ "give")) sk=_;obtain rfl|rfl:=hs
  rfl;rw[f6 (by decide +kernel)];rfl
def wU:List (Str×Nat)->Str->Option Nat
 |[],_=>none
 | (k,i)::l,f=>if k=f then some i else wU l f
theorem wV(l m:List (Str×Nat))(f:Str):wU (l++m) f=match wU l f with
  |some i=>some i
  |none=>wU m f:=by
 induction l with
 |nil=>rfl
 |cons p l ih=>let(k,i):=p;simp only[List.cons_append,wU];by_cases h:k=f;rw[ι h,ι h];rw[θ h,θ h];exact ih
def NW(l:List (Str×Nat))(i:Nat):Rw->List (Str×Nat)
 |.df f _=>match wU l f with
  |some _=>l
  |none=>l++[(f,i)]
 |_=>l
def bf(rs:qal):Nat->List (Str×Nat)
 |0=>[]
 |n+1=>match rs[n]? with
  |some r=>NW (bf rs n) n r
  |none=>bf rs n
theorem zu{rs:qal}{f:Str}{j:Nat}:∀n,wU (bf rs n) f\j->j<n/\∃ps,rs[j]?\.df f ps
 |0,h=>nomatch h
 |n+1,h=>by
  have old:wU (bf rs n) f\j->j<n+1/\∃ps,rs[j]?\.df f ps:=λh=>by have:=zu n h;exact#[(),this.2]
  simp only[bf] at h;split at h
  rename_i r hr
  cases r with
  |df g ps=>
   simp only[NW] at h;split at h;exact old h
   rename_i hn
   rw[wV] at h;split at h
   rename_i i hi
   cases h;exact old hi;simp only[wU] at h;split at h
   rename_i e
   cases h;subst e;exact#[(),ps,hr];cases h
  |_=>exact old h
  exact old h
theorem vf{rs:qal}{f:Str}{i:Nat}{ps:χ}(hi:rs[i]?\.df f ps):∀n,i<n->∃j,wU (bf rs n) f\j
 |0,h=>absurd h ()
 |n+1,h=>by
  simp only[bf];by_cases e:i=n;subst e;rw[hi];simp only[NW];cases ha:wU (bf rs i) f with
  |some j=>exact#[j,ha]
  |none=>refine#[i,?_];rw[wV,ha];simp only[wU,aaT]
  let(j,hj):=vf hi n ();split
  rename_i r hr
  cases r with
  |df g qs=>simp only[NW];split;exact#[j,hj];rw[wV,hj];exact#[j,9]
  |_=>exact#[j,hj]
  exact#[j,hj]
end Gen
variable{rs:qal}
namespace K5
structure Kd where
 op:Bool
 cl:Bool
 el:Bool
 df:Bool
deriving DecidableEq,Inhabited
section
variable(kd:Nat->Kd)
def st:Nat->qao
 |0=>[]
 |k+1=>let s:=if (kd k).cl=true then (st k).dropLast else st k
  if (kd k).op=true then s++[k] else s
def dp(k:Nat):Nat:=(st kd k).length
structure WF(n:Nat):Prop where
 ex:∀k,k<n->(kd k).op=true->(kd k).cl=false
 cl:∀k,k<n->(kd k).cl=true->st kd k≠[]
 el:∀k,k<n->(kd k).el=true->st kd k≠[]
 nc:∀k,k<n->(kd k).el=true->(kd k).cl=false/\(kd k).op=false
 dn:∀k,k<n->(kd k).df=true->(kd k).op=true
 fin:st kd n=[]
end
section
variable{kd:Nat->Kd}
def jc{k:Nat}(h:(kd k).op=true)(h':(kd k).cl=false):st kd (k+1)=st kd k++[k]:=by simp[st,h,h']
def jz{k:Nat}(h:(kd k).cl=true)(h':(kd k).op=false):st kd (k+1)=(st kd k).dropLast:=by simp[st,h,h']
def fZ{k:Nat}(h:(kd k).cl=false)(h':(kd k).op=false):st kd (k+1)=st kd k:=by simp[st,h,h']
def WF.ex'(W:WF kd n){k:Nat}(hk:k<n)(h:(kd k).cl=true):(kd k).op=false:=by
 cases q:(kd k).op with
 |false=>rfl
 |true=>rw[W.ex k hk q] at h;cases h
def Ek(W:WF kd n){k:Nat}(hk:k<n)(h:(kd k).op=true):dp kd (k+1)=dp kd k+1:=by unfold dp;rw[jc h (W.ex k hk h)];simp
theorem rj(W:WF kd n){k:Nat}(hk:k<n)(h:(kd k).cl=true):dp kd (k+1)+1=dp kd k:=by
 unfold dp;rw[jz h (W.ex' hk h),Bt];have:=X6.mpr (W.cl k hk h)
 lia
def Ks{k:Nat}(h:(kd k).cl=false)(h':(kd k).op=false):dp kd (k+1)=dp kd k:=by unfold dp;rw[fZ h h']
theorem Kt(W:WF kd n):∀k,k<=n->∀i j,(st kd k)[i]?\j->j<k/\(kd j).op=true/\dp kd j=i/\∀m,j<m->m<=k->i<dp kd m
 |0,_,i,j,h=>by simp[st] at h
 |k+1,hk,i,j,h=>by
  have ih:=Kt W k ();have yA:k<n:=by lia
  have ext:∀{i j:Nat},(st kd k)[i]?\j->i<dp kd (k+1)->j<k+1/\(kd j).op=true/\dp kd j=i/\∀m,j<m->m<=k+1->i<dp kd m:=λ{i j} h hd=>by let(a,b,c,d):=ih i j h;refine#[(),b,c,λm h1 h2=>?_];by_cases e:m=k+1;rw[e];exact hd;exact d m h1 ()
  by_cases ho:(kd k).op=true;rw[jc ho (W.ex k yA ho)] at h;have hd:=Ek W yA ho;by_cases hi:i<(st kd k).length;rw[pI hi] at h;exact ext h (by rw[hd];exact Bj hi);rw[uN ()] at h;have e:i-(st kd k).length=0:=by
   cases q:i-(st kd k).length with
   |zero=>rfl
   |succ r=>rw[q] at h;simp at h
  rw[e] at h;simp at h;subst h;have ei:i=dp kd k:=by unfold dp;lia
  refine#[(),ho,ei.symm,λm h1 h2=>?_];have:m=k+1:=by lia
  rw[this,hd,ei];lia;have qy:(kd k).op=false:=by cases q:(kd k).op<;>simp_all
  by_cases hc:(kd k).cl=true;rw[jz hc qy] at h;have hi:=(c7.mp h).1;have hd:dp kd (k+1)=(st kd k).dropLast.length:=by unfold dp;rw[jz hc qy]
  rw[T2,ι (by rw[Bt] at hi;exact hi)] at h;exact ext h (by rw[hd];exact hi);have tZ:(kd k).cl=false:=by cases q:(kd k).cl<;>simp_all
  rw[fZ tZ qy] at h;have hd:=Ks tZ qy;exact ext h (by rw[hd];exact (c7.mp h).1)
theorem SM(W:WF kd n){j:Nat}(ho:(kd j).op=true):∀k,j<k->k<=n->(∀m,j<m->m<=k->dp kd j<dp kd m)->(st kd k)[dp kd j]?\j
 |0,h,_,_=>by lia
 |k+1,h,hk,hm=>by
  have yA:k<n:=by lia
  by_cases e:j=k;subst e;rw[jc ho (W.ex j yA ho)];unfold dp;simp;have ih:=SM W ho k () () λm h1 h2=>hm m h1 ();have hd:=hm (k+1) () (cL _);by_cases qy:(kd k).op=true;rw[jc qy (W.ex k yA qy),pI (c7.mp ih).1];exact ih;have VL:(kd k).op=false:=by cases q:(kd k).op<;>simp_all
  by_cases hc:(kd k).cl=true;have hl:dp kd (k+1)=(st kd k).length-1:=by unfold dp;rw[jz hc VL,Bt]
  rw[jz hc VL,T2,ι ()];exact ih;have tZ:(kd k).cl=false:=by cases q:(kd k).cl<;>simp_all
  rw[fZ tZ VL];exact ih
def ka(kd:Nat->Kd)(n d:Nat):Nat->Nat->Option Nat
 |0,_=>none
 |f+1,k=>if k<n then (if dp kd (k+1)=d then some k else ka kd n d f (k+1)) else none
def endOf(kd:Nat->Kd)(n j:Nat):Option Nat:=ka kd n (dp kd j) (n-(j+1)) (j+1)
theorem mH{d:Nat}:∀{f k e:Nat},ka kd n d f k\e->k<=e/\e<n/\dp kd (e+1)=d/\∀m,k<=m->m<e->dp kd (m+1)≠d
 |0,_,_,h=>by cases h
 |f+1,k,e,h=>by
  simp only[ka] at h;split at h
  rename_i hk
  split at h
  rename_i hd
  cases h;exact#[cL _,hk,hd,λm h1 h2=>by lia]
  rename_i hd
  let(a,b,c,r):=mH h;refine#[(),b,c,λm h1 h2=>?_];by_cases em:m=k;rw[em];exact hd;exact r m () h2;cases h
theorem mJ{d:Nat}:∀{f k:Nat},ka kd n d f k=none->∀m,k<=m->m<k+f->m<n->dp kd (m+1)≠d
 |0,k,_,m,h1,h2,_=>by lia
 |f+1,k,h,m,h1,h2,h3=>by
  simp only[ka] at h;split at h;split at h;cases h
  rename_i hd
  by_cases em:m=k;rw[em];exact hd;exact mJ h m () () h3
  lia
theorem PM(W:WF kd n){k:Nat}(hk:k<n):dp kd k<=dp kd (k+1)+1:=by
 by_cases ho:(kd k).op=true;rw[Ek W hk ho];lia;have qy:(kd k).op=false:=by cases q:(kd k).op<;>simp_all
 by_cases hc:(kd k).cl=true;rw[rj W hk hc];exact cL _;have tZ:(kd k).cl=false:=by cases q:(kd k).cl<;>simp_all
 rw[Ks tZ qy];lia
theorem above(W:WF kd n){j:Nat}(hj:j<n)(ho:(kd j).op=true):∀k,j<k->k<=n->(∀m,j<m->m<k->dp kd (m+1)≠dp kd j)->∀m,j<m->m<=k->dp kd j<dp kd m
 |0,h,_,_,m,_,_=>by lia
 |k+1,h,hk,fY,m,h1,h2=>by
  by_cases em:m=k+1;subst em;by_cases e:j=k;subst e;rw[Ek W hj ho];lia;have ih:=above W hj ho k () () (λm a b=>fY m a ()) k () (cL _);have s:=PM W (k:=k) ();have ne:=fY k () ()
  lia
  by_cases e:j=k
  lia
  exact above W hj ho k () () (λm a b=>fY m a ()) m h1 ()
theorem end_is(W:WF kd n)(hj:j<n)(ho:(kd j).op=true):∃e,endOf kd n j\e/\j<e/\e<n/\dp kd (e+1)=dp kd j/\∀m,j<m->m<e->dp kd (m+1)≠dp kd j:=by
 cases h:endOf kd n j with
 |some e=>let(a,b,c,d):=mH h;exact#[e,9,(),b,c,λm h1 h2=>d m () h2]
 |none=>
  exfalso;have q:=mJ h;have a:=above W hj ho n hj (cL _) (λm h1 h2=>q m () () h2) n hj (cL _);have z:dp kd n=0:=by unfold dp;rw[W.fin];rfl
  lia
theorem kc:∀k,(st kd k).Pairwise (·<·)/\∀j∈st kd k,j<k
 |0=>#[List.Pairwise.nil,λj h=>(by simp[st] at h)]
 |k+1=>by
  let(h1,h2):=kc k;have base:∀{s:qao},s.Sublist (st kd k)->s.Pairwise (·<·)/\∀j∈s,j<k:=λsl=>#[h1.sublist sl,λj h=>h2 j (sl.subset h)];have key:∀{s:qao},s.Sublist (st kd k)->(if (kd k).op=true then s++[k] else s).Pairwise (·<·)/\∀j∈(if (kd k).op=true then s++[k] else s),j<k+1:=λ{s} sl=>by
   let(a,b):=base sl;split;refine#[List.pairwise_append.mpr #[a,List.pairwise_singleton _ _,λx hx y hy=>by rw[fE.mp hy];exact b x hx],λj hj=>?_];rcases fM.mp hj with h|h
   exact Bj (b j h);rw[fE.mp h];exact qw _;exact#[a,λj hj=>Bj (b j hj)]
  simp only[st];by_cases hc:(kd k).cl=true;rw[ι hc];exact key (List.dropLast_sublist _);rw[θ hc];exact key (List.Sublist.refl _)
def endsAt(kd:Nat->Kd)(n j:Nat):Option Nat:=if (kd j).op=true then endOf kd n j else none
theorem PN(W:WF kd n){k:Nat}(hk:k<n)(hc:(kd k).cl=true)(ht:(st kd k).getLast?\j):endsAt kd n j\k/\j<k:=by
 have hl:(st kd k)[(st kd k).length-1]?\j:=by rw[<- FD];exact ht
 let(a,b,c,d):=Kt W k () _ j hl;let(e,h1,h2,h3,h4,h5):=end_is W () b;refine#[?_,a];unfold endsAt;rw[ι b,h1]
 congr 1
 have hd:=rj W hk hc;have yz:dp kd (k+1)=dp kd j:=by rw[c];unfold dp at hd ⊢;lia
 rcases Ub e k with l|l
 have:=d (e+1) () ()
 lia
 rcases Ub k e with l2|l2
 exact absurd yz (h5 k a l2)
 lia
theorem qd(W:WF kd n){k:Nat}(hk:k<n)(he:endsAt kd n j\k)(hj:j<n):(kd k).cl=true/\(st kd k).getLast?\j:=by
 unfold endsAt at he;by_cases ho:(kd j).op=true;rw[ι ho] at he;let(e,h1,h2,h3,h4,h5):=end_is W hj ho;rw[h1] at he;cases he;have ab:=above W hj ho k h2 () λm x y=>h5 m x y;have hk0:=ab k h2 (cL _);have hc:(kd k).cl=true:=by
  cases q:(kd k).cl with
  |true=>rfl
  |false=>exfalso;by_cases qy:(kd k).op=true;rw[Ek W hk qy] at h4;lia;rw[Ks q (by cases r:(kd k).op<;>simp_all)] at h4;lia
 refine#[hc,?_];have hd:=rj W hk hc;have:=SM W ho k h2 () ab;rw[FD];have e:(st kd k).length-1=dp kd j:=by unfold dp at hd h4 ⊢;lia
 rw[e];exact this;rw[θ ho] at he;cases he
end
end K5
namespace VT
open PySem PySem.Spec PyProof.Rows L2
structure Ku(K:qaf)(H H':Hp)(Ox:qah)(us:Λ)(p:Addr)(ls:qah):Prop where
 same:aW H H'
 tup:H' p\.tup (ls.map V.ref)
 nd:ls.Nodup
 new:∀a∈ls,H a=none
 rts:Paired (λa t=>dq K H' (ls++Ox) a t) ls us
def VM(K:qaf)(n:Nat)(G:Λ->(Λ->Prop)->Prop):Sp:=λvs H Q _=>E3 λts Ox q=>(∀a∈Ox,H a≠none)/\aD K H Ox ts vs/\ts.length=n/\G ts q /\
 ∀us,q us->∀p ls H',Ku K H H' Ox us p ls->Q (.ref p) H'
structure afW(K:qaf)(Z:Zc)(tm:qab)(d:Su)(dp:Λ->Prop)(D:Ends):Prop where
 fin:Fin K Z tm d D
 dp:∀us,dp us->∀p ls H',Ku K Z.H0 H' Z.Ox us p ls->D.rt (.ref p) H'
abbrev SN:=Su->(Λ->Prop)->En->Prop
def lSD(X:Cx)(Z:Zc)(tm:qab)(g:SN):TS:=λD σ H=>E4 λρ O d dp=>aB X.K Z tm O ρ σ H/\g d dp ρ/\afW X.K Z tm d dp D
def GF(X:Cx)(Z:Zc)(st:qaq)(g:SN):Prop:=Bx λtm=>ko X st (lSD X Z tm g)
instance{X:Cx}{Z:Zc}{st:qaq}{g:SN}:CoeFun (GF X Z st g) λ_=>∀tm,ko X st (lSD X Z tm g):=#[λh=>Bx.h h]
def PQ(ρ:En):qao->Option (Λ)
 |[]=>some []
 |i::is=>match ρ[i]?,PQ ρ is with
  |some (some (t,true)),some ts=>some (t::ts)
  |_,_=>none
section
variable{st:Stmt}{g:FS}{u:SN}{pos:Pos}
def adn(g:FS)(u:SN):SN:=λd dp ρ=>g {d with nx:=u d dp} ρ
def gr(h1:VS X Z st g)(h2:GF X Z rest u):GF X Z (st::rest) (adn g u):=.mk λtm=>ko.mj (jm (h1 tm) (h2 tm)) λD σ H #[ρ,O,d,dp,I,h,F] =>
 #[ρ,O,{d with nx:=u d dp},I,h,#[λO' ρ' σ' H' I' h'=>#[ρ',O',d,dp,I',h',F],F.fin.rt,F.fin.bk,F.fin.ct]]
def wW(X:Cx):qap->qao->Prop
 |[],is=>is=[]
 |e::es,is=>∃x p i js,e=.Name x p/\is=i::js/\X.N[i]?\x/\nJ X.env.scope x/\(x==("__debug__":Str))=false/\(x==("__classdict__":Str))=false/\starEach (e::es) X.env=(false,eval e X.env)::starEach es X.env/\wW X es js
def ado(is:qao):TA:=λσ H Q=>∃vs,Paired (λ(i:Nat) (v:V)=>σ[i]?\some v) is vs/\Q vs H
theorem El:∀{es:qap}{is:qao},wW X es is->PA X es (ado is)
 |[],is,h=>λpos ε s σ H Q I #[vs,hv,q]=>by have e:=h;subst e;cases hv;exact cV pos ε s σ H Q I q
 |e::es,is,h=>by
  let(x,p,i,js,rfl,rfl,h1,h2,h3,h4,h5,h6):=h;exact PA.weak (bD (cM h1 h2 h3 h4) (El h6) h5) λσ H Q #[vs,hv,q]=>by
   cases hv with
   |cons r t=>exact#[_,r,_,t,q]
theorem zw{K:qaf}{tm:qab}{O:HD}{ρ:En}{σ:St}{H:Hp}(I:aB K Z tm O ρ σ H):∀{is:qao}{ts:Λ},PQ ρ is\ts ->
  ∃ls:qah,Paired (λ(i:Nat) (v:V)=>σ[i]?\some v) is (ls.map V.ref)/\Paired (λ(i:Nat) (a:Addr)=>O[i]?\some a) is ls/\Paired (λa t=>dq K H (av Z O) a t) ls ts
 |[],ts,h=>by cases h;exact#[[],.nil,.nil,.nil]
 |i::is,ts,h=>by
   simp only[PQ] at h;split at h
   rename_i t us e1 e2
   cases h;let(a,h1,h2,h3):=I.root e1;let(ls,g1,g2,g3):=zw I e2;exact#[a::ls,.cons h2 g1,.cons h1 g2,.cons h3 g3];cases h
def g6{R:α->β->Prop}{l:List α}{m:List β}(h:Paired R l m){b:β}(hb:b∈m):∃a∈l,R a b:=by
 induction h with
 |nil=>cases hb
 |cons r t ih=>
  rcases dQ.mp hb with e|hb
  subst e;exact#[_,iz,r];let(a,h1,h2):=ih hb;exact#[a,iB _ h1,h2]
def Cj{tm:qab}(I:aB K Z tm O ρ σ H){is:qao}{ls:qah}(nd:is.Nodup)(h:Paired (λ(i:Nat) (a:Addr)=>O[i]?\some a) is ls):ls.Nodup:=by
 induction h with
 |nil=>exact NS
 |cons r t ih=>rw[qx] at nd ⊢;refine#[λm=>?_,ih nd.2];let(j,hj,e):=g6 t m;exact nd.1 (by rw[y9 I r e];exact hj)
def SQ(is:qao):SN:=λ_ dp ρ=>match PQ ρ is with
 |some ts=>dp ts
 |none=>False
theorem PR{is:qao}{x1}(hP:Z.P=[])(hn:wW X es is)(nd:is.Nodup)(hl:is.length<=100):GF X Z [.Return (some (.Tuple es x1 p)) pos] (SQ is):=.mk λtm=>
 l8 (PS.weak (BA (qD (El hn))) λD σ H #[ρ,O,d,dp,I,h,F]=>by
  unfold SQ at h;split at h
  rename_i ts e
  let(ls,g1,g2,g3):=zw I e;refine#[ls.map V.ref,g1,?_,λq hq=>F.dp ts h q ls _ #[?_,aK,Cj I nd g2,λa ha=>?_,?_]];rw[bS,<- R5 g2,π];lia;intro b o eb;have:=I.keep b o eb (by rw[hP];exact λz=>nomatch z);rw[aG (bK this hq)];exact this;let(i,_,e):=g6 g2 ha;rcases (I.own a (aH.mpr (fL e))).1 with z|z
  rw[hP] at z;exact nomatch z;exact z;refine Paired.pL g3 λa t r=>(r.same (aI hq)).bC λb hb=>?_;rcases fM.mp hb with z|z
  let(i,_,e):=g6 g2 z;exact hY _ (aH.mpr (fL e));exact jZ _ z;exact h.elim)
end
section
def iP(n:Nat):roots (List.replicate n none)=[]:=by
 unfold roots;induction n with
 |zero=>rfl
 |succ n ih=>rw[Ic,tX];exact ih
def vg{N:χ}{Ox:qah}{ts:Λ}(hN:ts.length<=N.length)(ox:∀a∈Ox,H a≠none)(h:aD K H Ox ts vs) :
  aB K #[H,[],Ox] [] (List.replicate N.length none) (ts.map (λt=>some (t,false))++List.replicate (N.length-ts.length) none) (start N vs) H:=by
 have hl:=h.length;have ea:av #[H,[],Ox] (List.replicate N.length none)=Ox:=by unfold av;rw[iP];rfl
 refine#[?_,by simp;lia,λi e he=>?_,by rw[iP];exact NS,λa ha=>?_,λp hp=>(nomatch hp),ox,λb o e _=>e,λp hp=>(nomatch hp)];unfold L2.start;simp[hl];rw[ea];by_cases hi:i<ts.length;rw[pI (by simpa using hi),fU] at he;have e1:ts[i]?\ts[i]:=by simp
 rw[e1] at he;cases he;let(v,h1,h2):=h.get e1;refine#[none,some v,by rw[Ib,ι ()],?_,9,v,9,h2];unfold L2.start;rw[pI (by rw[bS];lia),fU,h1];rfl;rw[uN (by simpa using hi),Ib] at he;split at he
 rename_i di
 cases he;rw[bS] at di;refine#[none,none,by rw[Ib,ι ()],?_,9];unfold L2.start;rw[uN (by rw[bS];lia),Ib,bS,ι ()];cases he;rw[iP] at ha;exact nomatch ha
def fnD{st:Stmt}{N:χ}{k:Nat}{G:Λ->(Λ->Prop)->Prop}(F:Iq K x qual st f fd)(S:az N ps (ar st))(hn:n=ps.length)(hN:n<=N.length)(fG:∀(bL:Value) (A:Around) (outer:List Env) (s:Shared) (H:Hp) (E:XK) (Ox:qah),bG k (A.deeper (envOfC qual (ar st) 8 f bL))->∀ts q,G ts q ->
    ∃g,GF (h7 iA P w K mg base N qual (ar st) f bL A outer s H E).vV #[H,[],Ox] (bH st) g/\(ts.length=n->g {nx:=λ_=>False,rt:=λ_ _=>False} q (ts.map (λt=>some (t,false))++List.replicate (N.length-ts.length) none))) :
  eD P w K mg base iA (k+1) f fd ps (VM K n G):=by
 refine F.ok S (λvs H Q E h=>?_) (λbL A outer s H vs Q E hr h=>?_);let(ts,Ox,q,_,ha,hl,_):=h;rw[ha.length,hl,hn];let(ts,Ox,q,ox,ha,hl,hG,kk):=h;let(g,hg,hq):=fG bL A outer s H E Ox hr ts q hG;exact#[_,hg [],_,_,_,q,vg () ox ha,hq hl,#[#[λ_ _ _ _ _ h=>h.elim,λ_ _ _ _ _ _ _ h=>h.elim,λ_ _ _ _ _ h=>h.elim,λ_ _ _ _ _ h=>h.elim],λus hu p ls H' D=>kk us hu p ls H' D]]
end
section
variable{k:Nat}{G:Λ->(Λ->Prop)->Prop}{pos:Pos}
def lD(X:Cx)(Z:Zc)(tm:qab)(f:En->(Λ->Prop)->Prop):TE:=λσ H Q=>E3 λρ O q=>aB X.K Z tm O ρ σ H/\f ρ q/\∀us,q us->∀p ls H',Ku X.K H H' (av Z O) us p ls->Q (.ref p) H'
def VD(X:Cx)(Z:Zc)(e:Expr)(f:En->(Λ->Prop)->Prop):Prop:=Bx λtm=>PE X e (lD X Z tm f)
instance{X:Cx}{Z:Zc}{e:Expr}{f:En->(Λ->Prop)->Prop}:CoeFun (VD X Z e f) λ_=>∀tm,PE X e (lD X Z tm f):=#[λh=>Bx.h h]
def VN(n:Nat)(g:FA)(G:Λ->(Λ->Prop)->Prop):En->(Λ->Prop)->Prop:=λρ Q=>g ρ λts=>ts.length=n/\G ts Q
def Em(F:eD X.prog X.w X.K X.mg X.base iA k f fd ps (VM X.K n G))(hr:bG k X.A)(hg:Gl X x)(hm:X.mg x\.ref f)(hk:W.keepIn X.K (.ref f)=true)(hb:Binds X.K fd ps [])(ha:VA X Z (e::es) g)(ua:gG x:=by decide)(he:starEach (e::es) X.env=(false,eval e X.env)::starEach es X.env:=by rfl)(j2:(backTo pos (starEach es X.env)).any (·.1)=false:=by rfl) :
  VD X Z (.Call (.Name x p) (e::es) [] pos) (VN n g G):=.mk λtm=>PE.weak (j1 F hr hg hm hk hb .nil oU (ha tm) ua he j2) λσ H Q #[ρ,O,q,I,hf,k] =>
 #[ρ,O,_,I,hf,λts hX vs H1 s1 a1=>by
   show VM X.K n G (vs++[]) H1 Q E0;rw[Ie];refine#[ts,av Z O,q,(I.same s1).O0,a1,hX.1,hX.2,λus hu p ls H' D=>k us hu p ls H' #[s1.trans D.same,D.tup,D.nd,λa ha=>?_,D.rts]];cases z:H a with
   |none=>rfl
   |some o=>have:=D.new a ha;rw[s1 _ _ z] at this;cases this]
def Ku.at{tm:qab}{us:Λ}{p:Addr}{ls:qah}(I:aB K Z tm O ρ σ H)(D:Ku K H H' (av Z O) us p ls):At K H' (av Z O) (.tup us) (.ref p):=by
 refine cj (e_.of D.tup) (aD.iff.mpr ?_);have key:∀{ls':qah}{Kv:Λ},(∀a∈ls',a∈ls)->Paired (λa t=>dq K H' (ls++av Z O) a t) ls' Kv->Paired (λv t=>At K H' (av Z O) t v) (ls'.map V.ref) Kv:=by
  intro ls' Kv sub h;induction h with
  |nil=>exact .nil
  |cons r t ih=>exact .cons ((r.bC λb hb=>jZ _ hb).at λz=>I.O0 _ z (D.new _ (sub _ iz))) (ih λa ha=>sub a (iB _ ha))
 exact key (λ_ h=>h) D.rts
def adp(f:En->(Λ->Prop)->Prop):FP:=λρ Q=>f ρ λus=>Q (.vw (.tup us))
def VD.vp{f:En->(Λ->Prop)->Prop}(h:VD X Z e f):VP X Z e (adp f):=.mk λtm=>PE.weak (h tm) λσ H Q #[ρ,O,q,I,hf,k] =>
 #[ρ,O,_,I,hf,λus hu p ls H' D=>k _ hu _ H' D.same #[I.same D.same,D.at I]]
end
end VT
namespace K5
open PySem L2 VT Gen
def wordOf:Rw->Str
 |.df _ _=>"def" | .give _=>"give" | .put _ _=>"put" | .uo _ _ _ _=>"do" | .new _=>"new" | .get _ _ _=>"get" | .set _ _ _=>"set" | .call _ _ _=>"call" | .fail _=>"fail"
 |.wL _=>"if" | .pS=>"else" | .nZ _=>"while" | .fin=>"end" | .skip=>"skip"
def gh(r:Rw):∃l,aZ r=.tup (.str (wordOf r)::l):=by cases r<;>exact#[_,9]
def a_:Rw->Kd
 |.df _ _=>#[true,false,false,true]
 |.give _=>#[false,true,false,false]
 |.wL _=>#[true,false,false,false]
 |.pS=>#[false,false,true,false]
 |.nZ _=>#[true,false,false,false]
 |.fin=>#[false,true,false,false]
 |_=>#[false,false,false,false]
def adq(r:Rw):decide (wordOf r="def")=(a_ r).df:=by cases r<;>first|rfl|decide +kernel
def ads(r:Rw):decide (wordOf r="else")=(a_ r).el:=by cases r<;>first|rfl|decide +kernel
def adt(r:Rw):mB (.str (wordOf r)) [.str "give",.str "end"]=(a_ r).cl:=by cases r<;>first|rfl|decide +kernel
def adu(r:Rw):mB (.str (wordOf r)) [.str "def",.str "if",.str "while"]=(a_ r).op:=by cases r<;>first|rfl|decide +kernel
def bh(rs:qal)(k:Nat):Kd:=match rs[k]? with
 |some r=>a_ r
 |none=>#[false,false,false,false]
def c_{k:Nat}(h:rs[k]?\r):bh rs k=a_ r:=by unfold bh;rw[h]
def GG(rs:qal):Prop:=WF (bh rs) 7
def oT:Option Nat->T
 |none=>.bY
 |some k=>.int (k:Int)
def tab(f:Nat->Option Nat)(n k:Nat):Λ:=(List.range n).map λi=>if i<k then oT (f i) else .bY
def f7(e:Nat->Option Nat)(n k:Nat):Λ:=(List.range n).map λj=>match e j with
 |some m=>if m<k then .int (m:Int) else .bY
 |none=>.bY
def mK(f n k):(tab f n k).length=n:=by simp[tab]
def zx(f n k):(f7 f n k).length=n:=by simp[f7]
def zy(f n):tab f n 0=List.replicate n .bY:=by unfold tab;rw[List.eq_replicate_iff];exact#[by simp,λx hx=>by simp at hx;exact hx.2.symm]
def GH(f n):f7 f n 0=List.replicate n .bY:=by unfold f7;rw[List.eq_replicate_iff];refine#[by simp,λx hx=>?_];let(j,_,rfl):=k6.mp hx;split<;>simp
def qe{f:Nat->Option Nat}{k:Nat}:(tab f n k).set k (oT (f k))=tab f n (k+1):=by refine YT λi=>?_;rw[List.getElem?_set,mK];unfold tab;rw[fU,fU];by_cases hi:i<n;rw[RU hi];by_cases e:k=i;subst e;rw[ι 9,ι hi];simp;rw[θ e];simp only[Option.map_some];by_cases l:i<k;rw[ι l,ι ()];rw[θ l,θ ()];rw[IG (by simp;lia)];split;rw[θ ()];rfl;rfl
def zz{f:Nat->Option Nat}{k:Nat}(h:f k=none):tab f n k=tab f n (k+1):=by refine II λi _=>?_;by_cases e:i=k;subst e;rw[θ (FL _),ι (qw _),h];rfl;by_cases l:i<k;rw[ι l,ι ()];rw[θ l,θ ()]
def zA(f n):tab f n n=(List.range n).map λi=>oT (f i):=II λi hi=>by rw[ι (Bm.mp hi)]
def Kw{e:Nat->Option Nat}{k:Nat}(h:e j\k)(u:∀i,i<n->e i\k->i=j):(f7 e n k).set j (.int (k:Int))=f7 e n (k+1):=by
 refine YT λi=>?_;rw[List.getElem?_set,zx];unfold f7;rw[fU,fU];by_cases hi:i<n;rw[List.getElem?_range hi];by_cases q:j=i;subst q;rw[ι 9,ι hi];simp[h];rw[θ q];simp only[Option.map_some];cases r:e i with
 |none=>rfl
 |some m=>have:m≠k:=λz=>q (u i hi (by rw[r,z])).symm;simp only;by_cases l:m<k;rw[ι l,ι ()];rw[θ l,θ ()]
 rw[IG (by simp;lia)];split;rw[θ ()];rfl;rfl
def GJ{e:Nat->Option Nat}{k:Nat}(u:∀i,i<n->e i≠some k):f7 e n k=f7 e n (k+1):=by
 refine II λi hi=>?_;cases r:e i with
 |none=>rfl
 |some m=>have:m≠k:=λz=>u i (Bm.mp hi) (by rw[r,z]);simp only;by_cases l:m<k;rw[ι l,ι ()];rw[θ l,θ ()]
def GK{e:Nat->Option Nat}(h:∀j m,j<n->e j\m->m<n):f7 e n n=(List.range n).map λi=>oT (e i):=by
 refine II λi hi=>?_;cases r:e i with
 |none=>rfl
 |some m=>simp only;rw[ι (h i m (Bm.mp hi) r)];rfl
section
variable(kd:Nat->Kd)
def gE(k:Nat):Option Nat:=(st kd k).getLast?
def gF(k:Nat):Option Nat:=if (kd k).df=true then some k else (st kd k).head?
def yB(n:Nat):Nat->Λ
 |0=>List.replicate n .bY
 |k+1=>match (kd k).el,gE kd k with
  |true,some h=>(yB n k).set h (.int (k:Int))
  |_,_=>yB n k
end
theorem qf(kd n):∀k,(yB kd n k).length=n
 |0=>by simp[yB]
 |k+1=>by simp only[yB];split;rw[List.length_set];exact qf kd n k;exact qf kd n k
def Kx(rs:qal):Λ:=[.lst ((List.range 7).map λi=>oT (gE (bh rs) i)),.lst ((List.range 7).map λi=>oT (endsAt (bh rs) 7 i)),.lst (yB (bh rs) 7 7),.lst ((List.range 7).map λi=>oT (gF (bh rs) i))]
def Kz(rs:qal):dR (rs.map aZ)=(rs.zipIdx).map λp=>.tup [.int (p.2:Int),aZ p.1]:=by unfold dR;refine YT λi=>?_;rw[X4,fU,fU,List.getElem?_zipIdx];cases rs[i]?<;>simp
def dr:Nat->qal->Option Nat
 |d,[]=>some d
 |d,r::rs=>if (a_ r).cl=true then (if d=0 then none else dr (d-1) rs) else if (a_ r).el=true then (if d=0 then none else dr d rs) else if (a_ r).op=true then dr (d+1) rs else dr d rs
theorem gu:∀(a b:qal)(d:Nat),dr d (a++b)=(dr d a).bind λe=>dr e b
 |[],b,d=>rfl
 |r::a,b,d=>by simp only[List.cons_append,dr];split;split;rfl;exact gu a b _;split;split;rfl;exact gu a b _;split;exact gu a b _;exact gu a b _
def VQ(rs:qal){k:Nat}(h:rs[k]?\r):(st (bh rs) (k+1)).length=(if (a_ r).cl=true then (st (bh rs) k).length-1 else if (a_ r).op=true then (st (bh rs) k).length+1 else (st (bh rs) k).length):=by
 have oZ:=c_ h;by_cases hc:(a_ r).cl=true;have ho:(a_ r).op=false:=by cases r<;>first|rfl|(cases hc)
 rw[ι hc,jz (by rw[oZ];exact hc) (by rw[oZ];exact ho),Bt];have tZ:(a_ r).cl=false:=by cases q:(a_ r).cl<;>simp_all
 rw[θ hc];by_cases ho:(a_ r).op=true;rw[ι ho,jc (by rw[oZ];exact ho) (by rw[oZ];exact tZ)];simp;rw[θ ho,fZ (by rw[oZ];exact tZ) (by rw[oZ];cases q:(a_ r).op<;>simp_all)]
theorem qg{rs:qal}(h:dr 0 rs\0):∀k,k<=7->dr 0 (rs.take k)=some (st (bh rs) k).length
 |0,_=>rfl
 |k+1,hk=>by
  have ih:=qg h k ();have e:rs[k]?\rs[k]:=by simp
  have et:rs.take (k+1)=rs.take k++[rs[k]]:=by rw[List.take_succ,e];rfl
  have hs:(dr 0 (rs.take (k+1))).isSome=true:=by
   rw[<- X3 (k+1) rs,gu] at h;cases q:dr 0 (rs.take (k+1)) with
   |some _=>rfl
   |none=>rw[q] at h;cases h
  rw[et,gu,ih,X_] at hs ⊢;rw[VQ rs e];simp only[dr] at hs ⊢;by_cases hc:(a_ rs[k]).cl=true;rw[ι hc,ι hc] at *;by_cases z:(st (bh rs) k).length=0;rw[ι z] at hs;cases hs;rw[θ z]
  . rw[θ hc,θ hc] at *;by_cases hl:(a_ rs[k]).el=true
    . have ho:¬ (a_ rs[k]).op=true:=by generalize rs[k]=r at hl;cases r<;>first|(cases hl;done)|(intro z;cases z)
      rw[ι hl,θ ho] at *;by_cases z:(st (bh rs) k).length=0;rw[ι z] at hs;cases hs;rw[θ z]
    rw[θ hl] at *;split<;>rfl
def adv(h:dr 0 rs\0):GG rs:=by
 have at':∀{k:Nat},k<7->∃r,rs[k]?\r/\bh rs k=a_ r:=λ{k} hk=>#[rs[k],by simp,c_ 6];have step:∀{k:Nat}{r:Rw},rs[k]?\r->(a_ r).cl=true\/(a_ r).el=true->st (bh rs) k≠[]:=λ{k r} hr tT z=>by
  have hk:=(c7.mp hr).1;have h1:=qg h k ();have h2:=qg h (k+1) ();have et:rs.take (k+1)=rs.take k++[r]:=by rw[List.take_succ,hr];rfl
  rw[et,gu,h1,X_,z] at h2;simp only[dr,List.length_nil] at h2;obtain q|q:=tT
  rw[ι q,ι True.intro] at h2;cases h2;by_cases q2:(a_ r).cl=true;rw[ι q2,ι True.intro] at h2;cases h2;rw[θ q2,ι q,ι True.intro] at h2;cases h2
 refine#[λk hk ho=>?_,λk hk hc=>?_,λk hk hc=>?_,λk hk hc=>?_,λk hk hc=>?_,?_];let(r,hr,e):=at' hk;rw[e] at ho ⊢;cases r<;>first|rfl|(cases ho)
 let(r,hr,e):=at' hk;exact step hr (.inl (by rw[<- e];exact hc));let(r,hr,e):=at' hk;exact step hr (.inr (by rw[<- e];exact hc));let(r,hr,e):=at' hk;rw[e] at hc ⊢;cases r<;>first|exact#[9,9]|(cases hc)
 let(r,hr,e):=at' hk;rw[e] at hc ⊢;cases r<;>first|rfl|(cases hc)
 have:=qg h 7 (cL _);rw[N8,h] at this;exact NL.mp (Option.some.inj this).symm
def zC(h:ij ys pl r):(a_ r).cl=false/\(a_ r).el=false/\(a_ r).op=false:=by cases r<;>first|exact#[9,9,9]|exact h.elim
def VU{ck new eO}(h:rf ys pl ck new eO){d:Nat}(hd:0<d):dr (d+ck.length) new\(d+eO.length):=by
 obtain⟨o,_,rfl,rfl⟩|⟨o,_,rfl,rfl⟩|⟨y,_,rfl,rfl⟩|⟨s0,rfl,rfl,rfl⟩|⟨s0,x,rfl,rfl,rfl⟩|⟨r,hs,rfl,rfl⟩:=h
 simp[dr,a_];lia;simp[dr,a_];lia;simp[dr,a_];lia;simp[dr,a_];simp[dr,a_];let(a,b,c):=zC hs;simp[dr,a,b,c]
def PU{later:Plan}{ck:χ}{body:qal}(h:Body ys later ck body){d:Nat}(hd:0<d):dr d body\(d+ck.length):=by
 induction h with
 |nil=>rfl
 |step _ hl ih=>rw[gu,ih,X_];exact VU hl hd
theorem Eo:∀(n d:Nat),dr (d+n) (List.replicate n Rw.fin)\d
 |0,d=>rfl
 |n+1,d=>by rw[Ic];simp only[dr,a_,aaT];exact Eo n d
def VY{k:Nat}(h:Pre ys pl k rs):dr 0 rs\0:=by
 induction h with
 |zero=>rfl
 |succ _ _ hb _ hsk ih=>rw[gu,ih,X_];show dr 1 _\0;rw[gu,PU hb 15,X_,gu,Eo,X_];obtain rfl|rfl:=hsk<;>rfl
end K5
namespace L2
open PySem PySem.Spec PyProof.Rows
section
variable{a:Expr}{tb:TE}{pos:Pos}
variable{tA Y8:TT}{rest:qap}
end
section
variable{CX:Io}{k:Nat}{ks:χ}{E:XK}{m:Str}{pos OE:Pos}{o:Expr}{kws:List Keyword}{t tk:TA}{nm:Option Str}
variable{g:qag->qag->qag}{gV:qak->qak->qak}
end
section
variable{κ:Type}[DecidableEq κ]
def jk(bj:List (κ×V))(k:κ):Option V:=(bj.find? λkv=>decide (kv.1=k)).map (·.2)
def putK(bj:List (κ×V))(k:κ)(v:V):List (κ×V) :=
 if (bj.any λkv=>decide (kv.1=k))=true then bj.map (λkv=>if kv.1=k then (kv.1,v) else kv) else bj++[(k,v)]
def jA{p:κ×V}{r:List (κ×V)}{k:κ}(e:p.1=k):jk (p::r) k\p.2:=by simp[jk,Ya,e]
def jB{p:κ×V}{r:List (κ×V)}{k:κ}(e:¬ p.1=k):jk (p::r) k=jk r k:=by simp[jk,Ya,e]
theorem rm(k:κ):∀bj:List (κ×V),(bj.any λkv=>decide (kv.1=k))=(jk bj k).isSome
 |[]=>rfl
 |p::r=>by rw[FN];by_cases e:p.1=k;simp only[jA e,ο e,Uc,Option.isSome_some];rw[jB e,ς e,Ih];exact rm k r
theorem jC(bj:List (κ×V))(k:κ)(v:V):(putK bj k v).length<=bj.length+1:=by unfold putK;split;rw[bS];lia;rw[fS,vR,List.length_nil];lia
def KA{bj:List (κ×V)}{k:κ}(v:V)(h:jk bj k=none):putK bj k v=bj++[(k,v)]:=by unfold putK;rw[rm,h];exact θ 15
def l7.GL{o:Option V}{u:Option Value}(r:l7 o u):o.isSome=u.isSome:=by
 cases o with
 |none=>cases u with
  |none=>rfl
  |some _=>exact (show False from r).elim
 |some _=>cases u with
  |none=>exact (show False from r).elim
  |some _=>rfl
def l7.getD{o:Option V}{u:Option Value}{d:V}{d':Value}(r:l7 o u)(rd:RelV d d'):RelV (o.getD d) (u.getD d'):=by
 cases o with
 |none=>cases u with
  |none=>exact rd
  |some _=>exact (show False from r).elim
 |some _=>cases u with
  |none=>exact (show False from r).elim
  |some _=>exact r
def KV.val{bj:List (κ×V)}{vs:List (κ×Value)}(r:KV bj vs)(k:κ):l7 (jk bj k) (valueAt vs k):=by
 unfold KV at r;induction r with
 |nil=>exact True.intro
 |@cons p q ps qs h t ih=>
  let(h1,h2):=h;by_cases e:p.1=k;have e':q.1=k:=h1.symm.trans e;have b:valueAt (q::qs) k\q.2:=by simp[valueAt,Ya,e']
  rw[jA e,b];exact h2;have e':¬ q.1=k:=λz=>e (h1.trans z);have b:valueAt (q::qs) k=valueAt qs k:=by simp[valueAt,Ya,e']
  rw[jB e,b];exact ih
def KV.any{bj:List (κ×V)}{vs:List (κ×Value)}(r:KV bj vs)(k:κ):(bj.any λkv=>decide (kv.1=k))=vs.any λkv=>decide (kv.1=k):=by
 unfold KV at r;induction r with
 |nil=>rfl
 |cons h t ih=>rw[FN,FN,ih,h.1]
theorem KV.VZ{bj:List (κ×V)}{vs:List (κ×Value)}(r:KV bj vs)(k:κ){y:V}(ry:RelV y u) :
  KV (bj.map λkv=>if kv.1=k then (kv.1,y) else kv) (vs.map λkv=>if kv.1=k then (kv.1,u) else kv):=by
 unfold KV at r ⊢;induction r with
 |nil=>exact .nil
 |@cons p q ps qs h t ih=>rw[kH,kH];refine .cons ?_ ih;let(h1,h2):=h;by_cases e:p.1=k;rw[ι e,ι (h1.symm.trans e)];exact#[h1,ry];rw[θ e,θ (λz=>e (h1.trans z))];exact#[h1,h2]
def KV.put{bj:List (κ×V)}{vs:List (κ×Value)}(r:KV bj vs)(k:κ){y:V}(ry:RelV y u):KV (putK bj k y) (stored vs k u):=by unfold putK stored;rw[r.any k];by_cases e:(vs.any λkv=>decide (kv.1=k))=true;rw[ι e,ι e];exact r.VZ k ry;rw[θ e,θ e];exact Paired.snoc r #[9,ry]
def KV.length{bj:List (κ×V)}{vs:List (κ×Value)}(r:KV bj vs):bj.length=vs.length:=R5 r
end
def vh{k:Key}(r:RelV (kV k) u):(bN P w).is k u=true:=by
 cases k with
 |inl i=>let(t,e):=(show ∃t,u=Value.int i t from r);subst e;exact yF P w i t
 |inr x=>let(t,e):=(show ∃t,u=Value.str x t from r);subst e;exact yG P w x t
theorem vi{P:Program}{w:World}:∀{ks:List Key}{us:qag},Vals (ks.map kV) us->ItemsAre (bN P w) ks us
 |[],_,r=>by rw[Yc] at r;cases r;exact .nil
 |k::ks,_,r=>by
  rw[kH] at r;cases r with
  |cons h t=>exact .cons (vh h) (vi t)
abbrev KT(H:Hp):List (List Key×V)->List (List Key×Addr×Value)->Prop:=Paired λp q=>p.1=q.1/\H q.2.1\.tup (p.1.map kV)/\RelV p.2 q.2.2
def KT.val{xs:List (List Key×Addr×Value)}(r:KT H bj xs)(k:List Key):l7 (jk bj k) ((atKey xs k).map (·.2)):=by
 induction r with
 |nil=>exact True.intro
 |@cons p q ps qs h t ih=>
  let(h1,_,h2):=h;by_cases e:p.1=k;have e':q.1=k:=h1.symm.trans e;have b:atKey (q::qs) k\q.2:=by simp[atKey,Ya,e']
  rw[jA e,b];exact h2;have e':¬ q.1=k:=λz=>e (h1.trans z);have b:atKey (q::qs) k=atKey qs k:=by simp[atKey,Ya,e']
  rw[jB e,b];exact ih
theorem KT.VZ{xs:List (List Key×Addr×Value)}(r:KT H bj xs)(k:List Key){y:V}(ry:RelV y u) :
  KT H (bj.map λkv=>if kv.1=k then (kv.1,y) else kv) (xs.map (putAt k u)):=by
 induction r with
 |nil=>exact .nil
 |@cons p q ps qs h t ih=>rw[kH,kH];refine .cons ?_ ih;let(h1,h2,h3):=h;unfold putAt;by_cases e:p.1=k;rw[ι e,ι (h1.symm.trans e)];exact#[h1,h2,ry];rw[θ e,θ (λz=>e (h1.trans z))];exact#[h1,h2,h3]
def KT.put{xs:List (List Key×Addr×Value)}(r:KT H bj xs)(k:List Key){b:Addr}{y:V}(hb:H b\.tup (k.map kV))(ry:RelV y u) :
  KT H (putK bj k y) (storedH xs k b u):=by
 have e:(bj.any λkv=>decide (kv.1=k))=(atKey xs k).isSome:=by rw[rm,(r.val k).GL,Option.isSome_map]
 unfold putK storedH;rw[e];by_cases q:(atKey xs k).isSome=true;rw[ι q,ι q];exact r.VZ k ry;rw[θ q,θ q];exact Paired.snoc r #[9,hb,ry]
def KT.keeps{xs:List (List Key×Addr×Value)}(r:KT H bj xs)(ht:∀b ys,H b\.tup ys->H' b\.tup ys):KT H' bj xs :=
 Paired.pL r λ_ _ z=>#[z.1,ht _ _ z.2.1,z.2.2]
section
def SR{u:HO}(ok:kL P w H h)(e:Rd H a u):cb P w H h a u:=e.ok ok
def vj{bj:List (Key×V)}(ok:kL P w H h)(e:Rd H a (.dK bj)):bj.length<=sizeLine/\(a==sysModules)=false/\∃vs,KV bj vs/\h.DictOf (bN P w) a vs :=
 show cb P w H h a (.dK bj) from SR ok e
def Ep{bj:List (Key×V)}(ok:kL P w H h)(e:H a\.dK bj):bj.length<=sizeLine/\(a==sysModules)=false/\∃vs,KV bj vs/\h.DictOf (bN P w) a vs:=vj ok (.inl e)
def wX{ks:List Key}(ok:kL P w H h)(e:H a\.tup (ks.map kV)):(tupleKind (bN P w)).is h ks a:=by let(_,aR,r,o,h1,h2,n,h3):=(show cb P w H h a (.tup (ks.map kV)) from ok a _ e);exact#[o,aR.toArray,n,h1,h2,h3,by simpa using vi r]
def zD(ok:kL P w H h)(e:Rd H a (.dT bj)):bj.length<=sizeLine/\(a==sysModules)=false /\
  ∃xs,KT H bj xs/\h.DictOfH (tupleKind (bN P w)) a xs:=by
 let(z,y,xs,r,o,es,ep,h1,h2,h3,h4,h5):=(show cb P w H h a (.dT bj) from SR ok e);refine#[z,y,xs,r,o,es,ep,h1,h2,h3,h4,λx hx=>?_,h5];have all:∀{l:List (List Key×V)}{m:List (List Key×Addr×Value)},KT H l m->∀x∈m,(tupleKind (bN P w)).is h x.1 x.2.1:=by
  intro l m q;induction q with
  |nil=>intro x hx;exact nomatch hx
  |@cons p q ps qs hq t ih=>
    intro x hx;rcases dQ.mp hx with e|hx
    subst e;exact wX ok (by rw[<- hq.1];exact hq.2.1);exact ih x hx
 exact all r x hx
def adw(ok:kL P w H h)(e:H a\.dT bj):bj.length<=sizeLine/\(a==sysModules)=false /\
 ∃xs,KT H bj xs/\h.DictOfH (tupleKind (bN P w)) a xs:=zD ok (.inl e)
end
def zE(H:Hp)(a:Addr)(y:V)(r:Option V):Prop :=
 (∃bj k,Rd H a (.dK bj)/\y=kV k/\r=jk bj k)\/∃bj k b,Rd H a (.dT bj)/\y=.ref b/\H b\.tup (k.map kV)/\r=jk bj k
def wY(H:Hp)(a:Addr)(y v:V)(H':Hp):Prop :=
 (∃bj k,H a\.dK bj/\y=kV k/\bj.length<sizeLine/\H'=upd H a (.dK (putK bj k v))) \/
 ∃bj k b,H a\.dT bj/\y=.ref b/\H b\.tup (k.map kV)/\bj.length<sizeLine/\H'=upd H a (.dT (putK bj k v))
theorem zE.k{bj:List (Key×V)}{k:Key}(e:H a\.dK bj):zE H a (kV k) (jk bj k):=.inl #[bj,k,.inl e,9,9]
def wY.t{b:Addr}{k:List Key}(e:H a\.dT bj)(eb:H b\.tup (k.map kV))(hl:bj.length<sizeLine) :
 wY H a (.ref b) v (upd H a (.dT (putK bj k v))):=.inr #[bj,k,b,e,9,eb,hl,9]
section
variable{y:V}{r:Value}{o:Option V}
def Inv.big(I:Inv X ε σ H s):sysModules<8:=by have h:mainGlobals<8:=(I.mod.glob.keeps I.bk).lt;exact Ua 15 h
def GN(hu:A.units+1<cLine)(I:Inv X ε σ H s)(g:zE H a y (some v))(ry:RelV y u)(h:∀w' s',Inv X ε σ H s'->RelV v w'->Q w' s') :
  wpAny (model X.prog X.w) A (getItem (.ref a) u) Q E s:=by
 obtain⟨bj,k,e,ey,l⟩|⟨bj,k,b,e,ey,eb,l⟩:=g
 subst ey;let(z,hd,vs,rel,dd):=vj I.bZ e;let(w',hw,rw'):=l7.some_of (v:=v) (o:=valueAt vs k) (by rw[l];exact rel.val k);exact wpAny_getItem_of (vh ry) dd.mapOf hw (h w' _ (I.tok _) rw');subst ey;cases (show u=Value.ref b from ry);let(z,hd,xs,rel,dd):=zD I.bZ e;let(w',hw,rw'):=l7.some_of (v:=v) (o:=(atKey xs k).map (·.2)) (by rw[l];exact rel.val k);let(p,hp,Gs):=X2.mp hw;refine wpAny_getItem_heap (aaL hu) (wX I.bZ eb) dd hp ?_;rw[Gs];exact h w' _ (I.tok _) rw'
def wZ{ob:HO}(I:Inv X ε σ H s)(mu:YY (H a))(hs:Heap.SameBut a s.heap h')(he:∃q,h'.get? a\q)(new:cb X.prog X.w (upd H a ob) h' a ob) :
  Inv X ε σ (upd H a ob) {s with heap:=h',toks:=t'} :=
 I.write (x:=a) (e:=a) mu 5 (λb q hb z=>(hs.2 b hb).trans z) he new
def KC{bj:List (Key×V)}{vs:List (Key×Value)}(z:bj.length<=sizeLine)(hd:(a==sysModules)=false)(rel:KV bj vs)(dd:h'.DictOf (bN P w) a vs) :
 cb P w H' h' a (.dK bj):=#[z,hd,vs,rel,dd]
theorem GO{Q:Unit->Shared->Prop}(hu:A.units+1<cLine)(I:Inv X ε σ H s)(g:wY H a y v H')(ry:RelV y u)(rv:RelV v r)(h:∀s',Inv X ε σ H' s'->Q Unit.unit s') :
  wpAny (model X.prog X.w) A (setItem (.ref a) u r) Q E s:=by
 obtain⟨bj,k,e,ey,l,eH⟩|⟨bj,k,b,e,ey,eb,l,eH⟩:=g
 subst ey eH;let(z,hd,vs,rel,dd):=Ep I.bZ e;have hz:vs.length<=sizeLine:=by rw[<- rel.length];exact z
 have hl:(putK bj k v).length<=sizeLine:=by have:=jC bj k v;lia
 refine wpAny_setItem_pairs (hsz:=hz) (vh ry) dd λh' NX hs=>h _ ?_;have he:∃q,h'.get? a\q:=let #[q,_,_,hq,_]:=NX;#[q,hq];exact wZ I (by rw[e];exact True.intro) hs he (KC hl hd (rel.put k rv) NX);subst ey eH;cases (show u=Value.ref b from ry);let(z,hd,xs,rel,dd):=adw I.bZ e;have hz:xs.length<=sizeLine:=by rw[<- R5 rel];exact z
 have hl:(putK bj k v).length<=sizeLine:=by have:=jC bj k v;lia
 refine wpAny_setItem_heap (hsz:=hz) (aaL hu) (wX I.bZ eb) dd λh' NX hs=>h _ ?_;let(q,es,ep,hq,h2,h3,h4,_,h5):=NX;refine wZ I (by rw[e];exact True.intro) hs #[q,hq] #[hl,hd,_,(rel.put k eb rv).keeps λc ys ec=>?_,q,es,ep,hq,h2,h3,h4,h5];rw[aG (IL ec e (λz=>nomatch z))];exact ec
end
section
variable{bj:List (Key×V)}{k:Key}
theorem adx(I:Inv X ε σ H s)(e:Rd H a (.dK bj))(h:∀t s',Inv X ε σ H s'->Q (.int bj.length t) s'):wpAny (model X.prog X.w) A (call (.builtin "len") [.ref a]) Q E s:=by let(z,hd,vs,rel,dd):=vj I.bZ e;refine call_len_dict hd dd (by rw[<- rel.length];rw[π] at z;lia) ?_;rw[<- rel.length];exact h _ _ (I.tok _)
end
def PV(i:Expr):Prop:=∀ov iv,subscripted i false ov iv=operate [ov,iv] (getItem ov iv)
def PX{env:Env}{value slice:Expr}{pos:Pos}{T id:String}(hl:typeLookup (.type T) "__getitem__"=pure (some (.builtin id)))(hs:PV slice)(h:wpAny 14 A (eval value env) (λo s₁=>wpAny 14 A (eval slice env) (λi s₂=>s₂.TypeIs o T/\wpAny 14 A (getItem o i) Q E s₂) E s₁) E s) :
  wpAny 14 A (eval (.Subscript value slice pos) env) Q E s:=by
 refine Subscript_ (zm h (λo s₁ h₁=>zm h₁ (λi s₂ h₂=>?_) λ_ _ x=>x) λ_ _ x=>x);let(hT,h₂):=h₂;unfold subscriptTail;refine ζ ?_;rw[getitemInPython_of_ne hT.not_modules];refine ζ (wpAny_specialOf hT hl ?_);have fin:wpAny 14 A (subscripted slice false o i) (λr s₃=>wpAny 14 A (letTemporaryGo value o r >>= λ_=>pure r) Q E s₃) E s₂:=by rw[hs o i];exact wpAny_operating (zm h₂ (λr s₃ h₃=>ζ (wpAny_letTemporaryGo (η h₃))) λ_ _ x=>x)
 first
  |exact η (ζ fin)
  |exact ζ (η (ζ fin))
  |exact ζ fin
def zF{y:V}{o:Option V}(I:Inv X ε σ H s)(g:zE H a y o):s.TypeIs (.ref a) "dict":=by
 obtain⟨bj,k,e,_,_⟩|⟨bj,k,b,e,_,_,_⟩:=g
 let(_,_,vs,_,dd):=vj I.bZ e;exact dd.typeIs;let(_,_,xs,_,dd):=zD I.bZ e;exact dd.typeIs
def ady(td ty:TE):TE:=λσ H Q=>td σ H λx H1=>ty σ H1 λy H2=>∃a v,x=.ref a/\zE H2 a y (some v)/\Q v H2
def adz(td ty tv:TE):TS:=λD σ H=>tv σ H λv H1=>td σ H1 λx H2=>ty σ H2 λy H3=>∃a H4,x=.ref a/\wY H3 a y v H4/\D.nx σ H4
section
variable{o i value:Expr}{pos:Pos}{td ty tv:TE}
def Er(hu:X.A.units+1<cLine)(ho:PE X o td)(hi:PE X i ty)(hs:PV i):PE X (.Subscript o i pos) (ady td ty):=by intro ε s σ H Q I h;refine PX PySem.F.slot_dict_getitem.lookup hs (cT (ho ε s σ H _ I h) λu s1 #[x,H1,I1,rx,q1]=>cT (hi ε s1 σ H1 _ I1 q1) λiv s2 #[y,H2,I2,ry,a,v,ex,g,q2]=>?_);subst ex;obtain rfl:u=Value.ref a:=rx;exact#[zF I2 g,GN hu I2 g ry λw' s3 I3 rw'=>#[v,H2,I3,rw',q2]]
def w6(hu:X.A.units+1<cLine)(ho:PE X o td)(hi:PE X i ty)(hv:PE X value tv)(hs:swapsWith value (some (.Subscript o i pos')) pos.line X.env=pure false) :
  PS X (.Assign [.Subscript o i pos'] value pos) (adz td ty tv):=by
 intro ε s σ H D I h;refine wpAny_Assign_Subscript (cT (hv ε s σ H _ I h) λr s1 #[v,H1,I1,rv,q1]=>cT (ho ε s1 σ H1 _ I1 q1) λu s2 #[x,H2,I2,rx,q2]=>cT (hi ε s2 σ H2 _ I2 q2) λiv s3 #[y,H3,I3,ry,a,H4,ex,g,q3]=>?_) hs;subst ex;obtain rfl:u=Value.ref a:=rx;exact GO hu I3 g ry rv λs4 I4=>#[σ,H4,I4,q3]
end
def KD(h:Heap)(hb:sysModules<h.objs.size):cb P w H (h.push {cls:=.type "dict",data:=.dict ([].toArray)}) h.objs.size (.dK []) :=
 #[fB _,aag.mpr (Ne.symm (hV hb)),[],.nil,Heap.DictOf.new h]
def KG(h:Heap)(hb:sysModules<h.objs.size):cb P w H (h.push {cls:=.type "dict",data:=.dict ([].toArray)}) h.objs.size (.dT []) :=
 #[fB _,aag.mpr (Ne.symm (hV hb)),[],.nil,_,([].toArray),0,gQ _ 9,#[9,9,9],9,9,NS]
def V0:TE:=λ_ H Q=>∀p,H p=none->Q (.ref p) (upd H p (.dK []))
def V1:TE:=λ_ H Q=>∀p,H p=none->Q (.ref p) (upd H p (.dT []))
section
variable{pos:Pos}
def KH:PE X (.Dict [] [] pos) V0:=λε s σ H Q I h=>
 wpAny_Dict_empty #[.ref 8,_,I.laid (a:=8) (o:=.dK []) (t':=s.toks) (λ_ _ q=>dF _ q) (cL _) (KD s.heap I.big),9,h _ (I.bZ.fresh (cL _))]
def rp:PE X (.Dict [] [] pos) V1:=λε s σ H Q I h=>
 wpAny_Dict_empty #[.ref 8,_,I.laid (a:=8) (o:=.dT []) (t':=s.toks) (λ_ _ q=>dF _ q) (cL _) (KG s.heap I.big),9,h _ (I.bZ.fresh (cL _))]
end
structure M2(X:Cx)(o:Expr)(m:Str)(apos:Pos)(e f:Expr)(bM:Pos):Prop where
 base:attributeBase o m X.env (eval o X.env)=eval o X.env
 few:((backTo bM (starEach [e,f] X.env)).all (λx=>!x.1) && (backToKw bM (keywordEach [] X.env)).all (λx=>x.1.isSome)
  && decide (([e,f]:qap).length+([]:List Keyword).length+(if ([]:List Keyword).isEmpty then 0 else 1)<30))=true
 line:(apos.endLine==bM.line)=true
 trees:backTo bM (starEach [e,f] X.env)=[(false,eval e X.env),(false,eval f X.env)]
def IsD(H:Hp)(a:Addr):Prop:=(∃bj,Rd H a (.dK bj))\/∃bj,Rd H a (.dT bj)
def KI(I:Inv X ε σ H s)(d:IsD H a) :
  s.TypeIs (.ref a) "dict"/\(∀b,Value.ref a=.ref b->∃ob,s.heap.get? b\ob/\ob.dict=none)/\(a==sysModules)=false:=by
 obtain⟨bj,e⟩|⟨bj,e⟩:=d
 let(_,hd,vs,_,dd):=vj I.bZ e;refine#[dd.typeIs,λb q=>?_,hd];cases q;let(ob,_,_,h1,h2,_):=dd;exact#[ob,h1,h2.2.1];let(_,hd,xs,_,dd):=zD I.bZ e;refine#[dd.typeIs,λb q=>?_,hd];cases q;let(ob,_,_,h1,h2,_):=dd;exact#[ob,h1,h2.2.1]
section
variable{y d:V}{r:Value}{o:Option V}
def V2(hu:A.units+1<cLine)(I:Inv X ε σ H s)(g:zE H a y o)(ry:RelV y u)(rd:RelV d r)(h:∀w' s',Inv X ε σ H s'->RelV (o.getD d) w'->Q w' s') :
  wpAny (model X.prog X.w) A (call (.builtin "dict.get") [.ref a,u,r]) Q E s:=by
 obtain⟨bj,k,e,ey,l⟩|⟨bj,k,b,e,ey,eb,l⟩:=g
 subst ey;let(z,hd,vs,rel,dd):=vj I.bZ e;refine aaG YN dd.typeIs acT (acP _ _ _) (meets_dict_get_default (bN X.prog X.w) a (vh ry) hd r) #[_,dd.mapOf,h _ _ (I.tok _) ?_];rw[l];exact (rel.val k).getD rd;subst ey;cases (show u=Value.ref b from ry);let(z,hd,xs,rel,dd):=zD I.bZ e;refine aaG YN dd.typeIs acT (acP _ _ _) (meetsH_dict_get_default (tupleKind (bN X.prog X.w)) a b hd r) #[aaL hu,k,xs,wX I.bZ eb,dd,h _ _ (I.tok _) ?_];rw[l];exact (rel.val k).getD rd
end
def V3(td ty tx:TE):TE:=λσ H Q=>td σ H λx H1=>∃a,x=.ref a/\IsD H1 a/\ty σ H1 λy H2=>tx σ H2 λz H3=>∃o,zE H3 a y o/\Q (o.getD z) H3
section
variable{o f:Expr}{td ty tx:TE}
def KJ(hu:X.A.units+1<cLine)(ho:PE X o td)(he:PE X e ty)(hf:PE X f tx)(m:M2 X o "get" apos e f bM):PE X (.Call (.Attribute o "get" apos) [e,f] [] bM) (V3 td ty tx):=by
 intro ε s σ H Q I h;refine wpAny_Call_method m.base m.few m.line YK YN PySem.F.type_dict_get (cT (ho ε s σ H _ I h) λu s1 #[x,H1,I1,rx,a,ex,d,q1]=>?_);subst ex;obtain rfl:u=Value.ref a:=rx;let(t1,t2,_):=KI I1 d;refine#[t1,t2,?_];rw[m.trees];refine YL 9 (Calls.evalArgs_plain (YS (cT (he ε s1 σ H1 _ I1 q1) λiv s2 #[y,H2,I2,ry,q2] =>
  YS (cT (hf ε s2 σ H2 _ I2 q2) λfv s3 #[z,H3,I3,rz,ov,g,q3]=>Calls.spliced_nil ?_))))
 exact V2 hu I3 g ry rz λw' s4 I4 rw'=>#[_,H3,I4,rw',q3]
end
end L2
namespace Att
open PySem PySem.W PySem.Calls PyProof.Rows
end Att
namespace L2
open PySem PySem.Spec PyProof.Rows
section
def GP:dh X (.builtin "len") (λxs H Q=>∃a bj,xs=[V.ref a]/\H a\.dK bj/\Q (.int bj.length) H):=by intro ε s σ H xs us Q I r h;let(a,bj,rfl,ha,q):=h;let(u,rfl,ru):=vals1 r;cases ru;exact adx I (.inl ha) λt s' I'=>#[.int bj.length,H,I',#[t,9],q]
end
end L2
namespace VT
open PySem PySem.Spec PyProof.Rows L2
def PY:T->Option Key
 |.int i=>some (.inl i)
 |.str x=>some (.inr x)
 |_=>none
def w_{A:qah}{t:T}{k:Key}(h:hW K H A t v)(e:PY t\k):v=kV k:=by
 cases t with
 |int i=>cases e;exact h.int
 |str x=>cases e;exact h.str
 |_=>cases e
def g7{α:Type}:List Key->List α->Key->Option α
 |k::ks,t::ts,x=>if k=x then some t else g7 ks ts x
 |_,_,_=>none
theorem ik:∀(ks:List Key)(vs:qak)(x:Key),jk (ks.zip vs) x=g7 ks vs x
 |[],vs,x=>rfl
 |k::ks,[],x=>rfl
 |k::ks,v::vs,x=>by simp only[g7,T6];by_cases e:k=x;rw[ι e,jA (p:=(k,v)) e];rw[θ e,jB (p:=(k,v)) e];exact ik ks vs x
def zG(ts:List α)(x:Key):g7 [] ts x=none:=by cases ts<;>rfl
theorem iQ{K:qaf}{H:Hp}{A:qah}:∀{ks:List Key}{ts:Λ}{vs:qak}{x:Key},aD K H A ts vs->(∀t,g7 ks ts x\t->∃v,g7 ks vs x\v/\At K H A t v)/\(g7 ks ts x=none->g7 ks vs x=none)
 |[],ts,vs,x,h=>by rw[zG,zG];refine#[λt e=>?_,λ_=>rfl];cases e
 |k::ks,[],vs,x,h=>by simp only[aD] at h;subst h;exact#[λt e=>(by cases e),λ_=>rfl]
 |k::ks,t::ts,vs,x,h=>by simp only[aD] at h;let(v,r,rfl,h1,h2):=h;simp only[g7];by_cases e:k=x;rw[ι e,ι e];exact#[λt e=>by cases e;exact#[v,9,h1],λq=>by cases q];rw[θ e,θ e];exact iQ h2
section
variable{a:Expr}{fc:FE}{pos:Pos}
def adA:FP:=λ_ Q=>Q (.fr (.dk [] []))
def PZ:VP X Z (.Dict [] [] pos) adA:=.mk λtm=>PE.weak KH λσ H Q #[ρ,O,q,I,hf,k] p hp=>
 k _ hf _ _ (aI hp) (I.newD (ks:=[]) (ts:=[]) (vs:=[]) hp 9 aD.nil)
def adB(fa fb:FE):FP:=λρ Q=>fa ρ λx=>fb ρ λy=>match x,PY y with
 |.dk ks ts,some k=>∃t,g7 ks ts k\t/\Q (.vw t)
 |_,_=>False
def KL(hu:X.A.units+1<cLine)(ha:VR X Z a fa)(hb:VR X Z b fb)(hs:PV b:=by intro _ _;rfl):VP X Z (.Subscript a b pos) (adB fa fb):=.mk λtm=>PE.weak (Er hu (ha tm) (hb tm) hs) λσ H Q #[ρ,O,q,I,hf,k] =>
 #[ρ,O,_,I,hf,λx hx v H1 s1 a1=>#[ρ,O,_,I.same s1,hx,λy hy w H2 s2 a2=>by
  split at hy
  rename_i ks ts kk e
  let(t,e1,hq):=hy;let(l,vs,rfl,hl,hd,hv):=(a1.same s2).dk;let(u,e2,e3):=(iQ hv).1 t e1;rw[w_ a2 e];exact#[l,u,9,by rw[<- e2,<- ik];exact zE.k hd,k _ hq _ H2 (s1.trans s2) #[(I.same s1).same s2,e3]];exact hy.elim]]
def P0{A:qah}{ks:List Key}{ts:Λ}{k:Key}{z:T}{w:V}(h:aD K H A ts vs)(hz:At K H A z w):At K H A ((g7 ks ts k).getD z) ((g7 ks vs k).getD w):=by
 cases e:g7 ks ts k with
 |none=>rw[(iQ h).2 e];exact hz
 |some t=>let(v,e1,e2):=(iQ h).1 t e;rw[e1];exact e2
end
section
variable{a:Expr}{pos:Pos}
def SS(ts:Λ)(q:qam):Prop:=match ts with
 |[.dk ks vs]=>q (.vw (.int (vs.length:Int)))
 |_=>False
def Ck:my K (λxs H Q=>∃a bj,xs=[V.ref a]/\H a\.dK bj/\Q (.int bj.length) H) SS:=by intro Z tm O ρ σ H ts vs q Q I h hp k;unfold SS at hp;split at hp;let(v,rfl,a):=dH h;let(l,ws,rfl,hl,hd,hv):=a.dk;refine#[l,_,9,hd,?_];rw[NR,hl,R6,hv.length];exact k _ hp _ H (aW.refl H) #[I,bw];exact hp.elim
end
end VT
namespace RV
open PySem PySem.Spec PyProof.Rows
section
variable{R:Result->Shared->Prop}
variable{I:Addr}{wr:qah}{G:Array GenState->Array GenState->Prop}{P:Nat->Value->Prop}{St:Nat->Shared->Prop}
end
end RV
namespace VT
open PySem PySem.Spec PyProof.Rows L2
def vk(h:n+101<cLine):n+1<cLine:=by lia
def SU(w:World)(K:qaf)(e:DictEntry)(p:Str×T):Prop:=e.hash=PyData.keyHash w.params p.1/\(∃t,e.key=.str p.1 t)/\∃v,RelV v e.val/\∀H A,At K H A p.2 v
def Es(w:World)(K:qaf)(a:Addr)(l:List (Str×T)):Prop:=E2 λes ep=>K.lookup a=some #[.type "dict",none,.dict es ep,([].toArray)]/\(a==sysModules)=false/\Paired (SU w K) es.toList l/\(l.map (·.1)).Nodup
theorem ents{P:Program}{w:World}{K:qaf}:∀{es:List DictEntry}{l:List (Str×T)},Paired (SU w K) es l ->
  ∃(vs:qak)(us:List (Key×Value)),(∀H A,aD K H A (l.map (·.2)) vs)/\KV ((l.map λp=>(Sum.inr p.1:Key)).zip vs) us/\PySem.Pairs (bN P w) es us/\us.map (·.1)=l.map (λp=>(Sum.inr p.1:Key))/\∀e∈es,∃k,(bN P w).is k e.key=true/\e.hash=(bN P w).hash k
 |_,_,.nil=>#[[],[],λ_ _=>aD.nil,.nil,.nil,9,λ_ h=>nomatch h]
 |_,_,.cons (a:=e) (b:=p) r t=>by
   let(vs,us,h1,h2,h3,h4,h5):=ents (P:=P) t;let(r1,(tk,r2),v,r3,r4):=r;have hk:(bN P w).is (Sum.inr p.1) e.key=true:=by rw[r2];show Value.isStrOf p.1 (.str p.1 tk)=true;simp[Value.isStrOf]
   refine#[v::vs,(Sum.inr p.1,e.val)::us,λH A=>aD.cons (r4 H A) (h1 H A),.cons #[9,r3] h2,.cons hk 9 h3,by rw[kH,kH,h4],λe' he=>?_];rcases dQ.mp he with q|q
   subst q;exact#[Sum.inr p.1,hk,r1];exact h5 e' q
def Es.of{l:List (Str×T)}(I:Inv X ε σ H s)(d:Es X.w X.K a l) :
  ∃(vs:qak)(us:List (Key×Value)),(∀H A,aD X.K H A (l.map (·.2)) vs)/\KV ((l.map λp=>(Sum.inr p.1:Key)).zip vs) us/\s.heap.DictOf (bN X.prog X.w) a us/\(a==sysModules)=false:=by
 let(es,ep,lk,hs,hp,nd):=d;let(vs,us,h1,h2,h3,h4,h5):=ents (P:=X.prog) hp;refine#[vs,us,h1,h2,#[_,es,ep,I.vT a _ lk,#[9,9,9],9,λe he=>h5 e (by simpa using he),h3,?_],hs];rw[h4];have e:(l.map λp=>(Sum.inr p.1:Key))=(l.map (·.1)).map Sum.inr:=by rw[yE];rfl
 rw[e];exact List.Pairwise.map _ (λa b h z=>h (Sum.inr.inj z)) nd
section
variable{fc:FE}{l:List (Str×T)}
def V4(l:List (Str×T))(k:Str):Option T:=g7 (l.map λp=>(Sum.inr p.1:Key)) (l.map (·.2)) (Sum.inr k)
def onStr(t:T)(f:Str->Prop):Prop:=match t with
 |.str k=>f k
 |_=>False
def KN{t:T}{f:Str->Prop}(h:onStr t f):∃k,t=.str k/\f k:=by unfold onStr at h;split at h;exact#[_,9,h];exact h.elim
def afX(l:List (Str×T))(fe fc:FE):FP:=λρ Q=>fe ρ λy=>fc ρ λz=>onStr y λk=>Q (.vw ((V4 l k).getD z))
def KO(hg:Gl X x)(hm:X.mg x\.ref a)(d:Es X.w X.K a l)(he:VR X Z e fe)(hc:VE X Z c fc)(m:M2 X (.Name x p) "get" apos e c bM)(hd:gG x:=by decide) :
  VP X Z (.Call (.Attribute (.Name x p) "get" apos) [e,c] [] bM) (afX l fe fc):=.mk λtm ε s σ H Q I #[ρ,O,q,E,hf,k]=>by
 refine wpAny_Call_method m.base m.few m.line YK YN PySem.F.type_dict_get (cT (DK hg hm (v:=.ref a) 9 hd ε s σ H (λv H'=>v=.ref a/\H'=H) I #[9,9]) λu s1 #[x',H1,I1,rx,ex,eH]=>?_);subst ex eH;obtain rfl:u=Value.ref a:=rx;let(vs,us,h1,h2,dd,hs):=d.of I1;refine#[dd.typeIs,λb q=>?_,?_];cases q;let(ob,_,_,z1,z2,_):=dd;exact#[ob,z1,z2.2.1];rw[m.trees];refine YL 9 (Calls.evalArgs_plain (YS (cT (he tm ε s1 σ H1 (λy H2=>∃t,hW X.K H2 (av Z O) t y/\aW H1 H2/\fc ρ λz=>onStr t λk=>q (.vw ((V4 l k).getD z))) I1 #[ρ,O,_,E,hf,λt ht v H' s a1=>#[t,a1,s,ht]]) λiv s2 #[y,H2,I2,ry,t,a1,sa,q2] =>
  YS (cT (hc tm ε s2 σ H2 (λz H3=>∃tz,At X.K H3 (av Z O) tz z/\aW H2 H3/\onStr t λk=>q (.vw ((V4 l k).getD tz))) I2 #[ρ,O,_,E.same sa,q2,λtz htz v H' s a2=>#[tz,a2,s,htz]]) λfv s3 #[z,H3,I3,rz,tz,a2,sb,q3]=>Calls.spliced_nil ?_))))
 let(kk,et,q3):=KN q3;subst et;let(lu,Kv,JP,JQ,NX,hs'):=d.of I3;have ey:=a1.str;subst ey;refine aaG YN NX.typeIs acT (acP _ _ _) (meets_dict_get_default (bN X.prog X.w) a (vh (k:=Sum.inr kk) ry) hs' fv) #[_,NX.mapOf,#[_,H3,I3.tok _,(JQ.val (Sum.inr kk)).getD rz,?_]];rw[ik];exact k _ q3 _ H3 (sa.trans sb) #[(E.same sa).same sb,P0 (JP H3 (av Z O)) a2]
end
section
theorem mM:∀{us:qag}{zs:χ},StrsAre us zs->Vals (zs.map V.str) us
 |_,_,.nil=>.nil
 |_,_,.cons x t h=>.cons #[t,9] (mM h)
theorem mO:∀{us:qag}{zs:qan},IntsAre us zs->Vals (zs.map V.int) us
 |_,_,.nil=>.nil
 |_,_,.cons x t h=>.cons #[t,9] (mO h)
def zH{out:Array Value}{Q:VK}(I:Inv X ε σ H s)(hx:Vals xs out.toList)(hl:xs.length<=sizeLine)(q:∀a,H a=none->Q (.ref a) (upd H a (.lst xs))) :
  EP X ε σ Q (.ref (8+1)) {s with heap:=sortedAll s.heap us out}:=by
 let(e,he):=sortedAll_at s.heap us out;refine#[.ref (8+1),_,I.laid (a:=8+1) (o:=.lst xs) (t':=s.toks) (λb o h=>sortedAll_old h) (IK _) #[hl,out.toList,e,hx,?_],9,q _ (I.bZ.fresh (IK _))];rw[he]
end
section
variable{A:qah}
theorem zI:∀zs:χ,aD K H A (zs.map T.str) (zs.map V.str)
 |[]=>aD.nil
 |z::zs=>aD.cons cO (zI zs)
theorem zJ:∀zs:qan,aD K H A (zs.map T.int) (zs.map V.int)
 |[]=>aD.nil
 |z::zs=>aD.cons bw (zJ zs)
theorem vm:∀{ys:qan}{vs:qak},aD K H A (ys.map T.int) vs->vs=ys.map V.int
 |[],vs,h=>by simpa only[Yc,aD] using h
 |y::ys,vs,h=>by simp only[kH,aD] at h;let(v,r,rfl,h1,h2):=h;simp only[At] at h1;rw[h1,vm h2];rfl
end
section
theorem P4:Sh X "dict.setdefault" (λx xs H Q=>∃(a:Addr)(bj:List (Key×V))(k:Key)(v:V),x=.ref a/\xs=[kV k,v]/\H a\.dK bj/\bj.length<sizeLine /\
  (∀u,jk bj k\u->Q u H)/\(jk bj k=none->Q v (upd H a (.dK (L2.putK bj k v))))):=by
 intro ε s σ H x xs v us Q I rx rs h;let(a,bj,k,y,rfl,rfl,ha,hsz,q1,q2):=h;cases rx;obtain⟨u1,u2,rfl,ru1,ru2⟩:∃u1 u2,us=[u1,u2]/\RelV (kV k) u1/\RelV y u2:=by
  cases rs with
  |cons r1 t=>cases t with
    |cons r2 t2=>cases t2;exact#[_,_,9,r1,r2]
 let(z,hd,vs,rel,dd):=Ep I.bZ ha;refine aaG PySem.F.slot_dict_setdefault dd.typeIs PySem.F.entry_dict_setdefault (PySem.F.args_dict_setdefault_3 _ _ _) (kt_meets_setdefault (bN X.prog X.w) a (vh ru1) hd u2) #[vs,dd,by rw[<- rel.length];lia,λv0 hv=>?_,λhn h' NX hs=>?_];have yO:=rel.val k;rw[hv] at yO;cases e:jk bj k with
 |none=>rw[e] at yO;cases yO
 |some w0=>rw[e] at yO;have hr:=yO;exact#[w0,H,I.tok _,hr,q1 w0 e]
 have yO:=rel.val k;rw[hn] at yO;cases e:jk bj k with
 |some w0=>rw[e] at yO;cases yO
 |none=>
   have he:∃q,h'.get? a\q:=let #[q,_,_,hq,_]:=NX;#[q,hq];have hl:(L2.putK bj k y).length<=sizeLine:=by have:=jC bj k y;lia
   exact#[y,_,wZ I (by rw[ha];exact True.intro) hs he (KC hl hd (rel.put k ru2) NX),ru2,q2 e]
end
section
variable{e1 e2:Expr}{f1 f2:FE}
def SV(n:Nat)(f1 f2:FE):FX:=λρ Q=>match ρ[n]? with
 |some (some (.dk ks ts,true))=>f1 ρ λx=>f2 ρ λy=>match PY x with
  |some k=>ts.length<16777216/\match g7 ks ts k with
   |some t=>Q ρ (.vw t)
   |none=>Q (ρ.set n (some (.dk (ks++[k]) (ts++[y]),true))) (.vw y)
  |none=>False
 |_=>False
theorem P5(n:Nat)(h1:VE X Z e1 f1)(h2:VE X Z e2 f2)(hN:X.N[n]?\x:=by rfl)(hv:nJ X.env.scope x:=by exact jvv 9)(hd:gG x:=by decide)(fW:tQ x:=by decide)(du:attributeBase (.Name x p) "setdefault" X.env (eval (.Name x p) X.env)=eval (.Name x p) X.env:=by rfl)(qH:((backTo bM (starEach [e1,e2] X.env)).all (λx=>!x.1) && (backToKw bM (keywordEach [] X.env)).all (λx=>x.1.isSome)
    && decide (([e1,e2]:qap).length+([]:List Keyword).length+(if ([]:List Keyword).isEmpty then 0 else 1)<30))=true:=by rfl)(dw:(apos.endLine==bM.line)=true:=by rfl)(hs:starEach [e1,e2] X.env=(false,eval e1 X.env)::starEach [e2] X.env:=by rfl)(BH:starEach [e2] X.env=(false,eval e2 X.env)::starEach [] X.env:=by rfl)(gi:(backTo bM (starEach [e2] X.env)).any (·.1)=false:=by rfl) :
  VX X Z (.Call (.Attribute (.Name x p) "setdefault" apos) [e1,e2] [] bM) (SV n f1 f2):=.mk λtm=>
 PE.weak (yR YK PySem.F.slot_dict_setdefault PySem.F.type_dict_setdefault P4 (cM hN hv hd fW) (bD (h1 tm) (bD (h2 tm) cV BH) hs) du qH dw hs gi) λσ H Q #[ρ,O,q,I,hf,kk]=>by
  unfold SV at hf;split at hf
  rename_i ks ts e0
  let(l,g1,g2,xs,hl,g3,g4):=I.root e0;have ha:l∈av Z O:=hY _ (aH.mpr (fL g1));refine#[.ref l,g2,.inr (.inr (.inl #[9,.inl #[_,g3]])),ρ,O,_,I,hf,λt ht v H1 s1 a1=>#[ρ,O,_,I.same s1,ht,λy hy w H2 s2 a2=>?_]];split at hy
  rename_i kk' ek
  let(hlen,hy):=hy;have ev:=w_ (.inl a1) ek;subst ev;have hz:(ks.zip xs).length<sizeLine:=by
   rw[π,NR,hl,R6,g4.length]
   lia
  have J:=(I.same s1).same s2;have b4:=(g4.same s1).same s2;refine#[l,ks.zip xs,kk',w,9,9,s2 _ _ (s1 _ _ g3),hz,λu hu=>?_,λhn=>?_];rw[ik] at hu;cases eg:g7 ks ts kk' with
  |none=>rw[(iQ b4).2 eg] at hu;cases hu
  |some t0=>rw[eg] at hy;let(v0,e1,e2):=(iQ b4).1 t0 eg;rw[e1] at hu;cases hu;exact kk _ _ hy O _ _ #[J,e2]
  rw[ik] at hn;cases eg:g7 ks ts kk' with
  |some t0=>let(v0,e1,e2):=(iQ b4).1 t0 eg;rw[e1] at hn;cases hn
  |none=>
    rw[eg] at hy;have e1:L2.putK (ks.zip xs) kk' w=(ks++[kk']).zip (xs++[w]):=by rw[KA _ (by rw[ik];exact hn),List.zip_append hl];rfl
    rw[e1];exact kk _ _ hy O _ _ #[J.wrote e0 g1 #[xs++[w],by simp[hl],aK,(b4.append (aD.cons a2 aD.nil)).wrote ha (s2 _ _ (s1 _ _ g3)) 9],a2.wrote ha (s2 _ _ (s1 _ _ g3)) 9]
  exact hy.elim;exact hf.elim
end
def rq{α:Type}(f:Str):χ->List α->Option α
 |n::ns,t::ts=>match f==n with
  |true=>some t
  |false=>rq f ns ts
 |_,_=>none
def GQ(f:Str):χ->χ
 |[]=>[f]
 |n::ns=>if n=f then n::ns else n::GQ f ns
def pT{α:Type}(f:Str)(u:α):χ->List α->List α
 |n::ns,t::ts=>if n=f then u::ts else t::pT f u ns ts
 |_,_=>[u]
theorem rA(f:Str):∀(ns:χ)(vs:qak),(ns.zip vs).lookup f=rq f ns vs
 |[],vs=>by cases vs<;>rfl
 |n::ns,[]=>rfl
 |n::ns,v::vs=>by
  rw[T6,N6];unfold rq;cases f==n with
  |true=>rfl
  |false=>exact rA f ns vs
theorem zK(f:Str)(y:V):∀(ns:χ)(vs:qak),ns.length=vs.length->jo f y (ns.zip vs)=(GQ f ns).zip (pT f y ns vs)/\(GQ f ns).length=(pT f y ns vs).length
 |[],[],_=>#[9,9]
 |[],v::vs,h=>by simp at h
 |n::ns,[],h=>by simp at h
 |n::ns,v::vs,h=>by have ih:=zK f y ns vs (by simpa using h);show (if n=f then (n,y)::ns.zip vs else (n,v)::jo f y (ns.zip vs))=_/\_;unfold GQ pT;by_cases e:n=f;rw[ι e,ι e,ι e];exact#[9,by simpa using h];rw[θ e,θ e,θ e,ih.1];exact#[9,by simp[ih.2]]
section
variable{A:qah}{f:Str}
theorem zL:∀{ns:χ}{ts:Λ}{vs:qak}{t:T},aD K H A ts vs->rq f ns ts\t->∃v,rq f ns vs\v/\At K H A t v
 |[],ts,vs,t,_,e=>by cases ts<;>cases e
 |n::ns,[],vs,t,_,e=>by cases e
 |n::ns,t0::ts,vs,t,h,e=>by
  let(v,r,rfl,h1,h2):=h;unfold rq at e ⊢;cases q:f==n with
  |true=>rw[q] at e;cases e;exact#[v,9,h1]
  |false=>rw[q] at e;exact zL h2 e
theorem Et:∀{ns:χ}{ts:Λ}{vs:qak}{t:T}{v:V},aD K H A ts vs->At K H A t v->aD K H A (pT f t ns ts) (pT f v ns vs)
 |[],ts,vs,t,v,_,q=>by
  have e1:pT f t [] ts=[t]:=by cases ts<;>rfl
  have e2:pT f v [] vs=[v]:=by cases vs<;>rfl
  rw[e1,e2];exact aD.cons q aD.nil
 |n::ns,[],vs,t,v,h,q=>by subst h;exact aD.cons q aD.nil
 |n::ns,t0::ts,vs,t,v,h,q=>by let(v0,r,rfl,h1,h2):=h;unfold pT;by_cases e:n=f;rw[ι e,ι e];exact aD.cons q h2;rw[θ e,θ e];exact aD.cons h1 (Et h2 q)
end
section
variable{f:Str}{pos:Pos}
def adC(C:Addr)(f:Str)(fe:FE):FP:=λρ Q=>fe ρ λt=>match t with
 |.ins C' ns ts=>C'=C/\∃u,rq f ns ts\u/\Q (.vw u)
 |_=>False
def aQ(cl:Im X.K C)(na:cN X.K C f)(h:VR X Z e fe)(hb:attributeBase e f X.env (eval e X.env)=eval e X.env:=by rfl):VP X Z (.Attribute e f pos) (adC C f fe):=.mk λtm=>
 PE.weak (BK (h tm) hb) λσ H Q #[ρ,O,q,I,hf,k]=>#[ρ,O,_,I,hf,λt ht v H1 s1 a1=>by
  split at ht
  rename_i C' ns ts
  let(rfl,u,e1,hq):=ht;let(a,dx,vs,rfl,hl,hd,hv):=a1.ins;let(w,e2,e3):=zL hv e1;exact#[a,_,dx,_,w,9,hd,cl,na,by rw[rA];exact e2,k _ hq _ H1 s1 #[I.same s1,e3]];exact ht.elim]
def Cm(n:Nat)(C:Addr)(f:Str)(fe:FE):FS:=λd ρ=>match ρ[n]? with
 |some (some (.ins C' ns ts,true))=>C'=C/\fe ρ λv=>ts.length<1000/\d.nx (ρ.set n (some (.ins C' (GQ f ns) (pT f v ns ts),true)))
 |_=>False
def fP(n:Nat)(cl:Im X.K C)(na:cN X.K C f)(he:VE X Z e fe)(hN:X.N[n]?\x:=by rfl)(hv:nJ X.env.scope x:=by exact jvv 9)(hd:gG x:=by decide)(fW:tQ x:=by decide)(hs:swapsWith e (some (.Attribute (.Name x p) f eC)) pos.line X.env=pure false:=by rfl) :
  VS X Z (.Assign [.Attribute (.Name x p) f eC] e pos) (Cm n C f fe):=.mk λtm=>
 PS.weak (UN (cM hN hv hd fW) (he tm) hs) λD σ H #[ρ,O,d,I,q,F]=>by
  unfold Cm at q;split at q
  rename_i C' ns ts e0
  let(rfl,q):=q;let(l,h1,h2,dx,xs,hl,h3,h4):=I.root e0;have ha:l∈av Z O:=hY _ (aH.mpr (fL h1));refine#[ρ,O,_,I,q,λt ht v H1 s1 a1=>#[.ref l,h2,l,_,dx,_,9,s1 _ _ h3,cl,na,?_,?_]];rw[NR,hl,R6,h4.length];exact ht.1;have pz:=zK f v ns xs hl;rw[pz.1];exact F.nx O _ σ _ ((I.same s1).wrote (t':=.ins _ (GQ f ns) (pT f t ns ts)) e0 h1 #[dx,pT f v ns xs,pz.2,aK,aD.wrote ha (s1 _ _ h3) 9 (Et (h4.same s1) a1)]) ht.2;exact q.elim
def V5(K:qaf)(C:Addr)(n:Nat)(G:Λ->(T->Prop)->Prop):Sp:=B2 K (true::List.replicate n false) λts q=>match ts with
 |.ins C' [] []::us=>C'=C/\G us λu=>q [u] (.vw .bY)
 |_=>False
def adD(n:Nat)(g:FA)(G:Λ->(T->Prop)->Prop):FP:=λρ Q=>g ρ λts=>ts.length=n/\G ts λu=>Q (.fr u)
def Eu{G:Λ->(T->Prop)->Prop}{tm:qab}{ts:Λ}{q:qam}{Q:VK}(I:aB X.K Z tm O ρ σ H)(a:aD X.K H (av Z O) ts vs)(hn:ts.length=n)(hG:G ts λu=>q (.fr u))(k:∀r,q r->∀v H',aW H H'->iI X.K Z tm O ρ σ H' r v->Q v H'):∀x dx,H x=none->H dx=none->dx≠x->V5 X.K C n G (.ref x::(vs++[])) (upd (upd H dx (.own x)) x (.ins C dx [])) (λv H2=>v=.bY/\Q (.ref x) H2) E0:=by
 intro x dx hx hdx fY;rw[Ie];let(n1,n2,n3):=I.fresh hx;have s0:aW H (upd (upd H dx (.own x)) x (.ins C dx [])):=λb o e=>by rw[aG (bK e hx),aG (bK e hdx)];exact e
 have a1:=(a.more λb hb=>by
  rcases fM.mp hb with z|z
  exact .inr (by rw[fE.mp z];exact hx);exact .inl z).same s0
 refine#[.ins C [] []::ts,[x],av Z O,λus r=>r=.vw .bY/\∃u,us=[u]/\q (.fr u),by simp,λb hb=>by rw[fE.mp hb];exact n1,λb hb=>?_,#[x,[],_,ts,vs,9,9,9,#[dx,[],9,aK,aD.nil],iM hn a1],#[9,?_],λus r hr v H' fr z=>?_];cases e:H b with
 |none=>exact absurd e (I.O0 b hb)
 |some o=>rw[s0 _ _ e];simp
 have w:(λu=>q (.fr u))=λu=>((.vw .bY:Rt)=.vw .bY/\∃u',[u]=[u']/\q (.fr u')):=by funext u;exact propext #[λh=>#[rfl,u,rfl,h],λ#[_,u',e,h]=>by cases e;exact h]
 rw[<- w];exact hG;let(rfl,u,rfl,hq):=hr;let(z1,z2):=z;refine#[z1,?_];cases z2 with
 |cons r _=>
  have s:=λb o e=>fr b o (s0 b o e) (by rw[fE];exact bK e hx);let(o,eo,_):=r.mut;refine k _ hq _ H' s #[x,9,I.Sy hx s eo,r.bC λc hc=>?_,n3,n2];rcases dG c hc with z|z
  exact jZ _ z;rw[z];exact hY _ iz
def xa{kk:Nat}{G:Λ->(T->Prop)->Prop}{fI:Addr}(M:Mk X.K C fI)(F:eD X.prog X.w X.K X.mg X.base iA kk fI fd ps (V5 X.K C n G))(hr:bG (kk+1) X.A)(hg:Gl X x)(hm:X.mg x\.ref C)(hb:Binds X.K fd ps [])(ha:VA X Z (e::es) g)(ua:gG x:=by decide)(he:starEach (e::es) X.env=(false,eval e X.env)::starEach es X.env:=by rfl)(j2:(backTo pos (starEach es X.env)).any (·.1)=false:=by rfl) :
  VP X Z (.Call (.Name x p) (e::es) [] pos) (adD n g G):=.mk λtm=>PE.weak (DP M F hr hg hm hb .nil oU (ha tm) ua he j2) λσ H Q #[ρ,O,q,I,hf,k] =>
 #[ρ,O,_,I,hf,λts hX vs H1 s1 a1=>Eu (I.same s1) a1 hX.1 hX.2 λr hr v H' s z=>k r hr v H' (s1.trans s) z]
end
structure Dc(K:qaf)(mg:qae)(cls qual:Str)(st:Stmt)(ps:χ)(C f:Addr)(fd:FuncData):Prop where
 F:Iq K "__init__" qual st f fd
 m:mg cls\.ref C
 b:Binds K fd ps []
 M:Mk K C f
def zM(P:Program)(w:World)(K:qaf)(mg:qae)(base:Heap)(cls:Str)(C:Addr)(ps:χ)(k n:Nat)(G:Λ->(T->Prop)->Prop):Prop :=
 ∃f fd,Mk K C f/\mg cls\.ref C/\Binds K fd ps []/\eD P w K mg base iA k f fd ps (V5 K C n G)
section
def Dc.fm{cls:Str}{st:Stmt}{k:Nat}{G:Λ->(T->Prop)->Prop}(D:Dc K mg cls qual st ps C f fd)(F:eD P w K mg base iA k f fd ps (V5 K C n G)):zM P w K mg base cls C ps k n G :=
 #[f,fd,D.M,D.m,D.b,F]
def fnI{st:Stmt}{N:χ}{k:Nat}{G:Λ->(T->Prop)->Prop}(F:Iq K x qual st f fd)(S:az N ps (ar st))(hn:n+1=ps.length)(fG:∀(bL:Value) (A:Around) (outer:List Env) (s:Shared) (H:Hp) (E:XK) (as Ox:qah),bG k (A.deeper (envOfC qual (ar st) 8 f bL))->∀(us:Λ) (q:Λ->qam),us.length=n->G us (λu=>q [u] (.vw .bY)) ->
    ∃g,ku (h7 iA P w K mg base N qual (ar st) f bL A outer s H E).vV #[H,pz (true::List.replicate n false) as 0,Ox] (bH st) g /\
     g {nx:=λρ=>q (lz (true::List.replicate n false) ρ) (.vw .bY),rt:=λρ r=>q (lz (true::List.replicate n false) ρ) r} (some (.ins C [] [],true)::wx (List.replicate n false) us++List.replicate (N.length-(us.length+1)) none)) :
  eD P w K mg base iA (k+1) f fd ps (V5 K C n G) :=
 fnV F S (by rw[<- hn];simp) λbL A outer s H E as Ox hr ts q hl hG=>by
  cases ts with
  |nil=>exact hG.elim
  |cons t us=>cases t with
    |ins C' ns vs=>cases ns with
      |nil=>cases vs with
        |nil=>let(e,hG'):=hG;subst e;exact fG bL A outer s H E as Ox hr us q (by simpa using hl) hG'
        |cons _ _=>exact hG.elim
      |cons _ _=>exact hG.elim
    |_=>exact hG.elim
end
def Ew(a d:Addr):HO:=.ext λh=>h.get? a=some {cls:=.type "dict_values",data:=.fields ([.ref d].toArray)}
theorem zN(val:Nat->Int):∀k,∃j≤k,argBest (λi j=>decide (val i<val j)) k=j/\∀i≤k,val j<=val i
 |0=>#[0,cL _,9,λi hi=>by rw[Nat.le_zero.mp hi];exact Int.le_refl _]
 |k+1=>by
  let(j,hj,e,h):=zN val k;unfold argBest;rw[e];by_cases q:val (k+1)<val j;rw[ι (ο q)];refine#[k+1,cL _,9,λi hi=>?_];rcases Nat.lt_or_eq_of_le hi with l|l
  exact Int.le_trans (Int.le_of_lt q) (h i (Nat.le_of_lt_succ l));rw[l];exact Int.le_refl _;rw[θ (by rw[aar];exact q)];refine#[j,Nat.le_succ_of_le hj,9,λi hi=>?_];rcases Nat.lt_or_eq_of_le hi with l|l
  exact h i (Nat.le_of_lt_succ l);rw[l];exact Int.not_lt.mp q
section
def GR:Sh X "dict.values" (λx xs H Q=>∃(d:Addr)(bj:List (Key×V)),x=.ref d/\xs=[]/\H d\.dK bj/\∀a,H a=none->Q (.ref a) (upd H a (Ew a d))):=by intro ε s σ H x xs v us Q I rx rs h;let(d,bj,rfl,rfl,hd,q):=h;cases rx;cases rs;let(z,hs,vs,rel,dd):=Ep I.bZ hd;refine aaG PySem.F.slot_dict_values dd.typeIs PySem.F.entry_dict_values (PySem.F.args_dict_values_1 _) (meets_dict_values (bN X.prog X.w) d hs) #[#[vs,dd],#[.ref 8,_,I.laid (λb o e=>dF _ e) (cL _) ?_,9,q _ I.fresh]];exact#[gQ _ 9,#[_,gQ _ 9],λh1 h2 z k=>k _ z]
def xb(hc:X.calm=true):dh X (.builtin "min") (λxs H Q=>∃(a d:Addr)(bj:List (Key×V))(is:qan),xs=[.ref a]/\H a\Ew a d/\H d\.dK bj/\bj.map (·.2)=is.map V.int/\is≠[]/\∀m,m∈is->(∀i∈is,m<=i)->Q (.int m) H):=by
 intro ε s σ H xs us Q I r h;let(a,d,bj,is,rfl,ha,hd,hv,fY,q):=h;let(u,rfl,ru):=vals1 r;cases ru;let(z,hs,vs,rel,dd):=Ep I.bZ hd;let(hA,_,_):=(show cb X.prog X.w H s.heap a (Ew a d) from I.bZ a _ ha);let(ep,da):=dd.dictAt;have hh:X.A.in1.handled=none:=by simp[I.ok.hd hc]
 have hlen:vs.length=is.length:=by have:=aaa List.length hv;rw[bS,bS] at this;rw[<- rel.length];exact this
 have P6:∀(i:Nat) v,(∃k,vs[i]?\(k,v))->∃t,v=.int (is.getD i 0) t:=by
  intro i v #[k,e];have hi:=(c7.mp e).1;have hi2:i<bj.length:=by rw[rel.length];exact hi
  have e1:bj[i]?\bj[i]:=by simp[hi2]
  have key:∀{l₁:List (Key×V)}{l₂:List (Key×Value)}{i:Nat}{p:Key×V}{q:Key×Value},KV l₁ l₂->l₁[i]?\p->l₂[i]?\q->RelV p.2 q.2:=by
   intro l₁ l₂ i p q h;induction h generalizing i with
   |nil=>intro e;simp at e
   |cons r t ih=>
    intro e e';cases i with
    |zero=>simp at e e';subst e;subst e';exact r.2
    |succ i=>exact ih (by simpa using e) (by simpa using e')
  have rr:=key rel e1 e;have e2:(bj.map (·.2))[i]?\bj[i].2:=by rw[fU,e1];rfl
  rw[hv,fU] at e2;cases q2:is[i]? with
  |none=>rw[q2] at e2;cases e2
  |some m=>rw[q2] at e2;have e3:=(Option.some.inj e2).symm;rw[e3] at rr;let(t,et):=rr;exact#[t,by rw[vQ,q2];exact et]
 have V6:0<vs.length:=by rw[hlen];exact X6.mpr fY
 refine call_min_walk (wpAny_pyIter_values #[_,hA,9,9] da #[_,_,_,_,_,_,_,9,Walks.dictValues hh _ d (hV da.lt_size) vs ep,#[#[_,gQ _ 9,9,9],da.push _],λb hb=>?_,V6,CmpOf.ints_lt (λi=>is.getD i 0) P6,λv h' tk hP hk=>?_]);rw[uP];rcases dQ.mp hb with rfl|hb
 exact qw _;rw[fE.mp hb];exact Bj da.lt_size;let(j,hj,e,hm):=zN (λi=>is.getD i 0) (vs.length-1);rw[e] at hP;let(t,rfl):=P6 j v hP;have P7:j<is.length:=by lia
 refine#[.int (is.getD j 0),H,I.kept λb u eb=>hk b u (λz=>?_) (dF _ eb),#[t,9],q _ ?_ λi hi=>?_];rw[fE.mp z] at eb;exact absurd (eS eb) (FL _);rw[vQ,eZ P7];exact FK P7;let(n,hn):=T4.mp hi;have hnl:=(c7.mp hn).1;have:=hm n ();have e5:is.getD n 0=i:=by rw[vQ,hn];rfl
 rw[e5] at this;exact this
end
section
variable{a:Expr}{p1 ur kx:Pos}
def adE(fa:FE):FP:=λρ Q=>fa ρ λx=>match x with
 |.dk ks ts=>∃is,ts=is.map T.int/\is≠[]/\∀m,m∈is->(∀i∈is,m<=i)->Q (.vw (.int m))
 |_=>False
def Cn(hc:X.calm=true)(hgl:Gl X "min")(Bp:X.mg "min"=none)(ha:VR X Z a fa)(du:attributeBase a "values" X.env (eval a X.env)=eval a X.env:=by rfl)(dw:(apos.endLine==kx.line)=true:=by rfl)(he:starEach [.Call (.Attribute a "values" apos) [] [] kx] X.env=(false,eval (.Call (.Attribute a "values" apos) [] [] kx) X.env)::starEach [] X.env:=by rfl)(j2:(backTo ur (starEach [] X.env)).any (·.1)=false:=by rfl) :
  VP X Z (.Call (.Name "min" p1) [.Call (.Attribute a "values" apos) [] [] kx] [] ur) (adE fa):=.mk λtm=>
 PE.weak (jq (xb hc) hgl Bp ac9 (bD (BW YK PySem.F.slot_dict_values PySem.F.type_dict_values GR (ha tm) du dw) cV he) 15 15 he j2) λσ H Q #[ρ,O,q,I,hf,k] =>
  #[ρ,O,_,I,hf,λx hx v H1 s1 a1=>by
    split at hx
    rename_i ks ts
    let(is,rfl,fY,hq):=hx;let(d,vs,rfl,hl,hd,hv):=a1.dk;refine#[.inr (.inr (.inl #[9,.inl #[_,hd]])),d,_,9,9,hd,λb hb=>?_];have sb:aW H1 (upd H1 b (Ew b d)):=aI hb;have ev:vs=is.map V.int:=by
     clear hq fY hl hd a1;induction is generalizing vs with
     |nil=>simpa only[Yc,aD] using hv
     |cons i is ih=>let(v,r,rfl,rfl,h2):=hv;rw[ih r h2];rfl
    subst ev;refine#[b,d,_,is,9,aK,sb _ _ hd,?_,fY,λm h1 h2=>k _ (hq m h1 h2) _ _ (s1.trans sb) #[(I.same s1).same sb,bw]];rw[List.map_snd_zip];rw[hl];exact cL _;exact hx.elim]
end
end VT
namespace Lay
open PySem L2 VT Gen K5
def Yr(l:List (Str×Nat)):T:=.dk (l.map λp=>(Sum.inr p.1:Key)) (l.map λp=>T.int (p.2:Int))
def Co(l:List (Str×Nat))(f:Str):g7 (l.map λp=>(Sum.inr p.1:Key)) (l.map λp=>T.int (p.2:Int)) (Sum.inr f)=(wU l f).map λi=>T.int (i:Int):=by
 induction l with
 |nil=>rfl
 |cons p l ih=>let(k,i):=p;simp only[kH,g7,wU];by_cases h:k=f;rw[ι h,ι (by rw[h])];rfl;rw[θ h,θ (λz=>h (Sum.inr.inj z))];exact ih
theorem rB(rs:qal):∀n,(bf rs n).length<=n
 |0=>cL _
 |n+1=>by
  have:=rB rs n;simp only[bf];split
  rename_i r _
  cases r<;>simp only[NW]<;>first
   |lia
   | (split<;>simp<;>lia)
  lia
def adF:Rw->Bool
 |.df _ _=>true
 |_=>false
def il(rs:qal):Option Nat:=rs.findIdx? adF
theorem vn(rs:qal):∀n,∀p∈bf rs n,p.2<n/\∃ps,rs[p.2]?\.df p.1 ps
 |0,p,h=>nomatch h
 |n+1,p,h=>by
  have old:p∈bf rs n->p.2<n+1/\∃ps,rs[p.2]?\.df p.1 ps:=λh=>by have:=vn rs n p h;exact#[(),this.2]
  simp only[bf] at h;split at h
  rename_i r hr
  cases r with
  |df g ps=>
   simp only[NW] at h;split at h;exact old h;rcases fM.mp h with z|z
   exact old z;rw[fE] at z;subst z;exact#[qw _,ps,hr]
  |_=>exact old h
  exact old h
theorem gM{rs:qal}{i:Nat}(h:∀j,j<i->∀f ps,rs[j]?≠some (.df f ps)):∀n≤i,bf rs n=[]
 |0,_=>rfl
 |n+1,hn=>by
  simp only[bf];split
  rename_i r hr
  rw[gM h n ()];cases r with
  |df g ps=>exact absurd hr (h n () g ps)
  |_=>rfl
  exact gM h n ()
theorem jD{rs:qal}{i:Nat}{g:Str}{ps:χ}(hi:rs[i]?\.df g ps)(h:∀j,j<i->∀f ps,rs[j]?≠some (.df f ps)):∀n,i<n->∃l,bf rs n=(g,i)::l
 |0,hn=>absurd hn (Nat.not_lt_zero _)
 |n+1,hn=>by
  by_cases e:i=n;subst e;refine#[[],?_];simp only[bf,hi,NW];rw[gM h i (cL _)];rfl;let(l,hl):=jD hi h n ();simp only[bf];rw[hl];split
  rename_i r _
  cases r with
  |df f qs=>simp only[NW];split;exact#[l,9];exact#[l++[(f,n)],9]
  |_=>exact#[l,9]
  exact#[l,9]
def P8(h:adF r=true):∃f ps,r=.df f ps:=by
 cases r with
 |df f ps=>exact#[f,ps,9]
 |_=>cases h
def vo(h:il rs\i):(∃f ps,rs[i]?\.df f ps)/\∀j,j<i->∀f ps,rs[j]?≠some (.df f ps):=by unfold il at h;rw[List.findIdx?_eq_some_iff_getElem] at h;let(hl,h1,h2):=h;let(f,ps,e):=P8 h1;refine#[#[f,ps,by rw[eZ hl,e]],λj hj f ps e=>?_];let(P7,ej):=c7.mp e;have:=h2 j hj;rw[ej] at this;exact this 9
def GU(h:il rs=none):∀(j:Nat) f ps,rs[j]?≠some (Rw.df f ps):=by unfold il at h;rw[List.findIdx?_eq_none_iff] at h;intro j f ps e;have:=h _ (fL e);cases this
def Cq(h:il rs=none):bf rs 7=[]:=gM (λj _=>GU h j) _ (cL _)
def KP{m:Int}(h1:m∈(bf rs 7).map λp=>(p.2:Int))(h2:∀i∈(bf rs 7).map λp=>(p.2:Int),m<=i):T.int m=oT (il rs):=by
 cases e:il rs with
 |none=>rw[Cq e] at h1;cases h1
 |some i=>
  let((g,ps,hi),hm):=vo e;let(l,hl):=jD hi hm 7 (c7.mp hi).1;let(p,hp,rfl):=k6.mp h1;let(_,qs,hq):=vn rs _ p hp;have le1:=h2 _ (k6.mpr #[(g,i),by rw[hl];exact iz,9]);have le2:¬ p.2<i:=λz=>hm _ z _ _ hq;have:p.2=i:=by lia
  rw[this];rfl
def KQ(rs:qal):Λ:=(List.range 7).map λi=>oT (gE (bh rs) i)
def Ex(rs:qal):Λ:=(List.range 7).map λi=>oT (endsAt (bh rs) 7 i)
def V7(rs:qal):Λ:=yB (bh rs) 7 7
def zO(rs:qal):Λ:=(List.range 7).map λi=>oT (gF (bh rs) i)
def KR(rs:qal):Kx rs=[.lst (KQ rs),.lst (Ex rs),.lst (V7 rs),.lst (zO rs)]:=rfl
def c5(C:Addr)(rs:qal):T:=.ins C ["program","heads","ends","elses","homes","defs","main"] [.lst (rs.map aZ),.lst (KQ rs),.lst (Ex rs),.lst (V7 rs),.lst (zO rs),Yr (bf rs 7),oT (il rs)]
section
def dc(h:rs[i]?\r):h9 (rs.map aZ) (i:Int)\aZ r:=ai (by rw[fU,h];rfl)
def xc(h:i<7):h9 (KQ rs) (i:Int)\oT (gE (bh rs) i):=ai (by unfold KQ;rw[fU,RU h];rfl)
def qh(h:i<7):h9 (Ex rs) (i:Int)\oT (endsAt (bh rs) 7 i):=ai (by unfold Ex;rw[fU,RU h];rfl)
def lF(h:i<7):h9 (zO rs) (i:Int)\oT (gF (bh rs) i):=ai (by unfold zO;rw[fU,RU h];rfl)
end
def top(i:Nat):Stmt:=PySem.Challenge.pw_slicewise_k44_slices_of_several_sets.main.body.getD i (.Pass #[0,0,0,0])
abbrev iR:Stmt:=top 21
structure MgF(mg:qae):Prop where
 enumerate:mg "enumerate"=none
def KS(ts:Λ)(q:qam):Prop:=∃rs:qal,ts=[.lst (rs.map aZ)]/\7<=100/\q (.fr (Yr (bf rs 7)))
section
abbrev xf:χ:=["program","firsts","place","row"]
def kN:az xf qav (ar iR):=L2.eU
def uu(D:Df K mg "first_defs" iR qav f fd)(M:MgF mg):bP P w K mg base "first_defs" qav 1 (bQ K 1 KS):=by
 refine D.fm (gf D.F kN 9 λbL A outer s H E Ox hr ts q hG=>?_);have nd:=kN.nd;have hu:=bG.dW hr;have np:∀{i:Nat},aY #[H,[],Ox] i:=gX;refine#[_,(af (cP (i:=1) nd 9 5 (Ψ PZ) np)
  (af (cQ nG 9 (gK (by rfl) M.enumerate (ah 0)) (ff (n:=2) 9 (bq (aM (i:=2) nd 9 5 np) (bq (aM (i:=3) nd 9 5 np) dI)))
   (aq (bb (bF hu (ν (ay (ae 3) 4)) (ν aC))
    (aq (bA (P5 1 (ω (ay (ae 3) 4)) (ah 2))))
    aE)))
  (aq (aA (eF 1 np))))),λ_=>?_]
 let(rs,rfl,hn,hq):=hG;refine j9 (λi ρ=>E2 λb2 b3=>ρ=[some (.lst (rs.map aZ),false),some (Yr (bf rs i),true),b2,b3]) #[_,_,9] ?_ ?_;rintro i r ρ hr ⟨b2,b3,rfl⟩;have hi:=(c7.mp hr).1;have hlen:((bf rs i).map λp=>T.int (p.2:Int)).length<16777216:=by rw[bS];have:=rB rs i;lia
 have es:bf rs (i+1)=NW (bf rs i) i r:=by simp only[bf,hr]
 cases r with
 |df g ps=>
  refine#[9,9,_,aaU,?_];refine#[_,aaV,hlen,?_];rw[es];simp only[NW];rw[Co];cases ha:wU (bf rs i) g with
  |some j=>exact#[_,_,9]
  |none=>
   show E2 λb2 b3=>_=[_,some (Yr (bf rs i++[(g,i)]),true),b2,b3];have ef:Yr (bf rs i++[(g,i)])=.dk (((bf rs i).map λp=>(Sum.inr p.1:Key))++[Sum.inr g]) (((bf rs i).map λp=>T.int (p.2:Int))++[T.int (i:Int)]):=by simp only[Yr,nD,kH,Yc]
   rw[ef];exact#[_,_,9]
 |_=>refine#[9,9,_,aaU,?_];rw[es];exact#[_,_,9]
 rintro ρ ⟨b2,b3,rfl⟩;exact hq
end
end Lay
namespace K5V
open PySem L2 VT Gen K5
def top(i:Nat):Stmt:=PySem.Challenge.pw_slicewise_k44_slices_of_several_sets.main.body.getD i (.Pass #[0,0,0,0])
abbrev mP:Stmt:=top 22
structure Mg5(K:qaf)(mg:qae):Prop where
 len:mg "len"=none
 range:mg "range"=none
 enumerate:mg "enumerate"=none
 isinstance:mg "isinstance"=none
 int:mg "int"=none
 bool:mg "bool"=none
 tuple:mg "tuple"=none
 list:mg "list"=none
 zip:mg "zip"=none
 CL:∃a,mg "CLOSERS"\.ref a/\∀H,e_ K H a [.str "give",.str "end"]
 OP:∃a,mg "OPENERS"\.ref a/\∀H,e_ K H a [.str "def",.str "if",.str "while"]
def KU(ts:Λ)(q:Λ->Prop):Prop:=∃rs:qal,ts=[.lst (rs.map aZ)]/\GG rs/\7<=100/\q (Kx rs)
def qG{l:Λ}{t:T}(h:l.getLast?\t):h9 l (-1)\t:=by
 have hl:0<l.length:=by cases l<;>simp_all
 rw[FD] at h;unfold h9 vY;rw[θ 15,ι ()];have e:(-1+(l.length:Int)).toNat=l.length-1:=by lia
 rw[e];exact h
theorem KW(kd:Nat->Kd):∀k,(st kd k).length<=k
 |0=>cL _
 |k+1=>by have:=KW kd k;simp only[st];split<;>split<;>simp<;>lia
def P9(n:Nat)(t:T):(List.replicate n [t]).flatten=List.replicate n t:=by
 induction n with
 |zero=>rfl
 |succ n ih=>rw[Ic,X8,ih];rfl
def KY(rs:qal)(h e l o s:Λ)(k:Nat)(r:Rw):En:=[aP (.lst (rs.map aZ)),some (.lst h,true),some (.lst e,true),some (.lst l,true),some (.lst o,true),some (.lst s,true),aP (.int (k:Int)),aP (aZ r)]
def xh(rs:qal)(k:Nat):Λ:=(st (bh rs) k).map λ(j:Nat)=>T.int (j:Int)
def adG(rs:qal)(k:Nat)(ρ:En):Prop:=E7 λb6 b7 h e l o s=>ρ=[aP (.lst (rs.map aZ)),some (.lst h,true),some (.lst e,true),some (.lst l,true),some (.lst o,true),some (.lst s,true),b6,b7]/\h=tab (gE (bh rs)) 7 k/\e=f7 (endsAt (bh rs) 7) 7 k/\l=yB (bh rs) 7 k/\o=tab (gF (bh rs)) 7 k/\s=xh rs k
def GV(rs:qal)(M:Nat->Rw->Λ->Λ->Λ->Λ->Λ->Prop):FS:=λd ρ=>E7 λk r h e l o s=>rs[k]?\r/\ρ=KY rs h e l o s k r/\h=tab (gE (bh rs)) 7 (k+1)/\M k r h e l o s/\∀ρ',adG rs (k+1) ρ'->d.nx ρ'
def M1(rs:qal)(k:Nat)(r:Rw)(h e l o s:Λ):Prop:=e=f7 (endsAt (bh rs) 7) 7 k/\l=yB (bh rs) 7 k/\s=xh rs k/\o.length=7/\((a_ r).df=true->o.set k (.int (k:Int))=tab (gF (bh rs)) 7 (k+1))/\((a_ r).df=false->o=tab (gF (bh rs)) 7 (k+1))
def M2(rs:qal)(k:Nat)(r:Rw)(h e l o s:Λ):Prop:=e=f7 (endsAt (bh rs) 7) 7 k/\l=yB (bh rs) 7 k/\s=xh rs k/\o=tab (gF (bh rs)) 7 (k+1)
def M3(rs:qal)(k:Nat)(r:Rw)(h e l o s:Λ):Prop:=e=f7 (endsAt (bh rs) 7) 7 k/\l=yB (bh rs) 7 (k+1)/\s=xh rs k/\o=tab (gF (bh rs)) 7 (k+1)
def M4(rs:qal)(k:Nat)(r:Rw)(h e l o s:Λ):Prop:=e=f7 (endsAt (bh rs) 7) 7 (k+1)/\l=yB (bh rs) 7 (k+1)/\o=tab (gF (bh rs)) 7 (k+1)/\s=(if (a_ r).cl=true then (xh rs k).dropLast else xh rs k)
def rC{k:Nat}(h:k<n):vY n (k:Int)\k:=by unfold vY;rw[ι (),ι (),i_]
def xi{k:Nat}(h:st (bh rs) k≠[]):∃j,(st (bh rs) k).getLast?\j/\h9 (xh rs k) (-1)\.int (j:Int):=by obtain⟨j,hj⟩:∃j,(st (bh rs) k).getLast?\j:=#[_,List.getLast?_eq_some_getLast h];exact#[j,hj,qG (by unfold xh;rw[List.getLast?_map,hj];rfl)]
section
abbrev xj:χ:=["program","heads","ends","elses","homes","opened","place","row"]
def zP:az xj qav (ar mP):=L2.eU
def KZ(D:Df K mg "shape" mP qav f fd)(M:Mg5 K mg):bP P w K mg base "shape" qav 1 (VM K 1 KU):=by
 refine D.fm (fnD D.F zP 9 15 λbL A outer s H E Ox hr ts q hG=>?_);have nd:=zP.nd;have hu:=bG.dW hr;have np:∀{i:Nat},aY #[H,[],Ox] i:=gX;let(ac,mc,V8):=M.CL;let(ao,mo,hao):=M.OP;have GW:∀{pos},VP (h7 iA P w K mg base xj "shape" (ar mP) f bL A outer s H E).vV #[H,[],Ox] (.Name "CLOSERS" pos) (fC (.tup [.str "give",.str "end"])):=iJ (by rfl) mc (v:=.ref ac) 9 λH A=>cj (V8 H) (aD.cons cO (aD.cons cO aD.nil));have GX:∀{pos},VP (h7 iA P w K mg base xj "shape" (ar mP) f bL A outer s H E).vV #[H,[],Ox] (.Name "OPENERS" pos) (fC (.tup [.str "def",.str "if",.str "while"])):=iJ (by rfl) mo (v:=.ref ao) 9 λH A=>cj (hao H) (aD.cons cO (aD.cons cO (aD.cons cO aD.nil)));let(rs,rfl,W,hn,hq):=hG;refine#[_,(gr (cP (i:=1) nd 9 5 (Ψ (qZ (bJ (aa (ω gT) ak)) (ν (aS aT aV (by rfl) M.len l0 (aO (ae 0) aX))))) np)
  (gr (cP (i:=2) nd 9 5 (Ψ (qZ (bJ (aa (ω gT) ak)) (ν (aS aT aV (by rfl) M.len l0 (aO (ae 0) aX))))) np)
  (gr (cP (i:=3) nd 9 5 (Ψ (qZ (bJ (aa (ω gT) ak)) (ν (aS aT aV (by rfl) M.len l0 (aO (ae 0) aX))))) np)
  (gr (cP (i:=04) nd 9 5 (Ψ (qZ (bJ (aa (ω gT) ak)) (ν (aS aT aV (by rfl) M.len l0 (aO (ae 0) aX))))) np)
  (gr (cP (i:=05) nd 9 5 (Ψ (bJ ak)) np)
  (gr (cQ nG 9 (gK (by rfl) M.enumerate (ah 0)) (ff (n:=2) 9 (bq (aM (i:=06) nd 9 5 np) (bq (aM (i:=07) nd 9 5 np) dI)))
   (af (bb (y3 (ν (aS aT aV (by rfl) M.len l0 (aO (ae 05) aX))) 4)
    (af (gk 1 (ω (ay (ae 05) (ν (qR 4)))) (ae 06))
    (aq (gk 04 (ω (ay (ae 05) 4)) (ae 06))))
    aE)
   (ku.weak (u:=(GV rs (M1 rs))) (af (bb (bF hu (ν (ay (ae 07) 4)) (ν aC))
    (aq (gk 04 (ah 06) (ae 06)))
    aE)
   (ku.weak (u:=(GV rs (M2 rs))) (af (bb (bF hu (ν (ay (ae 07) 4)) (ν aC))
    (aq (gk 3 (ah 06) (ν (ay (ae 05) (ν (qR 4))))))
    aE)
   (ku.weak (u:=(GV rs (M3 rs))) (af (bb (u_ (ν (ay (ae 07) 4)) (ν GW))
    (af (gk 2 (ah 06) (ν (ay (ae 05) (ν (qR 4)))))
    (aq (bA (wu 05 acz acA we p_))))
    aE)
   (ku.weak (u:=(GV rs (M4 rs))) (aq (bb (u_ (ν (ay (ae 07) 4)) (ν GX))
    (aq (bA (dy 05 qt qu bo ba (aa (ah 06) ak))))
    aE)) ?w4)) ?w3)) ?w2)) ?w1)))
  (PR (is:=[1,2,3,04]) 9 #[_,_,1,_,9,9,9,Or.inl 9,by decide,by decide,9,#[_,_,2,_,9,9,9,Or.inl 9,by decide,by decide,9,#[_,_,3,_,9,9,9,Or.inl 9,by decide,by decide,9,#[_,_,04,_,9,9,9,Or.inl 9,by decide,by decide,9,9]]]] 15 15))))))),λ_=>?main]
 case w4=>
  rintro d ρ ⟨k,r,h,e,l,o,s,bV,rfl,rfl,⟨rfl,rfl,rfl,rfl⟩,fin⟩;have Ey:k<7:=(c7.mp bV).1;have oZ:=c_ bV;let(rl,er):=gh r;unfold KY;rw[er];refine#[_,aaU,9,9,?_];refine Gb (λh1=>?_) (λh1=>?_);have ho:(a_ r).op=true:=by rw[<- adu];exact h1
  have hc:(a_ r).cl=false:=by have:=W.ex k Ey (by rw[oZ];exact ho);rw[oZ] at this;exact this
  rw[hc,θ iC];refine#[?_,fin _ #[_,_,_,_,_,_,_,9,9,9,9,9,?_]];have:=KW (bh rs) k;unfold xh;rw[bS,π]
  lia
  unfold xh;rw[jc (by rw[oZ];exact ho) (by rw[oZ];exact hc),nD];rfl;have ho:(a_ r).op=false:=by
   cases q:(a_ r).op with
   |false=>rfl
   |true=>exact (h1 ((adu r).trans q)).elim
  refine fin _ #[_,_,_,_,_,_,_,9,9,9,9,9,?_];unfold xh;by_cases hc:(a_ r).cl=true;rw[ι hc,jz (by rw[oZ];exact hc) (by rw[oZ];exact ho),List.map_dropLast];rw[θ hc,fZ (by rw[oZ];cases q:(a_ r).cl<;>simp_all) (by rw[oZ];exact ho)]
 case w3=>
  rintro d ρ ⟨k,r,h,e,l,o,s,bV,rfl,rfl,⟨rfl,rfl,rfl,rfl⟩,fin⟩;have Ey:k<7:=(c7.mp bV).1;have oZ:=c_ bV;let(rl,er):=gh r;unfold KY;rw[er];refine#[_,aaU,9,9,?_];refine Gb (λh1=>?_) (λh1=>?_);have hc:(a_ r).cl=true:=by rw[<- adt];exact h1
  have tZ:(bh rs k).cl=true:=by rw[oZ];exact hc
  let(j,hj,ej):=xi (W.cl k Ey tZ);let(te,hjk):=PN W Ey tZ hj;refine#[_,ej,j,by rw[zx];exact rC (),9,.int (j:Int),?_,k,r,_,_,_,_,_,bV,by rw[<- er];rfl,9,#[?_,9,9,by rw[ι hc]],fin];unfold xh;rw[bS,fU,<- FD,hj];rfl;refine Kw te λi hi he=>?_;have:=(qd W Ey he hi).2;rw[hj] at this;exact (Option.some.inj this).symm;have hc:(a_ r).cl=false:=by
   cases q:(a_ r).cl with
   |false=>rfl
   |true=>exact (h1 ((adt r).trans q)).elim
  refine#[k,r,_,_,_,_,_,bV,by rw[<- er];rfl,9,#[GJ λi hi he=>?_,9,9,by rw[hc,θ iC]],fin];have:=(qd W Ey he hi).1;rw[oZ,hc] at this;cases this
 case w2=>
  rintro d ρ ⟨k,r,h,e,l,o,s,bV,rfl,rfl,⟨rfl,rfl,rfl,rfl⟩,fin⟩;have Ey:k<7:=(c7.mp bV).1;have oZ:=c_ bV;let(rl,er):=gh r;unfold KY;rw[er];refine#[_,aaU,?_];refine Gb (λh1=>?_) (λh1=>?_);have hc:(a_ r).el=true:=by rw[<- ads];exact h1
  have tZ:(bh rs k).el=true:=by rw[oZ];exact hc
  let(j,hj,ej):=xi (W.el k Ey tZ);have P7:j<k:=(kc k).2 j (List.mem_of_getLast? hj);refine#[_,ej,j,by rw[qf];exact rC (),k,r,_,_,_,_,_,bV,by rw[<- er];rfl,9,#[9,?_,9,9],fin];simp only[yB,gE,tZ,hj];have hc:(a_ r).el=false:=by
   cases q:(a_ r).el with
   |false=>rfl
   |true=>exact (h1 ((ads r).trans q)).elim
  refine#[k,r,_,_,_,_,_,bV,by rw[<- er];rfl,9,#[9,?_,9,9],fin];simp only[yB,oZ,hc]
 case w1=>
  rintro d ρ ⟨k,r,h,e,l,o,s,bV,rfl,rfl,⟨rfl,rfl,rfl,ol,o1,o2⟩,fin⟩;have Ey:k<7:=(c7.mp bV).1;let(rl,er):=gh r;unfold KY;rw[er];refine#[_,aaU,?_];refine Gb (λh1=>?_) (λh1=>?_);exact#[k,by rw[ol];exact rC Ey,k,r,_,_,_,_,_,bV,by rw[<- er];rfl,9,#[9,9,9,o1 (by rw[<- adq];exact h1)],fin];have hc:(a_ r).df=false:=by
   cases q:(a_ r).df with
   |false=>rfl
   |true=>exact (h1 ((adq r).trans q)).elim
  exact#[k,r,_,_,_,_,_,bV,by rw[<- er];rfl,9,#[9,9,9,o2 hc],fin]
 case main=>
  have hlen:((rs.map aZ).length:Int)=(7:Int):=by rw[bS]
  have afY:(List.replicate ((rs.map aZ).length:Int).toNat [T.bY]).flatten=List.replicate 7 T.bY:=by rw[hlen,i_];exact P9 _ _
  have Ef : -(2 ^ 63)<=((rs.map aZ).length:Int):=by lia
  have Kh:((rs.map aZ).length:Int)<2 ^ 63:=by lia
  have hb3:[T.bY].length * ((rs.map aZ).length:Int).toNat<=sizeLine:=by rw[hlen,i_,π];simp;lia
  refine#[Gen.wJ 9,Ef,Kh,hb3,Gen.wJ 9,Ef,Kh,hb3,Gen.wJ 9,Ef,Kh,hb3,Gen.wJ 9,Ef,Kh,hb3,Gen.wJ 9,?_];show oX (dR (rs.map aZ)) _ _ _ [aP (.lst (rs.map aZ)),some (.lst (List.replicate ((rs.map aZ).length:Int).toNat [T.bY]).flatten,true),some (.lst (List.replicate ((rs.map aZ).length:Int).toNat [T.bY]).flatten,true),some (.lst (List.replicate ((rs.map aZ).length:Int).toNat [T.bY]).flatten,true),some (.lst (List.replicate ((rs.map aZ).length:Int).toNat [T.bY]).flatten,true),some (.lst [],true),none,none];rw[Kz,afY];refine eJ (adG rs)
   #[_,_,_,_,_,_,_,9,(zy _ _).symm,(GH _ _).symm,9,(zy _ _).symm,9] ?_ ?_
  . rintro k ⟨r,k'⟩ ρ hk ⟨b6,b7,_,_,_,_,_,rfl,rfl,rfl,rfl,rfl,rfl⟩;rw[List.getElem?_zipIdx] at hk;cases bV:rs[k]? with
    |none=>rw[bV] at hk;cases hk
    |some r'=>
    rw[bV] at hk;simp at hk;let(rfl,rfl):=hk;have Ey:k<7:=(c7.mp bV).1;let(rl,er):=gh r';refine#[9,9,?_];show Z6 _ _ _ [aP (.lst (rs.map aZ)),some (.lst (tab (gE (bh rs)) 7 k),true),some (.lst (f7 (endsAt (bh rs) 7) 7 k),true),some (.lst (yB (bh rs) 7 k),true),some (.lst (tab (gF (bh rs)) 7 k),true),some (.lst (xh rs k),true),aP (.int (k:Int)),aP (aZ r')];rw[er];have oZ:=c_ bV;refine cH (λh1=>?_) (λh1=>?_);have fY:st (bh rs) k≠[]:=λz=>by have JP:((xh rs k).length:Int) > 0:=h1;unfold xh at JP;rw[z] at JP;simp at JP
    let(j,hj,ej):=xi fY;obtain⟨j0,hj0⟩:∃j0,(st (bh rs) k).head?\j0:=#[_,List.head?_eq_some_head fY];have ej0:h9 (xh rs k) 0\.int (j0:Int):=ai (j:=0) (by unfold xh;rw[fU,<- List.head?_eq_getElem?,hj0];rfl);refine#[_,ej,k,by rw[mK];exact rC Ey,_,ej0,k,by rw[mK];exact rC Ey,k,r',_,_,_,_,_,bV,by rw[<- er];rfl,?_,#[9,9,9,by rw[List.length_set,mK],λhd=>?_,λhd=>?_],λρ' h=>h];have e1:T.int (j:Int)=oT (gE (bh rs) k):=by unfold gE;rw[hj];rfl
    rw[e1];exact qe;rw[List.set_set];have e1:T.int (k:Int)=oT (gF (bh rs) k):=by unfold gF;rw[oZ,ι hd];rfl
    rw[e1];exact qe;have e1:T.int (j0:Int)=oT (gF (bh rs) k):=by unfold gF;rw[oZ,hd,θ iC,hj0];rfl
    rw[e1];exact qe;have fY:st (bh rs) k=[]:=by
     cases q:st (bh rs) k with
     |nil=>rfl
     |cons a b=>exfalso;refine h1 ?_;show ((xh rs k).length:Int) > 0;unfold xh;rw[q];simp
    refine#[k,r',_,_,_,_,_,bV,by rw[<- er];rfl,zz (by unfold gE;rw[fY];rfl),#[9,9,9,by rw[mK],λhd=>?_,λhd=>?_],λρ' h=>h];have e1:T.int (k:Int)=oT (gF (bh rs) k):=by unfold gF;rw[oZ,ι hd];rfl
    rw[e1];exact qe;exact zz (by unfold gF;rw[oZ,hd,θ iC,fY];rfl)
  rintro ρ ⟨b6,b7,_,_,_,_,_,rfl,rfl,rfl,rfl,rfl,rfl⟩;rw[List.length_zipIdx,zA,zA,GK];exact hq;intro j m hj he;unfold endsAt at he;split at he
  rename_i ho
  let(e,h1,h2,h3,_):=end_is W hj ho;rw[h1] at he;cases he;exact h3;cases he
end
end K5V
namespace VT
open PySem PySem.Spec PyProof.Rows L2
end VT
namespace Lay
open PySem L2 VT Gen K5
abbrev jE:Stmt:=inClass (top 24) 0
structure adH(mg:qae):Prop where
 len:mg "len"=none
 min:mg "min"=none
structure uw(K:qaf)(C:Addr):Prop where
 cl:Im K C
 bt:cN K C "program"
 qi:cN K C "heads"
 n5:cN K C "ends"
 xk:cN K C "elses"
 f9:cN K C "homes"
 rD:cN K C "defs"
 Cr:cN K C "main"
def xm(C:Addr)(ts:Λ)(q:T->Prop):Prop:=∃rs:qal,ts=[.lst (rs.map aZ)]/\GG rs/\7<=100/\q (c5 C rs)
section
abbrev K0:χ:=["self","program","parts"]
def vq:az K0 qaw (ar jE):=L2.eU
def GY(D:Dc K mg "Layout" "Layout.__init__" jE qaw au f fd)(M:adH mg)(M1:uw K au)(P_:bP P w K mg base "shape" qav 1 (VM K 1 K5V.KU))(xn:bP P w K mg base "first_defs" qav 1 (bQ K 1 KS)):zM P w K mg base "Layout" au qaw 2 1 (xm au):=by
 let(aeS,adI,Qa,Qb,Qc,Qd):=P_;refine D.fm (fnI D.F vq 9 λbL A outer s H E as Ox hr us q hl hG=>?_);have nd:=vq.nd;have aj:=M1;refine#[_,(af (aJ (i:=2) nd 9 5 (Ψ (VD.vp (Em Qd (hr.mono 15) (by rfl) Qa Qb Qc (aa (ah 1) ak)))) (Ee 15))
  (af (fP 0 aj.cl aj.bt (ah 1))
  (af (fP 0 aj.cl aj.qi (ω (ay (ae 2) 4)))
  (af (fP 0 aj.cl aj.n5 (ω (ay (ae 2) 4)))
  (af (fP 0 aj.cl aj.xk (ω (ay (ae 2) 4)))
  (af (fP 0 aj.cl aj.f9 (ω (ay (ae 2) 4)))
  (af (fP 0 aj.cl aj.rD (ω (aw xn hr (aa (ah 1) ak))))
  (aq (fP 0 aj.cl aj.Cr (ω (Ju (y3 (ν (aS GP Ck (by rfl) M.len l0 (aO (ν (aQ aj.cl aj.rD (ae 0))) aX))) 4) (Cn 9 (by rfl) M.min (ν (aQ aj.cl aj.rD (ae 0)))) gT))))))))))),?_]
 let(rs,rfl,W,hn,hq):=hG;refine#[9,rs,9,W,hn,?_];rw[KR];refine#[9,by show 0<1000;decide,?_];refine#[9,_,aaU,by show 1<1000;decide,?_];refine#[9,_,aaV,by show 2<1000;decide,?_];refine#[9,_,aaW,by show 3<1000;decide,?_];refine#[9,_,aaX,by show 04<1000;decide,?_];refine#[9,9,rs,9,hn,by show 05<1000;decide,?_];refine#[9,?_];refine#[9,_,9,?_];refine cH (λh=>?_) (λh=>?_);refine#[9,_,9,(bf rs 7).map (λp=>(p.2:Int)),?_,?_,λm h1 h2=>?_];rw[yE];rfl;intro z;rw[List.map_eq_nil_iff] at z;rw[z] at h;exact absurd h 15;refine#[by show 06<1000;decide,?_];have e:=KP h1 h2;show q [_] _;rw[e];exact hq;refine#[by show 06<1000;decide,?_];have z:bf rs 7=[]:=by
  cases e:bf rs rs.length with
  |nil=>rfl
  |cons a b=>exfalso;apply h;rw[e];simp
 have e:il rs=none:=by
  cases e:il rs with
  |none=>rfl
  |some i=>let((g,ps,hi),hm):=vo e;let(l,hl):=jD hi hm 7 (c7.mp hi).1;rw[z] at hl;cases hl
 have e2:T.bY=oT (il rs):=by rw[e];rfl
 unfold c5 at hq;rw[<- e2] at hq;exact hq
end
def Ev(rs:qal)(k j:Nat):Prop:=∃k',k'<k/\rs[k']?\.pS/\gE (bh rs) k'\j
structure Al(rs:qal)(k:Nat)(s:χ):Prop where
 len:s.length=(st (bh rs) k).length
 wds:∀i j:Nat,(st (bh rs) k)[i]?\j->∃r,rs[j]?\r/\((¬ Ev rs k j/\s[i]?\wd r)\/(Ev rs k j/\s[i]?\("else":Str)/\wd r="if"))
 bot:∀(i:Nat)(x:Str),s[i]?\x->(x=("def":Str)↔i=0)
def adJ(h:wd r="if"):∃a,r=.wL a:=by cases r<;>first|exact#[_,9]|exact absurd h (by show ¬ ((_:Str)="if");simp only[wd];decide +kernel)
def V9(h:wd r="def"):∃f ps,r=.df f ps:=by cases r<;>first|exact#[_,_,9]|exact absurd h (by simp only[wd];decide +kernel)
def Ev.succ{rs:qal}{k j:Nat}(h:Ev rs k j):Ev rs (k+1) j:=let #[k',a,b]:=h;#[k',Bj a,b]
def xo{k:Nat}(h:rs[k]?≠some .pS):Ev rs (k+1) j↔Ev rs k j:=by refine#[λ#[k',a,b,c]=>?_,Ev.succ];by_cases e:k'=k;subst e;exact absurd b h;exact#[k',(),b,c]
section
def Qe{k:Nat}{s:χ}(A:Al rs k s)(hs:st (bh rs) (k+1)=st (bh rs) k)(he:rs[k]?≠some .pS):Al rs (k+1) s :=
 #[by rw[hs];exact A.len,λi j h=>by rw[hs] at h;let(r,h1,h2):=A.wds i j h;exact#[r,h1,by rw[xo he];exact h2],A.bot]
def Ez{k:Nat}{s:χ}(A:Al rs k s)(hs:st (bh rs) (k+1)=(st (bh rs) k).dropLast)(he:rs[k]?≠some .pS):Al rs (k+1) s.dropLast :=
 #[by rw[hs,Bt,Bt,A.len],λi j h=>by
  rw[hs] at h;have hi:=(c7.mp h).1;rw[Bt] at hi;rw[T2,ι hi] at h;let(r,h1,h2):=A.wds i j h;rw[T2,ι (by rw[A.len];exact hi)];exact#[r,h1,by rw[xo he];exact h2],λi x h=>by
  have hi:=(c7.mp h).1;rw[Bt] at hi;rw[T2,ι hi] at h;exact A.bot i x h]
def xp{k:Nat}{s:χ}(W:GG rs)(hk:k<7)(A:Al rs k s)(hr:rs[k]?\r)(hs:st (bh rs) (k+1)=st (bh rs) k++[k])(he:r≠.pS)(hb:wd r=("def":Str)↔s=[]):Al rs (k+1) (s++[wd r]):=by
 have Qf:rs[k]?≠some .pS:=by rw[hr];intro z;exact he (Option.some.inj z)
 have nev:¬ Ev rs (k+1) k:=λ#[k',a,b,c]=>by
  have hm:=List.mem_of_getLast? c;have:=(kc k').2 k hm
  lia
 refine#[by rw[hs,fS,fS,A.len];rfl,λi j h=>?_,λi x h=>?_];rw[hs] at h;by_cases hi:i<(st (bh rs) k).length;rw[pI hi] at h;rw[pI (by rw[A.len];exact hi)];let(r',h1,h2):=A.wds i j h;exact#[r',h1,by rw[xo Qf];exact h2];rw[uN ()] at h;have e:i-(st (bh rs) k).length=0:=by
  cases q:i-(st (bh rs) k).length with
  |zero=>rfl
  |succ m=>rw[q] at h;simp at h
 rw[e] at h;simp at h;subst h;refine#[r,hr,.inl #[nev,?_]];rw[uN (by rw[A.len];lia),A.len,e];rfl;by_cases hi:i<s.length;rw[pI hi] at h;exact A.bot i x h;rw[uN ()] at h;have e:i-s.length=0:=by
  cases q:i-s.length with
  |zero=>rfl
  |succ m=>rw[q] at h;simp at h
 rw[e] at h;simp at h;subst h;rw[hb];constructor;rintro rfl;simpa using e;rintro rfl;have:s.length=0:=by lia
 exact NL.mp this
def Qg{k:Nat}{s:χ}(A:Al rs k s)(hr:rs[k]?\.pS)(hl:s.getLast?\("if":Str))(hs:st (bh rs) (k+1)=st (bh rs) k):Al rs (k+1) (s.dropLast++[("else":Str)]):=by
 have fY:s≠[]:=by rintro rfl;cases hl
 have afZ:=X6.mpr fY;have Oe:s[s.length-1]?\("if":Str):=by rw[<- FD];exact hl
 refine#[by rw[hs,fS,Bt,<- A.len];simp;lia,λi j h=>?_,λi x h=>?_];rw[hs] at h;have hi:i<s.length:=by rw[A.len];exact (c7.mp h).1
 let(r,h1,h2):=A.wds i j h;by_cases e:i=s.length-1;subst e;have hh:gE (bh rs) k\j:=by unfold gE;rw[FD,<- A.len];exact h
 refine#[r,h1,.inr #[#[k,qw _,hr,hh],?_,?_]];rw[uN (by rw[Bt];lia),Bt,Nat.sub_self];rfl;obtain⟨_,h2⟩|⟨_,h2,_⟩:=h2
 rw[Oe] at h2;exact (Option.some.inj h2).symm;rw[Oe] at h2;exact absurd (Option.some.inj h2) (by decide +kernel);have af0:¬ gE (bh rs) k\j:=λz=>by
  unfold gE at z;rw[FD,<- A.len] at z;have hw:=(kc (kd:=bh rs) k).1;let(a1,b1):=c7.mp h;let(a2,b2):=c7.mp z;have:=(acf.mp hw) i (s.length-1) a1 a2 ()
  lia
 have hev:Ev rs (k+1) j↔Ev rs k j:=by refine#[λ#[k',a,b,c]=>?_,Ev.succ];by_cases e:k'=k;subst e;exact absurd c af0;exact#[k',(),b,c]
 refine#[r,h1,?_];rw[hev,pI (by rw[Bt];lia),T2,ι ()];exact h2;by_cases hi:i<s.dropLast.length;rw[pI hi] at h;rw[Bt] at hi;rw[T2,ι hi] at h;exact A.bot i x h;rw[uN ()] at h;have e:i-s.dropLast.length=0:=by
  cases q:i-s.dropLast.length with
  |zero=>rfl
  |succ m=>rw[q] at h;simp at h
 rw[e] at h;simp at h;subst h;rw[Bt] at e hi;have ei:i=s.length-1:=by lia
 have hbo:=A.bot (s.length-1) _ Oe;constructor;intro z;exact absurd z (by decide +kernel);intro z;rw[ei] at z;exact absurd (hbo.mpr z) (by decide +kernel)
def jF{s:χ}(h:gD s x=true)(e:s=[]):x="def"\/x="skip":=by subst e;have:mB (.str x) ([("def":Str),"skip"].map T.str)=true:=h;rw[gL] at this;simpa using this
def ip{s:χ}{l:Str}(h:gD s x=true)(e:s.getLast?\l):(x="give"->l="def")/\(x="else"->l="if")/\(x="end"->l≠"def")/\x≠"def":=by unfold gD at h;rw[e] at h;dsimp only at h;by_cases h1:x="give";rw[ι h1] at h;subst h1;exact#[λ_=>Θ h,λz=>absurd z (by decide +kernel),λz=>absurd z (by decide +kernel),by decide +kernel];rw[θ h1] at h;by_cases h2:x="else";rw[ι h2] at h;subst h2;exact#[λz=>absurd z h1,λ_=>Θ h,λz=>absurd z (by decide +kernel),by decide +kernel];rw[θ h2] at h;by_cases h3:x="end";rw[ι h3] at h;subst h3;exact#[λz=>absurd z h1,λz=>absurd z h2,λ_=>by simpa using h,by decide +kernel];rw[θ h3] at h;exact#[λz=>absurd z h1,λz=>absurd z h2,λz=>absurd z h3,by simpa using h]
def adK(s:χ)(h1:(a_ r).op=false)(h2:(a_ r).cl=false)(h3:(a_ r).el=false):l6 s (wd r)=s:=by
 have k:∀x:Str,(x="put"\/x="do"\/x="new"\/x="get"\/x="set"\/x="call"\/x="fail"\/x="skip")->l6 s x=s:=by intro x hx;unfold l6;obtain rfl|rfl|rfl|rfl|rfl|rfl|rfl|rfl:=hx<;>rw[θ (by decide +kernel),θ (by decide +kernel),θ (by decide +kernel)]
 cases r<;>first
  |exact Bool.noConfusion (show true=false from h1)
  |exact Bool.noConfusion (show true=false from h2)
  |exact Bool.noConfusion (show true=false from h3)
  | (refine k _ ?_;simp[wd];done)
theorem K6(W:GG rs)(hb:mG (some []) rs=some []):∀k,k<=7->∃s,mG (some []) (rs.take k)\s/\Al rs k s
 |0,_=>#[[],9,#[9,λi j h=>by simp[st] at h,λi x h=>by simp at h]]
 |k+1,hk=>by
  let(s,hs,A):=K6 W hb k ();have di:k<7:=by lia
  have hr:=eZ di;let(s',h1,h2,h3):=zl hb k hr;rw[hs] at h1;cases h1;refine#[_,h3,?_];generalize rs[k]=r at hr h2;have kk:=c_ hr;have nil:=jF h2;have ne:s≠[]->∃l,s.getLast?\l:=λz=>by let(a,l,e):=qc z;exact#[l,by rw[e,RX]]
  cases r with
  |df f ps=>
   have e:s=[]:=by by_cases z:s=[];exact z;let(l,hl):=ne z;exact absurd 9 (ip h2 hl).2.2.2
   have:=xp W di A hr (jc (by rw[kk];rfl) (by rw[kk];rfl)) 6 #[λ_=>e,λ_=>rfl];rw[show wd (.df f ps)="def" from 9] at this ⊢;rw[Ei];exact this
  |wL a=>
   have e:s≠[]:=λz=>by rcases nil z with h|h<;>exact absurd h (by show ¬ (("if":Str)=_);decide +kernel)
   have:=xp W di A hr (jc (by rw[kk];rfl) (by rw[kk];rfl)) 6 #[λh=>absurd h (by show ¬ (("if":Str)=_);decide +kernel),λh=>absurd h e];rw[show wd (.wL a)="if" from 9] at this ⊢;rw[Ko];exact this
  |nZ a=>
   have e:s≠[]:=λz=>by rcases nil z with h|h<;>exact absurd h (by show ¬ (("while":Str)=_);decide +kernel)
   have:=xp W di A hr (jc (by rw[kk];rfl) (by rw[kk];rfl)) 6 #[λh=>absurd h (by show ¬ (("while":Str)=_);decide +kernel),λh=>absurd h e];rw[show wd (.nZ a)="while" from 9] at this ⊢;rw[n4];exact this
  |give a=>have:=Ez A (jz (by rw[kk];rfl) (by rw[kk];rfl)) (by rw[hr];simp);rw[show wd (.give a)="give" from 9,Kq];exact this
  |fin=>have:=Ez A (jz (by rw[kk];rfl) (by rw[kk];rfl)) (by rw[hr];simp);rw[show wd .fin="end" from 9,wR];exact this
  |pS=>
   have e:s≠[]:=λz=>by rcases nil z with h|h<;>exact absurd h (by decide +kernel)
   let(l,hl):=ne e;have Yi:=(ip h2 hl).2.1 9;rw[Yi] at hl;have:=Qg A hr hl (fZ (by rw[kk];rfl) (by rw[kk];rfl));rw[show wd .pS="else" from 9,zo];exact this
  |_=>exact Qe A (fZ (by rw[kk];rfl) (by rw[kk];rfl)) (by rw[hr];simp)
end
structure Bl(rs:qal):Prop where
 W:GG rs
 b:mG (some []) rs=some []
section
theorem Bl.at(B:Bl rs){k:Nat}(hr:rs[k]?\r):∃s,Al rs k s/\gD s (wd r)=true:=by have hk:=(c7.mp hr).1;let(s,hs,A):=K6 B.W B.b k ();let(s',h1,h2,h3):=zl B.b k hr;rw[hs] at h1;cases h1;exact#[s,A,h2]
def Al.iF{k:Nat}{s:χ}(A:Al rs k s):s=[]↔st (bh rs) k=[]:=by rw[<- NL,<- NL,A.len]
def Al.last{k:Nat}{s:χ}(A:Al rs k s){l:Str}(h:s.getLast?\l):∃o r,gE (bh rs) k\o/\rs[o]?\r/\((¬ Ev rs k o/\l=wd r)\/(Ev rs k o/\l="else"/\wd r="if")):=by
 rw[FD] at h;have hi:=(c7.mp h).1;have hj:(st (bh rs) k)[s.length-1]?\((st (bh rs) k)[s.length-1]'(by rw[<- A.len];exact hi)):=eZ _;let(r,h1,h2):=A.wds _ _ hj;have hh:gE (bh rs) k=(st (bh rs) k)[s.length-1]?:=by unfold gE;rw[FD,<- A.len]
 refine#[_,r,hh.trans hj,h1,?_];rw[h] at h2;obtain⟨a,b⟩|⟨a,b,c⟩:=h2
 exact .inl #[a,Option.some.inj b];exact .inr #[a,Option.some.inj b,c]
def lastOf{s:χ}(z:s≠[]):∃l,s.getLast?\l:=by let(a,l,e):=qc z;exact#[l,by rw[e,RX]]
def Bl.df(B:Bl rs){k:Nat}{f ps}(hr:rs[k]?\.df f ps):st (bh rs) k=[]:=by let(s,A,m):=B.at hr;rw[<- A.iF];by_cases z:s=[];exact z;let(l,hl):=lastOf z;exact absurd 9 (ip m hl).2.2.2
def Bl.inn(B:Bl rs){k:Nat}(hr:rs[k]?\r)(h1:wd r≠"def")(h2:wd r≠"skip"):st (bh rs) k≠[]:=by
 let(s,A,m):=B.at hr;rw[Ne,<- A.iF];intro z;rcases jF m z with h|h
 exact h1 h;exact h2 h
theorem Bl.give(B:Bl rs){k:Nat}{a}(hr:rs[k]?\.give a):(st (bh rs) k).length=1:=by
 let(s,A,m):=B.at hr;have z:s≠[]:=λz=>by rcases jF m z with h|h<;>exact absurd h (by show ¬ (("give":Str)=_);decide +kernel)
 let(l,hl):=lastOf z;have hd:=(ip m hl).1 9;rw[FD,hd] at hl;have:=(A.bot _ _ hl).mp 9;have:=X6.mpr z;rw[<- A.len]
 lia
def Bl.fin(B:Bl rs){k:Nat}(hr:rs[k]?\.fin):2<=dp (bh rs) k/\∃o r,gE (bh rs) k\o/\rs[o]?\r/\wd r≠"def":=by
 let(s,A,m):=B.at hr;have z:s≠[]:=λz=>by rcases jF m z with h|h<;>exact absurd h (by decide +kernel)
 let(l,hl):=lastOf z;have hd:=(ip m hl).2.2.1 9;let(o,r,h1,h2,h3):=A.last hl;refine#[?_,o,r,h1,h2,?_];rw[FD] at hl;have h0:¬ s.length-1=0:=λq=>hd ((A.bot _ _ hl).mpr q);unfold dp;rw[<- A.len]
 lia
 obtain⟨_,q⟩|⟨_,_,q⟩:=h3
 rw[<- q];exact hd;rw[q];decide +kernel
def Bl.pS(B:Bl rs){k:Nat}(hr:rs[k]?\.pS):2<=dp (bh rs) k/\∃o a,gE (bh rs) k\o/\rs[o]?\.wL a/\¬ Ev rs k o:=by
 let(s,A,m):=B.at hr;have z:s≠[]:=λz=>by rcases jF m z with h|h<;>exact absurd h (by decide +kernel)
 let(l,hl):=lastOf z;have hd:=(ip m hl).2.1 9;let(o,r,h1,h2,h3):=A.last hl;refine#[?_,?_];rw[FD,hd] at hl;have h0:¬ s.length-1=0:=λq=>absurd ((A.bot _ _ hl).mpr q) (by decide +kernel);unfold dp;rw[<- A.len]
 lia
 obtain⟨a,q⟩|⟨_,q,_⟩:=h3
 rw[hd] at q;let(x,rfl):=adJ q.symm;exact#[o,x,h1,h2,a];rw[hd] at q;exact absurd q (by decide +kernel)
def Bl.head(B:Bl rs){k:Nat}(hr:rs[k]?\r):(st (bh rs) (k+1)).head?=if wd r="give" then none else gF (bh rs) k:=by
 have kk:=c_ hr;have keep:∀{l:qao}{x:Nat},l≠[]->(l++[x]).head?=l.head?:=λ{l x} h=>by cases l with
  |nil=>exact absurd 9 h
  |cons a l=>rfl
 unfold gF;rw[kk];cases r with
 |df f ps=>rw[jc (by rw[kk];rfl) (by rw[kk];rfl),B.df hr,θ (by show ¬ (("def":Str)=_);decide +kernel),ι (show (a_ (.df f ps)).df=true from 9)];rfl
 |give a=>
  rw[jz (by rw[kk];rfl) (by rw[kk];rfl),ι (show wd (.give a)="give" from 9)];have:=B.give hr
  match q:st (bh rs) k,this with
  |[x],_=>rfl
 |fin=>
  rw[jz (by rw[kk];rfl) (by rw[kk];rfl),θ (by decide +kernel),θ (by simp[a_])];have:=(B.fin hr).1;unfold dp at this
  match q:st (bh rs) k,this with
  |x::y::l,_=>rfl
 |wL a=>rw[jc (by rw[kk];rfl) (by rw[kk];rfl),θ (by show ¬ (("if":Str)=_);decide +kernel),θ (by simp[a_])];exact keep (B.inn hr (by show ¬ (("if":Str)=_);decide +kernel) (by show ¬ (("if":Str)=_);decide +kernel))
 |nZ a=>rw[jc (by rw[kk];rfl) (by rw[kk];rfl),θ (by show ¬ (("while":Str)=_);decide +kernel),θ (by simp[a_])];exact keep (B.inn hr (by show ¬ (("while":Str)=_);decide +kernel) (by show ¬ (("while":Str)=_);decide +kernel))
 |put x a=>rw[fZ (by rw[kk];rfl) (by rw[kk];rfl),θ (by show ¬ (("put":Str)=_);decide +kernel),θ (by simp[a_])]
 |uo x a o b=>rw[fZ (by rw[kk];rfl) (by rw[kk];rfl),θ (by show ¬ (("do":Str)=_);decide +kernel),θ (by simp[a_])]
 |new x=>rw[fZ (by rw[kk];rfl) (by rw[kk];rfl),θ (by show ¬ (("new":Str)=_);decide +kernel),θ (by simp[a_])]
 |get x a b=>rw[fZ (by rw[kk];rfl) (by rw[kk];rfl),θ (by show ¬ (("get":Str)=_);decide +kernel),θ (by simp[a_])]
 |set x a b=>rw[fZ (by rw[kk];rfl) (by rw[kk];rfl),θ (by show ¬ (("set":Str)=_);decide +kernel),θ (by simp[a_])]
 |call x f as=>rw[fZ (by rw[kk];rfl) (by rw[kk];rfl),θ (by show ¬ (("call":Str)=_);decide +kernel),θ (by simp[a_])]
 |fail x=>rw[fZ (by rw[kk];rfl) (by rw[kk];rfl),θ (by show ¬ (("fail":Str)=_);decide +kernel),θ (by simp[a_])]
 |_=>rw[fZ (by rw[kk];rfl) (by rw[kk];rfl),θ (by decide +kernel),θ (by simp[a_])]
def Bl.top(B:Bl rs){o e:Nat}(ho:o<7)(Bq:(bh rs o).op=true)(he:endsAt (bh rs) 7 o\e):o<e/\e<7/\dp (bh rs) (e+1)=dp (bh rs) o/\(∀m,o<m->m<=e->dp (bh rs) o<dp (bh rs) m)/\(∀m,o<m->m<e->dp (bh rs) (m+1)≠dp (bh rs) o):=by unfold endsAt at he;rw[ι Bq] at he;let(e',h1,h2,h3,h4,h5):=end_is B.W ho Bq;rw[he] at h1;cases h1;exact#[h2,h3,h4,above B.W ho Bq e h2 () h5,h5]
end
section
def V_(kd:Nat->Kd):Nat->Nat->Option Nat
 |0,_=>none
 |k+1,j=>if (kd k).el=true/\gE kd k\j then some k else V_ kd k j
theorem K7(kd:Nat->Kd)(n:Nat){j:Nat}(hj:j<n):∀k,(yB kd n k)[j]?\oT (V_ kd k j)
 |0=>by simp[yB,V_,oT,hj]
 |k+1=>by
  have ih:=K7 kd n hj k;simp only[yB,V_];cases hc:(kd k).el with
  |false=>simp only[NQ,false_and,aau];exact ih
  |true=>
   cases hh:gE kd k with
   |none=>simp only[reduceCtorEq,and_false,aau];exact ih
   |some h=>simp only[Option.some.injEq,true_and];by_cases e:h=j;subst e;rw[ι 9,DE (by rw[qf];exact hj)];rfl;rw[θ e,uO e];exact ih
theorem zQ{kd:Nat->Kd}{j x:Nat}:∀{k},V_ kd k j\x->x<k/\(kd x).el=true/\gE kd x\j
 |0,h=>by cases h
 |k+1,h=>by
  simp only[V_] at h;split at h
  rename_i q;cases h;exact#[qw _,q]
  have:=zQ h;exact#[(),this.2]
def Qh(rs:qal)(j:Nat):Option Nat:=V_ (bh rs) 7 j
def V'(hj:j<7):h9 (V7 rs) (j:Int)\oT (Qh rs j):=ai (K7 _ _ hj _)
def Wa{x:Nat}(h:(bh rs x).el=true):rs[x]?\.pS:=by
 unfold bh at h;split at h
 rename_i r hr
 rw[hr];cases r<;>first|rfl|exact Bool.noConfusion (show false=true from h)
 exact Bool.noConfusion (show false=true from h)
structure Blo(rs:qal)(o e:Nat):Prop where
 lt:o<7
 op:(bh rs o).op=true
 en:endsAt (bh rs) 7 o\e
 d1:1<=dp (bh rs) o
 le:o<e
 el:e<7
 ab:∀m,o<m->m<=e->dp (bh rs) o<dp (bh rs) m
 fi:∀m,o<m->m<e->dp (bh rs) (m+1)≠dp (bh rs) o
 de:dp (bh rs) e=dp (bh rs) o+1
 re:rs[e]?\.fin
def Bl.Ys(B:Bl rs){o:Nat}(hr:rs[o]?\r)(hw:wd r="if"\/wd r="while"):∃e,Blo rs o e:=by
 have Bq:(bh rs o).op=true:=by rw[c_ hr];cases r<;>first|rfl|exact absurd hw (by show ¬ ((_:Str)="if"\/(_:Str)="while");simp only[wd];decide +kernel)
 have ho:=(c7.mp hr).1;let(e,h1,h2,h3,h4,h5):=end_is B.W ho Bq;have he:endsAt (bh rs) 7 o\e:=by unfold endsAt;rw[ι Bq];exact h1
 let(a,b,c,d,f):=B.top ho Bq he;have fY:st (bh rs) o≠[]:=B.inn hr (by obtain q|q:=hw<;>rw[q]<;>decide +kernel) (by obtain q|q:=hw<;>rw[q]<;>decide +kernel);have d1:1<=dp (bh rs) o:=by unfold dp;exact X6.mpr fY
 let(tT,agG):=qd B.W b he ho;have fW:=rj B.W b tT;have re:rs[e]?\.fin:=by
  have NY:rs[e]?\rs[e]:=eZ b;have kk:=c_ NY;rw[kk] at tT;generalize rs[e]=q at NY tT;cases q with
  |fin=>exact NY
  |give x=>
   have:=B.give NY;unfold dp at fW c d1
   lia
  |_=>exact Bool.noConfusion (show false=true from tT)
 exact#[e,ho,Bq,he,d1,a,b,d,f,(),re]
def zR(rs:qal)(o:Nat):Int:=match endsAt (bh rs) 7 o with
 |some e=>(e:Int)
 |none=>0
def Wb(rs:qal)(j:Nat):Nat:=(gE (bh rs) j).getD 0
def Qi(rs:qal)(j:Nat):Int:=match rs[j]? with
 |some (.nZ _)=>zR rs j+1
 |_=>match Qh rs j with
  |none=>zR rs j
  |some x=>(x:Int)+1
def Wc(rs:qal)(j:Nat):Int:=match rs[j]? with
 |some .pS=>zR rs (Wb rs j)
 |some .fin=>match rs[Wb rs j]? with
  |some (.nZ _)=>(Wb rs j:Int)
  |_=>(j:Int)+1
 |_=>(j:Int)+1
def Qj(a b:Int):qan:=if a=b then [a] else if a<b then [a,b] else [b,a]
def Qk:Rw->Bool
 |.wL _=>true
 |.nZ _=>true
 |_=>false
def Wd:Rw->Bool
 |.give _=>true
 |_=>false
def Ql(rs:qal)(j:Nat)(r:Rw):qan:=if gF (bh rs) j=none\/Wd r=true then [] else if Qk r=true then Qj ((j:Int)+1) (Qi rs j) else [Wc rs j]
end
end Lay
namespace VT
open PySem PySem.Spec PyProof.Rows
def SW{K:Type}[DecidableEq K](l:List K)(v:K):List K:=if v∈l then l else l++[v]
def met{K:Type}[DecidableEq K](val:Nat->K):Nat->List K
 |0=>[]
 |i+1=>SW (met val i) (val i)
section
variable{K:Type}[DecidableEq K]
theorem qj(val:Nat->K):∀i,(met val i).length<=i
 |0=>cL _
 |i+1=>by
  have:=qj val i;simp only[met,SW];split
  lia
  rw[fS,NO];lia
def Qm{l:List K}{v k:K}:k∈SW l v↔k∈l\/k=v:=by
 unfold SW;split
 rename_i h
 exact#[.inl,λq=>q.elim id λe=>e▸h];rw[fM,fE]
end
abbrev n6(led:Bool):Obj:={cls:=.type "set",dict:=none,data:=.set ([].toArray) 0 (.fresh 0 0 led)}
theorem sub_list_set:isSubtype (.type "list") (.type "set")=pure false:=by rw[isSubtype_type];kernel_rfl
theorem sub_list_frozenset:isSubtype (.type "list") (.type "frozenset")=pure false:=by rw[isSubtype_type];kernel_rfl
section
variable{R:Result->Shared->Prop}{I:Addr}{wr:qah}{G:Array GenState->Array GenState->Prop}{P:Nat->Value->Prop}{St:Nat->Shared->Prop}
variable{K:Type}[DecidableEq K]{knd:PySem.KeyKind prog w K}
end
end VT
namespace PySem
open Sem (wp)
namespace F
end F
end PySem
namespace VT
open PySem PySem.Spec PyProof.Rows L2
end VT
namespace PySem
namespace SetTable
theorem K8{xs:Array Nat}(hr:xs.toList.Pairwise (·<·)):∀(fuel lo hi:Nat),hi-lo<=fuel->lo<=hi->hi<=xs.size ->
  (∀i y,i<lo->xs[i]?\y->y<j)->(∀i y,hi<=i->xs[i]?\y->j<=y) ->
  below.go xs j fuel lo hi<=xs.size/\(∀i y,i<below.go xs j fuel lo hi->xs[i]?\y->y<j)/\(∀i y,below.go xs j fuel lo hi<=i->xs[i]?\y->j<=y):=by
 have mono:∀{a b:Nat}{x y:Nat},a<b->xs[a]?\x->xs[b]?\y->x<y:=by intro a b x y hab ha hb;rw[<- DF] at ha hb;let(ha',rfl):=c7.mp ha;let(Qn,rfl):=c7.mp hb;exact (acf.mp hr) a b ha' Qn hab
 intro fuel;induction fuel with
 |zero=>
   intro lo hi h1 h2 h3 hl hh;have e:lo=hi:=by lia
   subst e;exact#[h3,hl,hh]
 |succ fuel ih=>
   intro lo hi h1 h2 h3 hl hh;unfold below.go;by_cases di:lo<hi;rw[ι di];have hm:(lo+hi) / 2<xs.size:=by lia
   have hg:=N4 hm;have hd:xs.getD ((lo+hi) / 2) j=xs[(lo+hi) / 2]:=by simp[Array.getD,hm]
   dsimp only;rw[hd];by_cases hc:xs[(lo+hi) / 2]<j;rw[ι hc];refine ih _ _ () () h3 (λi y ZT hy=>?_) hh;rcases Ub i ((lo+hi) / 2) with z|z
   exact Ua (mono z hy hg) hc;have e:i=(lo+hi) / 2:=by lia
   subst e;rw[hg] at hy;cases hy;exact hc;rw[θ hc];refine ih _ _ () () () hl (λi y ZT hy=>?_);rcases Ub ((lo+hi) / 2) i with z|z
   exact kJ (Nat.le_of_not_lt hc) (T' (mono z hg hy));have e:i=(lo+hi) / 2:=by lia
   subst e;rw[hg] at hy;cases hy;exact Nat.le_of_not_lt hc;rw[θ di];have e:lo=hi:=by lia
   subst e;exact#[h3,hl,hh]
def lH{xs:Array Nat}(j:Nat)(hr:xs.toList.Pairwise (·<·)) :
  below xs j<=xs.size/\(∀i y,i<below xs j->xs[i]?\y->y<j)/\(∀i y,below xs j<=i->xs[i]?\y->j<=y) :=
 K8 hr xs.size 0 xs.size () () (cL _) (λi y h=>absurd h ()) (λi y h e=>by
  let(z,_):=Array.getElem?_eq_some_iff.mp e
  lia)
def cJ{xs:Array Nat}(hr:xs.toList.Pairwise (·<·)):below xs 0=0:=by
 let(h1,h2,_):=lH 0 hr;rcases Nat.eq_zero_or_pos (below xs 0) with z|z
 exact z;have hs:0<xs.size:=by lia
 exact absurd (h2 0 _ z (N4 hs)) ()
def Cs{xs:Array Nat}{y:Nat}(hr:xs.toList.Pairwise (·<·))(e:xs[i]?\y):below xs (y+1)=i+1:=by
 let(h1,h2,h3):=lH (y+1) hr;let(hi,hy):=Array.getElem?_eq_some_iff.mp e;rcases Nat.lt_trichotomy (below xs (y+1)) (i+1) with z|z|z
 have:=h3 i y () e
 lia
 exact z;have hs:i+1<xs.size:=by lia
 have q:=h2 (i+1) _ z (N4 hs);have:=(acf.mp hr) i (i+1) (by simpa using hi) (by simpa using hs) (qw _);simp only[Array.getElem_toList] at this
 lia
def ux{xs:Array Nat}(hr:xs.toList.Pairwise (·<·))(hn:xs[below xs j]?≠some j):(insertAt xs (below xs j) j).toList.Pairwise (·<·):=by
 let(h1,h2,h3):=lH j hr;rw[toList_insertAt];have bV:=hr;rw[<- X3 (below xs j) xs.toList,List.pairwise_append] at bV;let(p1,p2,p3):=bV;have low:∀a∈xs.toList.take (below xs j),a<j:=λa ha=>by let(i,hi,rfl):=YO.mp ha;rw[N5] at hi;rw[List.getElem_take];exact h2 i _ () (by rw[<- DF];exact eZ _)
 have high:∀a∈xs.toList.drop (below xs j),j<a:=λa ha=>by
  let(i,hi,rfl):=YO.mp ha;rw[X9] at hi;rw[List.getElem_drop];have e:xs[below xs j+i]?\xs.toList[below xs j+i]:=by rw[<- DF];exact eZ _
  have q:=h3 (below xs j+i) _ () e;rcases Ub j xs.toList[below xs j+i] with z|z
  exact z;have e2:xs.toList[below xs j+i]=j:=by lia
  rcases Nat.eq_zero_or_pos i with z2|z2
  subst z2;exact absurd (by rw[e2] at e;exact e) hn;have hb:below xs j<xs.toList.length:=by lia
  have q2:=h3 (below xs j) xs.toList[below xs j] (cL _) (by rw[<- DF];exact eZ _);have q3:=(acf.mp hr) (below xs j) (below xs j+i) hb () ()
  lia
 rw[List.pairwise_append];refine#[p1,List.pairwise_cons.mpr #[high,p2],λa ha b hb=>?_];rcases dQ.mp hb with z|z
 rw[z];exact low a ha;exact Ua (low a ha) (high b z)
def GZ{t:SetTable}(h:∀i,t.slot j≠.live i):t.place[below t.place j]?≠some j:=by intro e;refine h (below t.place j) ?_;unfold slot;simp[e]
def K9{t:SetTable}{f:Nat->Int}{h:Int}:∀(fuel:Nat)(p:Probe)(j:Nat)(d:Option Nat),(∀x,p.dummy\x->∀i,t.slot x≠.live i)->probe.go t f h fuel p\.empty j d->∀i,t.slot (d.getD j)≠.live i:=by
 intro fuel;induction fuel with
 |zero=>intro p j d _ e;simp[probe.go] at e
 |succ fuel ih=>
  intro p j d hp e;have adL:∀q:Probe,(t.advance q).dummy=q.dummy:=λq=>by unfold advance;split<;>rfl
  unfold probe.go at e;split at e
  rename_i hs
  let(rfl,rfl):=e;cases hd:p.dummy with
  |none=>intro i z;simp only[acW] at z;rw[hs] at z;cases z
  |some x=>exact hp x hd
  rename_i hs
  refine ih _ j d (λx hx=>?_) e;rw[adL] at hx;simp only[Option.some.injEq] at hx;subst hx;intro i z;rw[hs] at z;cases z;split at e;cases e;exact ih _ j d (λx hx=>hp x (by rw[adL] at hx;exact hx)) e
def uy{t:SetTable}{h:Int}{b:Bool}(e:t.freeSlot h\(j,b)):t.place[below t.place j]?≠some j:=by
 unfold freeSlot at e;split at e
 rename_i j' d hp
 let(rfl,_):=e;exact GZ (K9 _ _ j' d (λx hx=>by simp[probeStart] at hx) hp);cases e
def mQ(n:Nat):(Array.range n).toList.Pairwise (·<·):=by rw[Array.toList_range];exact List.pairwise_lt_range
def g8(t:SetTable)(n:Nat):(t.standIn n).led=t.led/\(t.standIn n).place.toList.Pairwise (·<·):=#[9,mQ n]
end SetTable
def xq{t:SetTable}(es:Array (Int×Value))(h:Int)(x:Value)(hr:t.place.toList.Pairwise (·<·)):(layNew t es h x).2.1.led=t.led/\(layNew t es h x).2.1.place.toList.Pairwise (·<·):=by
 unfold layNew;split
 rename_i slot wd e
 have hn:=SetTable.uy e;show ((t.put slot).1.orStandIn _).led=_/\((t.put slot).1.orStandIn _).place.toList.Pairwise _;unfold SetTable.orStandIn;split;exact#[9,SetTable.ux hr hn];exact#[9,SetTable.mQ _];exact SetTable.g8 _ _
theorem jG{f:Nat->Option Nat}:∀l:qao,((l.filterMap λj=>(f j).map (j,·)).map (·.1)).Sublist l
 |[]=>.slnil
 |j::l=>by
  rw[tX];cases f j with
  |none=>exact (jG l).cons j
  |some k=>exact (jG l).cons₂ j
def rE(t:SetTable)(es:Array (Int×Value))(wanted:Nat):(relayAll t es wanted).2.1.led=t.led/\(relayAll t es wanted).2.1.place.toList.Pairwise (·<·):=by
 unfold relayAll;split
 rename_i t' order e
 dsimp only;split;unfold SetTable.relaid SetTable.laid at e;cases q:SetTable.layClean (SetTable.sizeAbove wanted-1) (es.map (·.1)) with
 |none=>rw[q] at e;cases e
 |some owner=>rw[q] at e;let(rfl,_):=e;exact#[9,List.Pairwise.sublist (jG _) List.pairwise_lt_range]
 exact SetTable.g8 _ _;exact SetTable.g8 _ _
end PySem
namespace PySem
section
variable{K:Type}[DecidableEq K](knd:KeyKind prog w K)
def Heap.iq(h:Heap)(a:Addr)(S:K->Bool)(n:Nat)(b:Bool):Prop :=
 ∃o es ep t,h.get? a\o/\o.ExactSet/\o.data=.set es ep t/\ElemsOf knd es.toList/\(∀k,S k=true↔∃e∈es.toList,knd.is k e.2=true)
  /\ es.size<scanBound/\t.fits es.size=true/\es.size=n/\t.led=b/\t.place.toList.Pairwise (·<·)
variable{knd}
def rF{es:Array (Int×Value)}{t:SetTable}{b:Bool}(ho:h.get? a\o)(hex:o.ExactSet)(hd:o.data=.set es ep t){uR:Array (Int×Value)}{t':SetTable}{S':K->Bool}(Iz:ElemsOf knd uR.toList)(n9:∀k,S' k=true↔∃e∈uR.toList,knd.is k e.2=true)(hb:uR.size<scanBound)(hf:t'.fits uR.size=true)(hl:t'.led=b)(hr:t'.place.toList.Pairwise (·<·)) :
  (h.update a (Obj.putSet uR t')).get? a=some {o with data:=.set uR (ep+1) t'}/\(h.update a (Obj.putSet uR t')).iq knd a S' uR.size b:=by
 have hg:(h.update a (Obj.putSet uR t')).get? a=some {o with data:=.set uR (ep+1) t'}:=by have:=T3 (Obj.putSet uR t') ho (by rw[putSet_of uR t' hd];rfl);rw[putSet_of uR t' hd] at this;exact this
 exact#[hg,_,uR,ep+1,t',hg,hex,9,Iz,n9,hb,hf,9,hl,hr]
def jH{g:Bool->Sem Unit}(hg:∀(b:Bool) (s₁:Shared) (Q':Unit->Shared->Prop),Q' Unit.unit s₁->wpAny 14 A (g b) Q' E s₁){es:Array (Int×Value)}{t:SetTable}{lb:Bool}(ho:s.heap.get? a\o)(hex:o.ExactSet)(hd:o.data=.set es ep t){nI:Array (Int×Value)}{t2:SetTable}{S':K->Bool}(K_:ElemsOf knd nI.toList)(zS:∀k',S' k'=true↔∃e∈nI.toList,knd.is k' e.2=true)(Ef:nI.size<scanBound)(hf2:t2.fits nI.size=true)(Yi:t2.led=lb)(pU:t2.place.toList.Pairwise (·<·)){zU:Bool}{R:Option Bool->Shared->Prop}(h:∀h',Heap.SameBut a s.heap h'->h'.iq knd a S' nI.size lb->R (some true) {s with heap:=h'}) :
  wpAny 14 A (do
   storeSet a nI t2
   if (!zU && t2.tooFull)=true then do
       g (relayAll t2 nI (SetTable.grown nI.size)).2.2
       storeSet a (relayAll t2 nI (SetTable.grown nI.size)).1 (relayAll t2 nI (SetTable.grown nI.size)).2.1
       pure (some true)
    else pure (some true)) R E s:=by
 refine ζ (wpAny_storeSet_of ho hd ?_ (fits_of_scanBound Ef));let(We,hS1):=rF (knd:=knd) ho hex hd K_ zS Ef hf2 Yi pU;have adM:=IH s.heap a (Obj.putSet nI t2);split;have hp:=relayAll_perm t2 nI (SetTable.grown nI.size);have hfr:=relayAll_fits t2 nI (SetTable.grown nI.size);have Wf:=rE t2 nI (SetTable.grown nI.size);generalize hRl:relayAll t2 nI (SetTable.grown nI.size)=Rl at hp hfr Wf ⊢;let(es2,t3,agA):=Rl;dsimp only at hp hfr Wf ⊢;have af1:ElemsOf knd es2.toList:=K_.perm hp;have adN:∀k',S' k'=true↔∃e∈es2.toList,knd.is k' e.2=true:=λk'=>(zS k').trans #[λ#[e,he,q]=>#[e,hp.mem_iff.mpr he,q],λ#[e,he,q]=>#[e,hp.mem_iff.mp he,q]];have hsz:es2.size=nI.size:=by rw[<- FH,hp.length_eq,FH]
 have Kh:es2.size<scanBound:=by rw[hsz];exact Ef
 refine ζ (hg _ _ _ ?_);refine ζ (wpAny_storeSet_of We 9 ?_ (fits_of_scanBound Kh));let(_,Wg):=rF (knd:=knd) We hex 9 af1 adN Kh hfr (Wf.1.trans Yi) Wf.2;rw[hsz] at Wg;exact η (h _ (adM.trans (IH _ a _)) Wg);exact η (h _ adM hS1)
theorem kz{S:K->Bool}{lb:Bool}{k:K}{x:Value}{Q:Bool->Shared->Prop}(yN:knd.is k x=true)(hsc:x.scannable=true)(hS:s.heap.iq knd a S n lb)(K':n+1<scanBound)(h:∀h',Heap.SameBut a s.heap h'->h'.iq knd a (λk'=>S k' || decide (k'=k)) (if S k then n else n+1) lb->Q (!S k) {s with heap:=h'}) :
  wpAny 14 A (setAddHashed a x (knd.hash k)) Q E s:=by
 let(o,es,ep,t,ho,hex,hd,Iz,n9,hb,hf,hn,G0,G1):=hS;have Ef:es.size+1<scanBound:=by rw[hn];exact K'
 unfold setAddHashed setAddHashedIn;refine Ω (ζ (aan ho hd hf ?_));dsimp only;rw[byScan_of hsc hb Iz];simp only[↓reduceIte];unfold setAddByScan;refine ζ ?_;refine ζ (aab ?_);refine ζ (wpAny_setScan_of yN ho hd hf Iz ?_);cases hr:List.findIdx? (λe=>knd.is k e.2) es.toList with
 |some j=>
   dsimp only;let(hj,hpj,_):=List.findIdx?_eq_some_iff_getElem.mp hr;have hSk:S k=true:=(n9 k).mpr #[es.toList[j],FK hj,hpj];refine η (η ?_);have e:s={s with heap:=s.heap}:=by cases s;rfl
   have:=h s.heap (Heap.SameBut.refl a s.heap) #[o,es,ep,t,ho,hex,hd,Iz,λk'=>by rw[N_,aar,<- n9 k'];exact#[λhk=>hk.elim id (λe=>e▸hSk),.inl],hb,hf,by rw[hSk];exact hn,G0,G1]
   rw[hSk] at this;rw[e];exact this
 |none=>
   dsimp only;have hSk:S k=false:=by
    cases hk:S k with
    |false=>rfl
    |true=>let(e,he,hp):=(n9 k).mp hk;have:=List.findIdx?_eq_none_iff.mp hr e he;rw[hp] at this;exact Bool.noConfusion this
   have hgw:∀(b:Bool){s₁:Shared}{Q':Unit->Shared->Prop},Q' Unit.unit s₁->wpAny 14 A (match b with|true=>rule "set.scan.the-table-gave-way"|false=>pure Unit.unit) Q' E s₁ :=
    λb s₁ Q' hq=>by cases b<;>first|exact η hq|exact aab hq
   have rG:=layNew_perm t es (knd.hash k) x;have zV:=layNew_fits t es (knd.hash k) x;have zW:=xq es (knd.hash k) x G1;generalize hL:layNew t es (knd.hash k) x=L at rG zV zW ⊢;let(nI,t1,zU,agH):=L;dsimp only at rG zV zW ⊢;rw[acQ] at rG;have K_:ElemsOf knd nI.toList:=(Iz.push yN hsc).perm rG;have zS:∀k',(S k' || decide (k'=k))=true↔∃e∈nI.toList,knd.is k' e.2=true:=mem_push_iff yN n9 rG;have adO:nI.size<scanBound:=by rw[<- FH,rG.length_eq,fS,FH];simpa using Ef
   refine ζ (hgw _ ?_);have xr:nI.size=n+1:=by rw[<- FH,rG.length_eq,fS,FH,hn];rfl
   have Gr:∀h',Heap.SameBut a s.heap h'->h'.iq knd a (λk'=>S k' || decide (k'=k)) nI.size lb->Q true {s with heap:=h'}:=by intro h' SX Br;have:=h h' SX;rw[hSk] at this;rw[xr] at Br;exact this Br
   have Wh:t1.led=lb:=zW.1.trans G0;split;refine ζ ?_;rw[hashByValue_scannable 08 hsc];refine η ?_;refine jH (lb:=lb) ?_ ho hex hd K_ zS adO ?_ ?_ ?_ ?_;intro b s₁ Q' hq;cases b<;>first|exact η hq|exact aab hq
   split;exact zV;exact SetTable.fits_plain_off zV;split<;>exact Wh;split<;>exact zW.2;intro h' SX Br;dsimp only;exact η (Gr h' SX Br);refine ζ (η ?_);simp only[↓reduceIte];refine jH (lb:=lb) ?_ ho hex hd K_ zS adO zV Wh zW.2 ?_;intro b s₁ Q' hq;cases b<;>first|exact η hq|exact aab hq
   intro h' SX Br;dsimp only;exact η (Gr h' SX Br)
end
end PySem
namespace VT
open PySem PySem.Spec PyProof.Rows
def rH{K:Type}[DecidableEq K]{knd:PySem.KeyKind prog w K}{S S':K->Bool}{n':Nat}{b:Bool}(hS:h.iq knd a S n b)(e:∀k,S k=S' k)(en:n=n'):h.iq knd a S' n' b:=by obtain rfl:S=S':=funext e;subst en;exact hS
section
variable{R:Result->Shared->Prop}{I:Addr}{wr:qah}{G:Array GenState->Array GenState->Prop}{P:Nat->Value->Prop}{St:Nat->Shared->Prop}
variable{K:Type}[DecidableEq K]{knd:PySem.KeyKind prog w K}
theorem G2{lb:Bool}(W:WalksS prog w A.in1 I fp wr G n P St)(S:Addr)(hSf:S∉fp)(val:Nat->K)(P6:∀i v,P i v->knd.is (val i) v=true/\v.scannable=true)(hb:n+1<scanBound) :
  ∀(k i:Nat)(s:Shared),n-i=k->i<=n->St i s ->
   s.heap.iq knd S (λk'=>decide (k'∈met val i)) (met val i).length lb ->
   (∀s',Moved (S::wr) G s s'->s'.heap.iq knd S (λk'=>decide (k'∈met val n)) (met val n).length lb->R (.ok (.ret .none)) s') ->
   codeAny 14 A (.builtin "set.update.loop" #[[.ref S,.ref I],[]]) R s:=by
 have hSw:S∉wr:=λh=>hSf (W.sub _ h);have Kc:∀b∈wr,b∈S::wr:=λb hb=>iB _ hb;intro k;induction k with
 |zero=>
   intro i s hk hi yL hS hR;have Wi:i=n:=by lia
   subst Wi;refine aaq PyProof.Rows.F.entry_set_update_loop ?_;rw[YQ ab4 _];show wpAny _ A.in1 (pyNext (.ref I) >>= _) _ _ s;refine ζ (W.done s _ _ yL λs' hm=>?_);show wpAny _ A.in1 (ret Value.none) _ _ s';exact η (hR s' (hm.mono Kc) (by let(o,es,ep,t,ho,rest):=hS;exact#[o,es,ep,t,hm.heap S _ hSw ho,rest]))
 |succ k ih=>
   intro i s hk hi yL hS hR;have di:i<n:=by lia
   refine aaq PyProof.Rows.F.entry_set_update_loop ?_;rw[YQ ab4 _];show wpAny _ A.in1 (pyNext (.ref I) >>= _) _ _ s;refine ζ (W.item i s _ _ di yL λv s' hP af2 hm=>?_);let(yz,wz):=P6 i v hP;have Br:s'.heap.iq knd S (λk'=>decide (k'∈met val i)) (met val i).length lb:=by let(o,es,ep,tb,ho,rest):=hS;exact#[o,es,ep,tb,hm.heap S _ hSw ho,rest]
   show wpAny _ A.in1 (holding [v] (setAdd S v) >>= _) _ _ s';refine ζ (Ω ?_);unfold setAdd;refine Ω ?_;refine ζ (knd.pyHash (k:=val i) yz ?_);have K':(met val i).length+1<scanBound:=by have:=qj val i;lia
   refine kz (knd:=knd) (s:={s' with toks:=s'.toks+1}) yz wz Br K' λh' SX Wg=>?_;have hSi:h'.iq knd S (λk'=>decide (k'∈met val (i+1))) (met val (i+1)).length lb :=
    rH Wg (λk'=>by
     simp only[met,Qm,Bool.decide_or]) (by
     simp only[met,SW,aar];split<;>simp)
   refine η #[aaQ ab4 _,ih (i+1) _ () di (W.frame _ s' _ _ af2 (IK _) λb hb o e=>?_) hSi λYf af3 af4=>?_];rw[SX.2 b (λh:b=S=>hSf (by rw[<- h];exact hb))];exact e;refine hR Yf (Moved.trans W.gtrans ((hm.mono Kc).then_heap (IK _) λb o hb e=>?_) af3) af4;rw[SX.2 b (λh:b=S=>hb (by rw[h];exact iz))];exact e
end
section
def uz(a:Value){Q₁:qad}(h:Q₁ (.ref 8) {s with heap:=s.heap.push (n6 (!w.params.followText "set-order"))}) :
  codeAny 14 A (.call (.builtin "set.__new__") #[[.type "set",a],[]]) (wants Q₁ E) s:=by
 refine codeAny_of_tree ?_;show wpAny _ A.in1 (do checkBuiltinCall "set.__new__" #[[.type "set",a],[]];again (.builtin "set.__new__" #[[.type "set",a],[]])) _ _ s;refine ζ (aaM (PySem.F.newCall_set_1 a) (η #[aaQ PySem.F.plain_set_new _,aaq PySem.F.entry_set_new ?_]));rw[YQ PySem.F.plain_set_new _];unfold Builtin.«set.__new__» Builtin.Frozenset.newClass;have Kc:=sub_set_self;let(hp,g,d,tk,os):=s;dsimp only
 wp_walk
 refine aat (η ?_);dsimp only;simp only[newObj];refine ζ (wpAny_alloc (η ?_));exact η h
variable{K:Type}[DecidableEq K]{knd:PySem.KeyKind prog w K}
def Ct{lb:Bool}(hg:h.get? a\n6 lb):h.iq knd a (λ_=>false) 0 lb :=
 #[_,([].toArray),0,_,hg,#[9,9,9],9,λe he=>by simp at he,λk=>by simp,by unfold scanBound;simp,by rfl,9,9,by simp[SetTable.fresh]]
theorem jI{l:Addr}{items:Array Value}{val:Nat->K}(hh:A.handled=none)(hl:s.heap.IsList l items)(hi:∀(i:Nat) (v:Value),items[i]?\v->knd.is (val i) v=true/\v.scannable=true)(hb:items.size+1<scanBound)(h:∀(h':Heap) (tk:Nat),h'.iq knd 8 (λk'=>decide (k'∈met val items.size)) (met val items.size).length (!w.params.followText "set-order") ->
    (∀b o,b<8->s.heap.get? b\o->h'.get? b\o)->8<h'.objs.size->Q (.ref 8) {s with heap:=h',toks:=tk}) :
  wpAny 14 A (call (.type "set") [.ref l]) Q E s:=by
 let(c,tl,agI):=RZ.mro;have agB:=RZ.made;have Kc:=RZ.sub;refine wpAny_call (codeAny_of_tree ?_);show wpAny _ _ (callAny (.type "set") _) _ _ _;refine η #[Code.quiet_builtin _ (by decide +kernel),aaq F.entry_type_call ?_];rw[Around.under_plain (weight_type_call_type "set" [.ref l] []) 9];have h1:=RZ.notType;have h2:=RZ.canCreate;have hct:=PySem.F.typeCall_set_1 (.ref l)
 repeat (any_goals (first|assumption|wp_step))
 generalize hlb:(!w.params.followText "set-order")=led at h;refine aax (uz (.ref l) (E:=E) (Q₁:=λobj s₁=>obj=.ref 8/\s₁={s with heap:=s.heap.push (n6 led)}) #[9,by rw[hlb]]) λr s₁ hr=>?_;cases r with
 |error e=>exact hr
 |ok fl=>
   cases fl with
   |ret obj=>
     let(rfl,rfl):=hr;have hS:(s.heap.push (n6 led)).get? 8\n6 led:=gQ _ 9;have hT:Shared.TypeIs {s with heap:=s.heap.push (n6 led)} (.ref 8) "set":=#[_,hS,9];have hli:=RZ.init.lookup;have ZV:=RZ.init.bind (.ref 8)
     repeat (any_goals (first|assumption|wp_step))
     refine aax (codeAny_call_builtin (R:=wants (λr s₂=>r=.none/\∃h' tk,s₂={s with heap:=h',toks:=tk} /\
       h'.iq knd 8 (λk'=>decide (k'∈met val items.size)) (met val items.size).length led /\
       (∀b o,b<8->s.heap.get? b\o->h'.get? b\o)) E) RZ.init.plain PySem.F.entry_set_init (check_set_init_1 hT ?_)) λr₂ s₂ hr₂=>?_
     . let(ol,Pw,tT,nl,Yn):=hl;let(af5,SY,adP,Wj):=ol;simp only at tT Yn;subst tT;subst Yn;have af6:(s.heap.push (n6 led)).get? l=some {cls:=.type "list",dict:=SY,data:=.seq items nl,slots:=Wj}:=dF _ Pw;have agJ:=sub_list_set;have agK:=sub_list_frozenset;have fY:(Value.type "list"==Value.type "dict")=false:=by decide
       have Wh:(s.heap.push (n6 led)).IsList l items:=#[_,af6,9,nl,9];unfold Builtin.«set.__init__» noKeywords Builtin.Frozenset.updateFrom;generalize hPI:pyIter=PI
       wp_walk
       subst hPI;refine aay Wh ?_;refine ζ (wpAny_runValue ?_);have hlS:l<8:=eS Pw;have hh3:A.in1.in1.in1.handled=none:=by simp[hh]
       have af7:l≠(s.heap.push (n6 led)).objs.size:=by rw[uP];exact hV (Bj hlS)
       have hSf:8∉[(s.heap.push (n6 led)).objs.size,l]:=by rw[uP];simp only[dQ,fE,gR,aah,not_or];exact#[hV (qw _),FQ hlS]
       refine G2 (lb:=led) ((Walks.list hh3 _ l af7 items).toS) 8
        hSf val hi hb (items.size-0) 0 _ () (fB _)
        #[#[_,gQ _ 9,9,9],(Wh.push _)] ?hS0 ?hR
       case hS0=>
        have af8:((s.heap.push (n6 led)).push {cls:=.type "list_iterator",data:=.fields ([.ref l,.int 0 0].toArray)}).get? 8
          = some (n6 led):=dF _ hS
        exact rH (Ct (knd:=knd) af8) (λ_=>by simp[met]) 9
       case hR=>
        intro s' hm Br;let(h',g',d',tk',os'):=s';have eg:g'=s.gens:=hm.gens;have ed:d'=s.drawn:=hm.drawn;have eo:os'=s.os:=hm.os;subst eg;subst ed;subst eo;show wpAny _ _ _ _ _ _;refine η ?_;show wpAny _ _ (ret Value.none) _ _ _;refine η #[9,h',tk',9,Br,λb o hb e=>?_];have Ef:b≠8:=hV hb;have Kh:b≠(s.heap.push (n6 led)).objs.size:=by rw[uP];exact hV (Bj hb)
        exact hm.heap b o (by simp only[dQ,fE,gR,aah,not_or];exact#[Ef,Kh]) (dF _ (dF _ e))
     . cases r₂ with
       |error e=>exact hr₂
       |ok fl₂=>
         cases fl₂ with
         |ret r=>
           let(rfl,h',tk,rfl,Br,yA):=hr₂
           repeat (any_goals (first|assumption|wp_step))
           refine h _ _ Br yA ?_;let(o,_,_,_,ho,_):=Br;exact eS ho
         |_=>exact hr₂.elim
   |_=>exact hr.elim
end
end VT
namespace PySem
open Sem (wp)
namespace F
theorem gv:Manifest.owners.lookup (String.ofList ['r','o','t','a','r','e','t','i','_','t','e','s'].reverse)\Manifest.sig_set_iterator:=by kernel_rfl
def aN:Slot "set_iterator" "__next__" "set_iterator.__next__" :=
 .of (owner:="set_iterator") (n:="__next__") (by rw[typeLookup_type,builtinLookup_eq_fast];kernel_rfl) (by decide +kernel) (by decide +kernel) (by decide +kernel)
  (by first|exact .inl (by decide +kernel)|exact .inr (by decide +kernel)) (by rw[isSubtype_type];kernel_rfl)
theorem cg:entryFor table "set_iterator.__next__"\Builtin.«set_iterator.__next__»:=entryFor_of_tree (by kernel_rfl)
theorem b_(a:Value):argsOk "set_iterator.__next__" #[[a],[]]:=by unfold argsOk;rw[signature?_of (id:="set_iterator.__next__") (n:=['_','_','t','x','e','n','_','_']) (o:=['r','o','t','a','r','e','t','i','_','t','e','s']) (by kernel_rfl) gv];kernel_rfl
def cp:Slot "set_iterator" "__iter__" "set_iterator.__iter__" :=
 .of (owner:="set_iterator") (n:="__iter__") (by rw[typeLookup_type,builtinLookup_eq_fast];kernel_rfl) (by decide +kernel) (by decide +kernel) (by decide +kernel)
  (by first|exact .inl (by decide +kernel)|exact .inr (by decide +kernel)) (by rw[isSubtype_type];kernel_rfl)
theorem dY(a:Value):argsOk "set_iterator.__iter__" #[[a],[]]:=by unfold argsOk;rw[signature?_of (id:="set_iterator.__iter__") (n:=['_','_','r','e','t','i','_','_']) (o:=['r','o','t','a','r','e','t','i','_','t','e','s']) (by kernel_rfl) gv];kernel_rfl
def d8:entryFor table "set_iterator.__iter__"\Builtin.«dict_keyiterator.__iter__» :=
 entryFor_alias (id':="dict_keyiterator.__iter__") (by kernel_rfl) 9 (by decide +kernel) (by kernel_rfl)
def rJ:entryFor table "set.__iter__"\Builtin.«frozenset.__iter__» :=
 entryFor_alias (id':="frozenset.__iter__") (by kernel_rfl) 9 (by decide +kernel) (by kernel_rfl)
theorem La:typeLookup (.type "set") "__len__"=pure (some (.builtin "set.__len__")):=by rw[typeLookup_type,builtinLookup_eq_fast];kernel_rfl
end F
section
def xt{M:Model}{src:Source}{Q:Nat->Shared->Prop}(hn:n≠0)(h:∀i,i<n->Q i {s with drawn:=s.drawn.bump src}):wpAny M A (choose src n) Q E s:=by intro Γ p hΓ;show Sem.wp M Γ (Sem.choose src n Sem.pure) _ _ p s;rw[Sem.wp_choose];exact#[hn,(η (M:=M) (A:=A) (E:=E) (Q:=Q) (h _ (Nat.mod_lt _ (Nat.pos_of_ne_zero hn)))) Γ p hΓ]
theorem lJ{α:Type}:∀{l:List α}{i:Nat}{x:α},l[i]?\x->(x::l.eraseIdx i).Perm l
 |[],i,x,h=>by simp at h
 |y::l,0,x,h=>by simp at h;subst h;simp
 |y::l,i+1,x,h=>by simp only[List.getElem?_cons_succ] at h;rw[List.eraseIdx_cons_succ];exact (List.Perm.swap y x _).trans ((lJ h).cons y)
theorem jd{α:Type}:∀(n:Nat)(xs:List α)(s:Shared)(Q:List α->Shared->Prop),xs.length=n->(∀ys d',ys.Perm xs->Q ys {s with drawn:=d'})->wpAny 14 A (drawOrder n xs) Q E s
 |0,xs,s,Q,hl,h=>by
  unfold drawOrder;have e:s={s with drawn:=s.drawn}:=rfl;cases xs with
  |nil=>exact η (h [] s.drawn .nil)
  |cons x xs=>cases hl
 |n+1,[],s,Q,hl,h=>by cases hl
 |n+1,x::xs,s,Q,hl,h=>by
  unfold drawOrder;refine ζ (xt 6 λi hi=>?_);have e:(x::xs)[i]?\(x::xs)[i]:=eZ hi;rw[e];dsimp only;have hp:=lJ e;refine ζ (jd n _ _ _ ?_ λys d' hy=>?_);have:=hp.length_eq;simp only[vR] at this hl
  lia
  exact η (h _ d' ((hy.cons _).trans hp))
theorem mR{α:Type}(next:Nat->Nat):∀(fuel k:Nat)(left:List α)(out:Array α),left.length=fuel->(pickOrder.go next fuel k left out).toList.Perm (out.toList++left)
 |0,k,left,out,hl=>by
  cases left with
  |nil=>simp[pickOrder.go]
  |cons x l=>cases hl
 |fuel+1,k,left,out,hl=>by
  unfold pickOrder.go;have di:next k % left.length<left.length:=Nat.mod_lt _ ();have e:left[next k % left.length]?\left[next k % left.length]:=eZ di;rw[e];dsimp only;have hp:=lJ e;refine (mR next fuel (k+1) _ _ ?_).trans ?_;have:=hp.length_eq;simp only[vR] at this
  lia
  rw[acQ,yD];exact hp.append_left _
def jJ(next:Nat->Nat)(xs:Array α):(pickOrder next xs).toList.Perm xs.toList:=by have:=mR next xs.size 0 xs.toList ([].toArray) 6;simpa[pickOrder] using this
def n_(w:World)(d:Addr)(es:Array (Int×Value))(ep:Nat)(t:SetTable)(ord:List (Int×Value)):Prop :=
 if w.params.followText "set-order" then ord=(pickOrder (w.params.setOrder d ep) es).toList else ord=es.toList
def iS(w:World)(t:SetTable)(i slot:Nat):Prop :=
 w.params.followText "set-order"=true\/SetTable.below t.place slot=i
variable{es:Array (Int×Value)}{t:SetTable}
def rK{Q:Bool->Shared->Prop}(ho:s.heap.get? d\o)(hd:o.data=.set es ep t)(hf:t.fits es.size=true)(h:Q (!w.params.followText "set-order" && (!t.plain && decide (es.size > 1))) s):wpAny 14 A (setDrawn d) Q E s:=by unfold setDrawn setsByText;refine ζ (aan ho hd hf ?_);refine ζ (ζ (aat (η ?_)));exact η h
theorem kP{slot:Nat}{Q:Option (Value×Nat)->Shared->Prop}(ho:s.heap.get? d\o)(hd:o.data=.set es ep t)(hf:t.fits es.size=true)(hl:t.led=!w.params.followText "set-order")(hr:t.place.toList.Pairwise (·<·))(Gi:(!w.params.followText "set-order" && (!t.plain && decide (es.size > 1)))=false)(g9:n_ w d es ep t ord)(hs:iS w t i slot)(h:(∀e nx,ord[i]?\e->iS w t (i+1) nx->Q (some (e.2,nx)) s)/\(ord[i]?=none->Q none s)):wpAny 14 A (setNext d slot i ep) Q E s:=by
 unfold setNext setsByText;refine ζ (aan ho hd hf ?_);dsimp only;refine ζ (ζ (aat (η ?_)));unfold n_ at g9;unfold iS at hs;by_cases hb:w.params.followText "set-order"=true;rw[ι hb] at g9;rw[show (model prog w).w.params.followText "set-order"=true from hb];simp only[↓reduceIte,aaN,NQ];refine ζ ?_;unfold setWalk setsByText;refine ζ (aan ho hd hf ?_);dsimp only;refine ζ (ζ (aat (η ?_)));rw[show (model prog w).w.params.followText "set-order"=true from hb];simp only[↓reduceIte];refine ζ (aat (η ?_));refine η ?_;show Q (Option.map _ (pickOrder (w.params.setOrder d ep) es)[i]?) s;rw[<- DF,<- g9];cases q:ord[i]? with
 |none=>exact h.2 q
 |some e=>exact h.1 e slot q (.inl hb)
 have Qn:w.params.followText "set-order"=false:=by simpa using hb
 rw[θ hb] at g9;have af9:SetTable.below t.place slot=i:=hs.resolve_left hb;rw[show (model prog w).w.params.followText "set-order"=false from Qn];simp only[NQ,↓reduceIte];rw[Qn] at Gi hl;have aga:(!t.plain && decide (es.size > 1))=false:=by simpa using Gi
 show wpAny _ _ (if (!t.plain && decide (es.size > 1))=true then _ else _) _ _ _;rw[aga];simp only[NQ,↓reduceIte];refine ζ (m:=if (!t.led && !es.isEmpty)=true then _ else _) ?_;rw[hl];simp only[Bool.not_true,Bool.not_false,Ig,NQ,↓reduceIte];refine η ?_;refine η ?_;rw[af9];have hsz:t.place.size=es.size:=by simp only[SetTable.fits,pK,aaS] at hf;exact hf.1
 rw[g9] at h;rw[DF] at h;rcases Ub i es.size with z|z
 have e1:es[i]?\es[i]:=N4 z;have e2:t.place[i]?\t.place[i]'():=N4 ();rw[e1,e2];exact h.1 _ _ e1 (.inr (SetTable.Cs hr e2));have e1:es[i]?=none:=acU z;rw[e1];exact h.2 e1
end
end PySem
namespace PySem
open Sem (wp)
def Heap.bX(h:Heap)(it d:Addr)(first:Value)(i n ep:Nat):Prop:=∃o,h.get? it\o/\o.cls=.type "set_iterator"/\o.data=.fields ([first,.int i 0,.ref d,.int n 0,.int ep 0].toArray)
def Heap.bX.at{it d first i n ep}(x:h.bX it d first i n ep)(e:∀o,h.get? it\o->h'.get? it\o):h'.bX it d first i n ep:=let #[o,ho,r]:=x;#[o,e _ ho,r]
section
def Heap.bX.typeIs{it d first i n ep}(x:s.heap.bX it d first i n ep):s.TypeIs (.ref it) "set_iterator":=let #[o,ho,hc,_]:=x;#[o,ho,hc]
variable{es:Array (Int×Value)}{t:SetTable}{slot:Nat}
def cY{Q:Array (Int×Value)->Shared->Prop}(ho:s.heap.get? d\o)(hd:o.data=.set es ep t)(hf:t.fits es.size=true)(h:Q es s):wpAny 14 A (setEntries d) Q E s:=ζ (aan ho hd hf (η h))
def mS{Q:(Option Value)->Shared->Prop}(hit:s.heap.bX it d (.int slot 0) i es.size ep)(ho:s.heap.get? d\o)(hd:o.data=.set es ep t)(hf:t.fits es.size=true)(hl:t.led=!w.params.followText "set-order")(hr:t.place.toList.Pairwise (·<·))(Gi:(!w.params.followText "set-order" && (!t.plain && decide (es.size > 1)))=false)(g9:n_ w d es ep t ord)(hs:iS w t i slot){e:Int×Value}(he:ord[i]?\e)(h:∀nx h',h'.bX it d (.int nx 0) (i+1) es.size ep->iS w t (i+1) nx->Heap.SameBut it s.heap h'->Q (some e.2) {s with heap:=h'}):wpAny 14 A (pyNext (.ref it)) Q E s:=by
 let(oi,EA,hci,zX):=id hit;refine ζ (aai (ψ hit.typeIs F.aN
  (υ F.aN hit.typeIs F.cg ?_ (F.b_ _))))
 refine ζ (η (ζ (aas EA zX (ζ (cY ho hd hf ?_)))));rw[θ 6];refine ζ (kP (i:=i) ho hd hf hl hr Gi g9 hs #[λe' nx q hn=>?_,λq=>by rw[he] at q;cases q]);rw[he] at q;cases q;refine ζ (aaf EA zX 6 ?_);have g1:=T3 (Obj.mapFields (·.setIfInBounds 0 (rawInt nx))) EA (YM (NP zX _));have d1:=NP zX (·.setIfInBounds 0 (rawInt nx));refine ζ (aaf g1 d1 6 ?_);have g2:=T3 (Obj.mapFields (·.setIfInBounds 1 (rawInt (i+1)))) g1 (YM (NP d1 _));have J1:((s.heap.update it (Obj.mapFields (·.setIfInBounds 0 (rawInt nx)))).update it (Obj.mapFields (·.setIfInBounds 1 (rawInt (i+1))))).bX it d (.int nx 0) (i+1) es.size ep :=
  #[_,g2,(Obj.cls_mapFields ..).trans ((Obj.cls_mapFields ..).trans hci),by rw[NP d1];simp[rawInt]]
 exact η #[_,9,η (h nx _ J1 hn ((IH ..).trans (IH ..)))]
def kA{Q:(Option Value)->Shared->Prop}(hh:A.handled=none)(hit:s.heap.bX it d (.int slot 0) i es.size ep)(ho:s.heap.get? d\o)(hd:o.data=.set es ep t)(hf:t.fits es.size=true)(hl:t.led=!w.params.followText "set-order")(hr:t.place.toList.Pairwise (·<·))(Gi:(!w.params.followText "set-order" && (!t.plain && decide (es.size > 1)))=false)(g9:n_ w d es ep t ord)(hs:iS w t i slot)(he:ord[i]?=none)(h:∀h',Heap.ExtBut it s.heap h'->Q none {s with heap:=h'}):wpAny 14 A (pyNext (.ref it)) Q E s:=by
 let(oi,EA,hci,zX):=id hit;refine ζ (aai (ψ hit.typeIs F.aN
  (υ F.aN hit.typeIs F.cg ?_ (F.b_ _))))
 refine ζ (η (ζ (aas EA zX (ζ (cY ho hd hf ?_)))));rw[θ 6];refine ζ (kP ho hd hf hl hr Gi g9 hs #[λe' nx q hn=>absurd (he.symm.trans q) 6,λq=>ζ (aaf EA zX 6 (ζ (ζ (m:=firstArgMember _ _) (aaM (by first|rfl|(simp only[firstArgMember];rfl)) (Δ (ζ (aaO ?_)) (by size_fits))))))]);rw[show A.in1.handled=none from hh];refine ζ (η (wpAny_throw ?_));refine ζ (aaC #[_,gQ _ 9,9] aaK ?_);exact η (h _ (((IH ..).extBut.push _).push _))
theorem Walks.agb(hh:A.handled=none)(it d:Addr)(fY:d≠it)(hd:o.data=.set es ep t)(hf:t.fits es.size=true)(hl:t.led=!w.params.followText "set-order")(hr:t.place.toList.Pairwise (·<·))(Gi:(!w.params.followText "set-order" && (!t.plain && decide (es.size > 1)))=false)(g9:n_ w d es ep t ord)(hlen:ord.length=es.size) :
  Walks prog w A it [it,d] [it] es.size (λi v=>∃e,ord[i]?\e/\v=e.2) (λi h=>(∃slot:Nat,h.bX it d (.int slot 0) i es.size ep/\iS w t i slot)/\h.get? d\o) where
 sub:=λb hb=>by simp at hb;simp[hb]
 frame:=λ_ _ _ st hk=>#[let #[slot,a,b]:=st.1;#[slot,a.at λo e=>hk it 6 o e,b],hk d 6 _ st.2]
 item:=λi s Q E hi st hQ=>by let((slot,h1,h2),h3):=st;have he:ord[i]?\ord[i]'():=eZ ();exact mS h1 h3 hd hf hl hr Gi g9 h2 he λnx h' a b c=>hQ _ h' s.toks #[_,he,9] #[#[nx,a,b],c.extBut d o fY h3] λb o hb e=>c.extBut b o (λh=>hb (by simp[h])) e
 done:=λs Q E st hQ=>by let((slot,h1,h2),h3):=st;exact kA hh h1 h3 hd hf hl hr Gi g9 h2 (IG ()) λh' Qf=>hQ h' s.toks λb o hb e=>Qf b o (λh=>hb (by simp[h])) e
 self:=λ_ _ _ _ st hQ=>by let((slot,h1,h2),h3):=st;exact aaz h1.typeIs F.cp (υ F.cp h1.typeIs F.d8 (η #[_,9,"set_iterator",_,h1.typeIs,F.aN.lookup,hQ]) (F.dY _))
def mT{ps:qao}{tp:Addr}{ot:Obj}{cc:Nat}{Q:(Option Value)->Shared->Prop}(hit:s.heap.bX it d (.ref tp) i es.size ep)(ho:s.heap.get? d\o)(hd:o.data=.set es ep t)(hf:t.fits es.size=true)(hot:s.heap.get? tp\ot)(Yt:ot.data=.seq (ps.map λ(k:Nat)=>Value.int k 0).toArray cc){p:Nat}{e:Int×Value}(hp:ps[i]?\p)(he:es[p]?\e)(h:∀h',h'.bX it d (.ref tp) (i+1) es.size ep->Heap.SameBut it s.heap h'->Q (some e.2) {s with heap:=h'}):wpAny 14 A (pyNext (.ref it)) Q E s:=by
 let(oi,EA,hci,zX):=id hit;refine ζ (aai (ψ hit.typeIs F.aN
  (υ F.aN hit.typeIs F.cg ?_ (F.b_ _))))
 refine ζ (η (ζ (aas EA zX (ζ (cY ho hd hf ?_)))));rw[θ 6];refine ζ (ζ (wpAny_load hot ?_));rw[Yt];refine η ?_;dsimp only;have e1:(ps.map λ(k:Nat)=>Value.int k 0).toArray[((i:Int)).toNat]?\.int p 0:=by simp[hp]
 rw[e1];dsimp only;refine ζ (ζ (aan ho hd hf ?_));dsimp only;rw[θ 6,show ((p:Int)).toNat=p from i_ p,he];refine η (ζ (aaf EA zX 6 ?_));have g1:=T3 (Obj.mapFields (·.setIfInBounds 1 (rawInt ((i:Int)+1)))) EA (YM (NP zX _));have J1:(s.heap.update it (Obj.mapFields (·.setIfInBounds 1 (rawInt ((i:Int)+1))))).bX it d (.ref tp) (i+1) es.size ep :=
  #[_,g1,(Obj.cls_mapFields ..).trans hci,by rw[NP zX];simp[rawInt]]
 exact η #[_,9,η (h _ J1 (IH ..))]
def jK{ps:qao}{tp:Addr}{ot:Obj}{cc:Nat}{Q:(Option Value)->Shared->Prop}(hh:A.handled=none)(hit:s.heap.bX it d (.ref tp) i es.size ep)(ho:s.heap.get? d\o)(hd:o.data=.set es ep t)(hf:t.fits es.size=true)(hot:s.heap.get? tp\ot)(Yt:ot.data=.seq (ps.map λ(k:Nat)=>Value.int k 0).toArray cc)(hp:ps[i]?=none)(h:∀h',Heap.ExtBut it s.heap h'->Q none {s with heap:=h'}):wpAny 14 A (pyNext (.ref it)) Q E s:=by
 let(oi,EA,hci,zX):=id hit;refine ζ (aai (ψ hit.typeIs F.aN
  (υ F.aN hit.typeIs F.cg ?_ (F.b_ _))))
 refine ζ (η (ζ (aas EA zX (ζ (cY ho hd hf ?_)))));rw[θ 6];refine ζ (ζ (wpAny_load hot ?_));rw[Yt];refine η ?_;dsimp only;have e1:(ps.map λ(k:Nat)=>Value.int k 0).toArray[((i:Int)).toNat]?=none:=by simpa using hp
 rw[e1];dsimp only;refine ζ (aaf EA zX 6 ?_);have g1:=T3 (Obj.mapFields (·.setIfInBounds 0 (rawInt 0))) EA (YM (NP zX _));have d1:=NP zX (·.setIfInBounds 0 (rawInt 0));refine ζ (aaf g1 d1 6 (ζ (ζ (m:=firstArgMember _ _) (aaM (by first|rfl|(simp only[firstArgMember];rfl)) (Δ (ζ (aaO ?_)) (by size_fits))))));rw[show A.in1.handled=none from hh];refine ζ (η (wpAny_throw ?_));refine ζ (aaC #[_,gQ _ 9,9] aaK ?_);exact η (h _ ((((IH ..).trans (IH ..)).extBut.push _).push _))
theorem Walks.agc{ps:qao}{ot:Obj}{cc:Nat}(hh:A.handled=none)(it d tp:Addr)(fY:d≠it)(hnt:tp≠it)(hd:o.data=.set es ep t)(hf:t.fits es.size=true)(Yt:ot.data=.seq (ps.map λ(k:Nat)=>Value.int k 0).toArray cc)(NZ:ps.Perm (List.range es.size))(g9:ord=ps.filterMap λp=>es[p]?) :
  Walks prog w A it [it,d,tp] [it] es.size (λi v=>∃e,ord[i]?\e/\v=e.2) (λi h=>h.bX it d (.ref tp) i es.size ep/\h.get? d\o/\h.get? tp\ot) where
 sub:=λb hb=>by simp at hb;simp[hb]
 frame:=λ_ _ _ st hk=>#[st.1.at λo e=>hk it 6 o e,hk d 6 _ st.2.1,hk tp 6 _ st.2.2]
 item:=λi s Q E hi st hQ=>by
  let(h1,h2,h3):=st;have hl:ps.length=es.size:=by rw[NZ.length_eq,pJ]
  have pO:∀p∈ps,p<es.size:=λp hp=>Bm.mp (NZ.mem_iff.mp hp);have hm:ps.filterMap (λp=>es[p]?)=ps.attach.map λp=>es[p.1]'(pO p.1 p.2):=by
   have gen:∀(l:qao)(hl:∀p∈l,p<es.size),l.filterMap (λp=>es[p]?)=l.attach.map λp=>es[p.1]'(hl p.1 p.2):=by
    intro l;induction l with
    |nil=>intro _;rfl
    |cons a l ih=>intro hl;rw[tX,N4 (hl a 6)];rw[ih λp hp=>hl p (by simp[hp]),List.attach_cons,kH,yE];rfl
   exact gen ps pO
  have hp:ps[i]?\ps[i]'():=eZ ();have he:es[ps[i]'()]?\es[ps[i]'()]'(pO _ (FK _)):=N4 _;have ho:ord[i]?\es[ps[i]'()]'(pO _ (FK _)):=by rw[g9,hm,fU,eZ (by simpa using (by lia:i<ps.length))];simp
  exact mT h1 h2 hd hf h3 Yt hp he λh' a c=>hQ _ h' s.toks #[_,ho,9] #[a,c.extBut d _ fY h2,c.extBut tp _ hnt h3] λb o hb e=>c.extBut b o (λh=>hb (by simp[h])) e
 done:=λs Q E st hQ=>by
  let(h1,h2,h3):=st;have hl:ps.length=es.size:=by rw[NZ.length_eq,pJ]
  exact jK hh h1 h2 hd hf h3 Yt (IG ()) λh' Qf=>hQ h' s.toks λb o hb e=>Qf b o (λh=>hb (by simp[h])) e
 self:=λ_ _ _ _ st hQ=>by let(h1,h2,h3):=st;exact aaz h1.typeIs F.cp (υ F.cp h1.typeIs F.d8 (η #[_,9,"set_iterator",_,h1.typeIs,F.aN.lookup,hQ]) (F.dY _))
end
end PySem
namespace VT
open PySem PySem.Spec PyProof.Rows L2
def once(ys:χ):χ:=met (λi=>ys.getD i Str.empty) ys.length
section
def G3{aR:qag}(r:Vals (ys.map V.str) aR)(i:Nat)(v:Value)(h:aR.toArray[i]?\v):(PySem.strKind X.prog X.w).is (ys.getD i Str.empty) v=true/\v.scannable=true:=by
 have h':aR[i]?\v:=by simpa using h
 have hl:=r.length;rw[bS] at hl;have hi:i<ys.length:=by have:=(c7.mp h').1;lia
 let(u,hu,ru):=r.get (show (ys.map V.str)[i]?\.str ys[i] by rw[fU,eZ hi];rfl);rw[h'] at hu;cases hu;let(t,rfl):=ru;refine#[?_,9];rw[vQ,eZ hi];show Value.isStrOf ys[i] (.str ys[i] t)=true;simp[Value.isStrOf]
def boot_set:bootBuiltins "set"\.type "set":=by decide +kernel
end
section
variable{a:Expr}{p1 ur kx:Pos}
theorem EB{K:qaf}{H:Hp}{A:qah}:∀{ys:χ}{vs:qak},aD K H A (ys.map T.str) vs->vs=ys.map V.str
 |[],vs,h=>by simpa only[Yc,aD] using h
 |y::ys,vs,h=>by simp only[kH,aD] at h;let(v,r,rfl,h1,h2):=h;simp only[At] at h1;rw[h1,EB h2];rfl
end
end VT
namespace SO
open PySem PyProof.Rows PyProof
variable{κ:SortKind}{lt:Kd->Kd->Bool}{G:Kd->Prop}
end SO
namespace PySem
open Sem (wp)
section
variable{es:Array (Int×Value)}{t:SetTable}
theorem oa{A':Around}(hh:A'.handled=none)(ho:s.heap.get? d\o)(hc:o.cls=.type "set")(hd:o.data=.set es ep t)(hf:t.fits es.size=true)(hb:es.size<scanBound)(hl:t.led=!w.params.followText "set-order")(hr:t.place.toList.Pairwise (·<·))(hQ:∀(it:Addr) (h':Heap) d' (fp:qah) (St:Nat->Heap->Prop) (ord:List (Int×Value)),(∀b o,s.heap.get? b\o->h'.get? b\o)->8<=it->8<h'.objs.size ->
    Walks prog w A' it fp [it] es.size (λi v=>∃e,ord[i]?\e/\v=e.2) St->St 0 h'->ord.Perm es.toList->(∀b∈fp,b=d\/8<=b)->Q (.ref it) {s with heap:=h',drawn:=d'}) :
  wpAny 14 A (pyIter (.ref d)) Q E s:=by
 have hT:s.TypeIs (.ref d) "set":=#[o,ho,hc];have di:=eS ho;refine aaz hT F.slot_set_iter (υ F.slot_set_iter hT F.rJ ?_ (F.args_set_iter_1 _));unfold Builtin.«frozenset.__iter__»;refine ζ (ζ (η ?_));refine η ?_;unfold Builtin.Frozenset.sizeOf;refine ζ (ζ (cY ho hd hf (η ?_)));refine ζ (rK ho hd hf ?_);cases hdr:(!w.params.followText "set-order" && (!t.plain && decide (es.size > 1))) with
 |false=>
   simp only[NQ,↓reduceIte];refine ζ (η ?_);refine ζ (wpAny_setEpoch_of ho hd hf ?_);refine ζ (Δ (η #[_,9,"set_iterator",_,#[_,gQ _ 9,9],F.aN.lookup,?_]));refine hQ 8 _ s.drawn [8,d] _ (if w.params.followText "set-order" then (pickOrder (w.params.setOrder d ep) es).toList else es.toList) (λb o e=>dF _ e) (cL _) (by rw[uP];exact qw _)
    (Walks.agb (o:=o) (t:=t) hh 8 d (hV di) hd hf hl hr hdr (by unfold n_;split<;>rfl) ?_) #[#[0,#[_,gQ _ 9,9,9],.inr (SetTable.cJ hr)],dF _ ho] ?_ (λb hb=>?_)
   split;rw[(jJ _ _).length_eq];simp;simp;split;exact jJ _ _;exact .rfl;rcases dQ.mp hb with z|z
   exact .inr (Yb z.symm);exact .inl (fE.mp z)
 |true=>
   simp only[↓reduceIte];refine ζ (jd es.size (List.range es.size) s _ 6 λps d' NZ=>?_);have j2:ps.length=es.size:=by rw[NZ.length_eq,pJ]
   refine ζ (aaJ ?_ (by rw[bS,j2,π];unfold scanBound at hb;lia));refine ζ (wpAny_setEpoch_of (s:={s with heap:=s.heap.push _,drawn:=d'}) (dF _ ho) hd hf ?_);refine ζ (Δ (η #[_,9,"set_iterator",_,#[_,gQ _ 9,9],F.aN.lookup,?_]));have hsz:(s.heap.push {cls:=.type "tuple",data:=.seq (ps.map λ(i:Nat)=>rawInt i).toArray}).objs.size=8+1:=uP _ _;have ht:(s.heap.push {cls:=.type "tuple",data:=.seq (ps.map λ(i:Nat)=>rawInt i).toArray}).get? 8=some {cls:=.type "tuple",data:=.seq (ps.map λ(i:Nat)=>rawInt i).toArray}:=gQ _ 9;show Q (.ref (s.heap.push {cls:=.type "tuple",data:=.seq (ps.map λ(i:Nat)=>rawInt i).toArray}).objs.size) _;rw[hsz];refine hQ (8+1) _ d' [8+1,d,8] _ (ps.filterMap λp=>es[p]?) (λb o e=>dF _ (dF _ e)) (IK _) (by rw[uP,hsz];exact Bj (qw _))
    (Walks.agc (ps:=ps) (o:=o) (t:=t) (ot:={cls:=.type "tuple",data:=.seq (ps.map λ(i:Nat)=>rawInt i).toArray}) hh (8+1) d 8 (hV (Bj di)) (hV (qw _)) hd hf 9 NZ 9)
    #[#[_,by rw[<- hsz];exact gQ _ 9,9,9],dF _ (dF _ ho),dF _ ht] ?_ (λb hb=>?_)
   refine (NZ.filterMap _).trans ?_;rw[filterMap_getElem?_range];rcases dQ.mp hb with z|z
   exact .inr (by rw[z];exact IK _);rcases dQ.mp z with z|z
   exact .inl z;exact .inr (Yb (fE.mp z).symm)
theorem gN{Q:(qag)->Shared->Prop}(hh:A.in1.handled=none)(ho:s.heap.get? d\o)(hc:o.cls=.type "set")(hd:o.data=.set es ep t)(hf:t.fits es.size=true)(hb:es.size<scanBound)(hl:t.led=!w.params.followText "set-order")(hr:t.place.toList.Pairwise (·<·))(hQ:∀h' tk d' (ord:List (Int×Value)),(∀b o,s.heap.get? b\o->h'.get? b\o)->8<h'.objs.size->ord.Perm es.toList->Q (ord.map (·.2)) {s with heap:=h',toks:=tk,drawn:=d'}) :
  wpAny 14 A (collect (.ref d)) Q E s:=by
 have di:=eS ho;unfold collect;refine ζ (wpAny_runValue (aaq F.entry_proto_collect ?_));rw[YQ F.plain_proto_collect _];show wpAny _ A.in1 (newList [] >>= λl=>again (.builtin "list.__iadd__" #[[l,.ref d],[]])) _ _ s;refine ζ (Δ ?_);refine η #[aaQ F.plain_list_iadd _,aaq F.entry_list_iadd ?_];rw[YQ F.plain_list_iadd _];have hS₁:(s.heap.push {cls:=.type "list",data:=.seq ([]:qag).toArray}).get? 8=some {cls:=.type "list",data:=.seq ([]:qag).toArray}:=gQ _ 9;have We:(s.heap.push {cls:=.type "list",data:=.seq ([]:qag).toArray}).get? d\o:=dF _ ho;have hsz:(s.heap.push {cls:=.type "list",data:=.seq ([]:qag).toArray}).objs.size=8+1:=uP _ _;have hold:∀b o,s.heap.get? b\o->(s.heap.push {cls:=.type "list",data:=.seq ([]:qag).toArray}).get? b\o:=λb o e=>dF _ e;show wpAny _ A.in1 (Builtin.List.listExtendWith (.ref 8) (.ref d) (.ref 8)) _ _ {s with heap:=s.heap.push {cls:=.type "list",data:=.seq ([]:qag).toArray} };generalize (s.heap.push {cls:=.type "list",data:=.seq ([]:qag).toArray})=h1 at hS₁ We hsz hold ⊢;have JP:Builtin.List.listSameRef (.ref 8) (.ref d)=false:=by simp[Builtin.List.listSameRef,FQ di]
 unfold Builtin.List.listExtendWith;have hT1:Shared.TypeIs {s with heap:=h1} (.ref d) "set":=#[o,We,hc];refine ζ (wpAny_typeOf hT1 ?_);rw[θ (by rw[JP];decide)];refine ζ (oa (A':=A.in1) hh We hc hd hf hb hl hr λit h2 d' fp St ord wz hit hsz2 W agd g9 hfp=>?_);have hT2:Shared.TypeIs {s with heap:=h2,drawn:=d'} (.ref d) "set":=#[o,wz d o We,hc];refine ζ (Ω ?_);unfold Builtin.List.listLengthHint;refine ζ (wpAny_specialOf hT2 F.La ?_)
 (generalize hid:("set.__len__":String)=id0;(fail_if_success (clear hid id0));wp_delta;rw[show splitId id0\("set","__len__") from by subst hid;decide +kernel];subst hid)
 refine wpAny_bind (wpAny_isInstance (b:=true) hT2 (by rw[isSubtype_type];kernel_rfl) ?_);refine wpAny_bind (wpAny_typeOf hT2 ?_);refine wpAny_pure ?_;rw[if_pos (by decide +kernel)];refine wpAny_bind (wpAny_rule ?_);show wpAny _ A.in1 (Builtin.List.listTouch (.ref 8) >>= λ_=>again (.builtin "list.extend.loop" #[[.ref 8,.ref it,.ref 8],[]])) _ _ {s with heap:=h2,drawn:=d'};have Wg:h2.get? 8\PyProof.Rows.seqObj "list" ([].toArray) 0:=wz _ _ hS₁;have hS3:=PyProof.Rows.get?_update_seq Wg (·.push .none);have hS4:=PyProof.Rows.get?_update_seq hS3 (·.pop);have kp:∀b,b≠8->∀o,h2.get? b\o->((h2.update 8 (Obj.mapSeq (·.push .none))).update 8 (Obj.mapSeq (·.pop))).get? b\o:=λb hb o e=>by rw[acD _ _ _ _ hb,acD _ _ _ _ hb];exact e
 have xr:8<h1.objs.size:=by rw[hsz];exact qw _
 have hnf:8∉fp:=λz=>by
  rcases hfp _ z with q|q
  exact absurd q (FQ di);exact absurd q (Nat.not_le_of_lt xr)
 have hni:8≠it:=hV (tY xr hit);refine ζ ?_;unfold Builtin.List.listTouch;refine ζ (PyProof.Rows.listUpdate_at Wg 9 ?_);refine PyProof.Rows.listUpdate_at hS3 9 ?_;have hlen:ord.length=es.size:=by rw[g9.length_eq];simp
 refine η #[aaQ F.plain_extend_loop _,codeAny_extend_loopS W.toS (by rw[π];unfold scanBound at hb;lia) 8 hnf _ es.size 0 _ ([].toArray) _ 9 (fB _) ?_ hS4 (ItemsOf.nil _) λs' yW c' hmv Br Jp=>?_];exact W.frame 0 _ _ agd λb hbf o e=>kp b (λz=>hnf (z▸hbf)) o e;show wpAny _ A (load 8 >>= _) _ _ s';refine ζ (wpAny_load Br ?_);refine η ?_;have e:s'={s with heap:=s'.heap,toks:=s'.toks,drawn:=d'}:=by have h1:s'.gens=s.gens:=hmv.gens;have h2:s'.drawn=d':=hmv.drawn;have h3:s'.os=s.os:=hmv.os;cases s';simp only at h1 h2 h3;subst h1 h2 h3;rfl
 rw[e];have ea:yW.toList=ord.map (·.2):=by
  refine YT λi=>?_;rw[DF,fU];rcases Ub i es.size with z|z
  have hi:i<yW.size:=by rw[Jp.1];exact z
  let(e,he,hv):=Jp.2 i yW[i] (N4 hi);rw[N4 hi,he,hv];rfl;rw[acU (by rw[Jp.1];exact z),IG (by rw[hlen];exact z)];rfl
 show Q yW.toList _;rw[ea];refine hQ s'.heap s'.toks d' ord (λb o eb=>?_) (eS Br) g9;have hb:b<8:=eS eb;refine hmv.heap b o (λz=>?_) (kp b (hV hb) o (wz b o (hold b o eb)));rcases dQ.mp z with z|z
 exact absurd z (hV hb);exact absurd (fE.mp z) (hV (tY (Ua hb xr) hit))
end
end PySem
namespace VT
open PySem PySem.Spec PyProof.Rows L2
theorem ke{K:Type}[DecidableEq K](val:Nat->K):∀n,(met val n).Nodup
 |0=>NS
 |n+1=>by
  simp only[met,SW];split;exact ke val n
  rename_i h
  rw[List.nodup_append];exact#[ke val n,by simp,λa ha b hb=>by rw[fE] at hb;rw[hb];intro e;rw[e] at ha;exact h ha]
theorem rL{α:Type}[DecidableEq α]:∀{l m:List α},l.Nodup->(∀x∈l,x∈m)->m.length<=l.length->m.Perm l
 |[],m,_,_,hl=>by cases m with
  |nil=>exact .nil
  |cons x m=>simp at hl
 |a::l,m,hn,hs,hl=>by
  have ha:=hs a 6;have hp:=List.perm_cons_erase ha;rw[qx] at hn;refine hp.trans (List.Perm.cons a (rL hn.2 (λx hx=>?_) ?_));refine (List.mem_erase_of_ne λe=>?_).mpr (hs x (by simp[hx]));rw[e] at hx;exact hn.1 hx;rw[List.length_erase_of_mem ha];simp only[vR] at hl
  lia
section
def o4{K:Type}[DecidableEq K]{knd:PySem.KeyKind prog w K}{es:List (Int×Value)}{l:List K}(hn:l.Nodup)(Iz:ElemsOf knd es)(hm:∀k,decide (k∈l)=true↔∃e∈es,knd.is k e.2=true)(hl:es.length=l.length)(hp:ord.Perm es) :
  ∃ks:List K,ks.Perm l/\ks.length=ord.length/\∀(i:Nat)(e:Int×Value),ord[i]?\e->∃k,ks[i]?\k/\knd.is k e.2=true:=by
 have age:∀e∈ord,∃k,knd.is k e.2=true:=λe he=>let #[#[k,hk,_],_]:=Iz e (hp.mem_iff.mp he);#[k,hk];have mk:∀os:List (Int×Value),(∀e∈os,∃k,knd.is k e.2=true)->∃ks:List K,ks.length=os.length/\(∀(i:Nat) e,os[i]?\e->∃k,ks[i]?\k/\knd.is k e.2=true)/\∀e∈os,∀k,knd.is k e.2=true->k∈ks:=by
  intro os;induction os with
  |nil=>intro _;exact#[[],9,λi e h=>by simp at h,λe he=>by simp at he]
  |cons o os ih=>
    intro h;let(ks,h1,h2,h3):=ih λe he=>h e (by simp[he]);let(k,hk):=h o 6;refine#[k::ks,by simp[h1],λi e he=>?_,λe he k' yA=>?_];cases i with
    |zero=>simp only[X0,Option.some.injEq] at he;subst he;exact#[k,9,hk]
    |succ i=>simp only[List.getElem?_cons_succ] at he ⊢;exact h2 i e he
    rcases dQ.mp he with z|z
    subst z;rw[knd.inj _ _ _ yA hk];simp;exact iB _ (h3 e z k' yA)
 let(ks,h1,h2,h3):=mk ord age;refine#[ks,rL hn (λk hk=>?_) ?_,h1,h2];let(e,he,q):=(hm k).mp (by simpa using hk);exact h3 e (hp.mem_iff.mpr he) k q;rw[h1,hp.length_eq,hl];exact cL _
def strs_map{ks:χ}(hl:ks.length=ord.length)(h:∀(i:Nat) (e:Int×Value),ord[i]?\e->∃k,ks[i]?\k/\(PySem.strKind prog w).is k e.2=true):StrsAre (ord.map (·.2)) ks:=by
 induction ord generalizing ks with
 |nil=>cases ks with
  |nil=>exact .nil
  |cons _ _=>simp at hl
 |cons o ord ih=>cases ks with
  |nil=>simp at hl
  |cons k ks=>
   let(k',e,hk):=h 0 o 9;simp only[X0,Option.some.injEq] at e;subst e;have yA:Value.isStrOf k o.2=true:=hk;obtain⟨t,ht⟩:∃t,o.2=.str k t:=by
    cases q:o.2 with
    |str y t=>rw[q] at yA;simp[Value.isStrOf] at yA;subst yA;exact#[t,9]
    |_=>rw[q] at yA;simp[Value.isStrOf] at yA
   rw[kH,ht];exact .cons k t (ih (by simpa using hl) λi e he=>h (i+1) e he)
def pV{l:χ}(hA:A.handled=none)(hS:s.heap.iq (PySem.strKind prog w) d (λk=>decide (k∈l)) l.length (!w.params.followText "set-order"))(hn:l.Nodup)(Yu:l.length<64)(h:∀(h':Heap) (tk:Nat) d' (a:Addr) (out:Array Value) (zs:χ),(∀b o,s.heap.get? b\o->h'.get? b\o)->8<=a->(∃e,h'.get? a\seqObj "list" out e)->StrsAre out.toList zs->zs.Perm l->sortedS zs=true->Q (.ref a) {s with heap:=h',toks:=tk,drawn:=d'}) :
  wpAny 14 A (call (.builtin "sorted") [.ref d]) Q E s:=by
 let(o,es,ep,t,ho,hex,hd,Iz,n9,hb,hf,hsz,G0,G1):=hS;refine acG kind_sorted plain_sorted entry_sorted (args_sorted1 _) (ζ (η (ζ (gN (by simp[hA]) ho hex.1 hd hf hb G0 G1 λh1 tk d' ord kp xr g9=>?_))));let(ks,hks,S0,hki):=o4 hn Iz n9 (by simpa using hsz) g9;have hS:=strs_map S0 hki;have Wl:(ord.map (·.2)).length<64:=by rw[bS,<- S0,hks.length_eq];exact Yu
 refine ζ (aaR ?_ (by rw[π];lia));have Of:(h1.push (seqObj "list" (ord.map (·.2)).toArray 0)).get? h1.objs.size\seqObj "list" (ord.map (·.2)).toArray 0:=gQ _ 9;refine ζ (Ω (υ slot_list_sort #[_,Of,9] entry_list_sort (list_sort_treeK strKind_oneLt Of hS.keysOf (λv₁ v₂ rest e=>keyKind_strs (by rw[<- e];exact hS)) Wl λbp a1 a2=>#[_,9,?_]) (args_list_sort _)));let(zs,g1,g2,g3):=sorted_out_str hS a1 a2;refine η #[_,9,h _ tk d' h1.objs.size _ zs (λb o eb=>?_) (T' xr) (sortedHeap_at Of) g1 (g2.trans hks) g3];have e1:=kp b o eb;have di:=eS e1;rw[sortedHeap_old (hV di) (by rw[uP];exact Bj di)];exact dF _ e1
end
def Lb(P:Program)(w:World)(a:Addr)(l:χ):HO:=.ext λh=>h.iq (PySem.strKind P w) a (λk=>decide (k∈l)) l.length (!w.params.followText "set-order")
section
def vt(I:Inv X ε σ H s)(d':Drawn):Inv X ε σ H {s with drawn:=d'} :=
 #[I.ok,I.os,I.bare,I.base,I.loc,I.cell,I.free,I.ja,I.pin,I.bZ,I.len]
def rM(hc:X.calm=true):dh X (.type "set") (λxs H Q=>∃(p:Addr)(ys:χ),xs=[.ref p]/\f_ X.K H p (ys.map V.str)/\ys.length<4000 /\
  ∀a,H a=none->Q (.ref a) (upd H a (Lb X.prog X.w a (once ys)))):=by
 intro ε s σ H xs us Q I r h;let(p,ys,rfl,hq,hl,q):=h;let(u,rfl,ru):=vals1 r;cases ru;have fin:∀n,n=ys.length->∀h' tk,h'.iq (PySem.strKind X.prog X.w) 8 (λk'=>decide (k'∈met (λi=>ys.getD i Str.empty) n)) (met (λi=>ys.getD i Str.empty) n).length (!X.w.params.followText "set-order") ->
   (∀b o,b<8->s.heap.get? b\o->h'.get? b\o)->EP X ε σ Q (.ref 8) {s with heap:=h',toks:=tk}:=λn hn h' tk hS hk=>by
  subst hn;refine#[.ref 8,_,I.laid (λb o e=>hk b o (eS e) e) (cL _) ?_,9,q _ I.fresh];refine#[hS,?_,λh1 h2 z k=>?_];let(o,_,_,_,ho,_):=hS;exact#[o,ho];let(o,es,ep,t,ho,rest):=z;exact#[o,es,ep,t,k o ho,rest]
 let(aR,rv,pl,hz):=I.list hq;have e:=rv.length;rw[bS] at e;exact jI (I.ok.hd hc) pl.isList (G3 rv) (by unfold scanBound;simp;lia) λh' tk hS hk _=>fin _ (by simp[e]) h' tk hS hk
def pW(hc:X.calm=true):dh X (.builtin "sorted") (λxs H Q=>∃(a:Addr)(l:χ),xs=[.ref a]/\H a\Lb X.prog X.w a l/\l.Nodup/\l.length<64 /\
  ∀zs:χ,zs.Perm l->sortedS zs=true->∀b,H b=none->Q (.ref b) (upd H b (.lst (zs.map V.str)))):=by
 intro ε s σ H xs us Q I r h;let(d,l,rfl,hd,hn,hl,q):=h;let(u,rfl,ru):=vals1 r;cases ru;let(hS,_):=(show cb X.prog X.w H s.heap d (Lb X.prog X.w d l) from I.bZ d _ hd);refine pV (by simp[I.ok.hd hc]) hS hn hl λh' tk d' a out zs kp ha #[e,he] g1 g2 g3=>#[.ref a,_,vt (I.laid (o:=.lst (zs.map V.str)) kp ha #[?_,out.toList,e,mM g1,?_]) d',9,q zs g2 g3 a (I.bZ.fresh ha)];rw[bS,g2.length_eq,π];lia;rw[he]
end
section
variable{a:Expr}{p1 ur kx:Pos}
def Lc(fa:FE):FP:=λρ Q=>fa ρ λx=>∃ys:χ,x=.lst (ys.map .str)/\ys.length<64/\∀zs:χ,zs.Perm (once ys)->sortedS zs=true->Q (.fr (.lst (zs.map .str)))
theorem Cu(hc:X.calm=true)(hgl:Gl X "sorted")(Bp:X.mg "sorted"=none)(hgs:Gl X "set")(hms:X.mg "set"=none)(ha:VR X Z a fa)(he:starEach [.Call (.Name "set" p2) [a] [] kx] X.env=(false,eval (.Call (.Name "set" p2) [a] [] kx) X.env)::starEach [] X.env:=by rfl)(j2:(backTo ur (starEach [] X.env)).any (·.1)=false:=by rfl)(he2:starEach [a] X.env=(false,eval a X.env)::starEach [] X.env:=by rfl)(Wm:(backTo kx (starEach [] X.env)).any (·.1)=false:=by rfl) :
  VP X Z (.Call (.Name "sorted" p1) [.Call (.Name "set" p2) [a] [] kx] [] ur) (Lc fa):=.mk λtm=>
 PE.weak (jq (pW hc) hgl Bp boot_sorted (bD (nP (rM hc) hgs hms boot_set (bD (ha tm) cV he2) 15 15 he2 Wm) cV he) 15 15 he j2) λσ H Q #[ρ,O,q,I,hf,k] =>
  #[ρ,O,_,I,hf,λx hx v H1 s1 a1=>by
    let(ys,hy,hl,hq):=hx;have src:∃p,v=.ref p/\f_ X.K H1 p (ys.map V.str):=by subst hy;let(p,vs,rfl,h1,h2):=a1.lst;rw[EB h2] at h1;exact#[p,9,h1]
    let(p,rfl,hs):=src;have Pw:(once ys).length<=ys.length:=qj _ _;exact#[p,ys,9,hs,(),λb hb=>#[b,once ys,9,aK,ke _ _,(),λzs h1 h2 c hcn=>k _ (hq zs h1 h2) _ _ (s1.trans ((aI hb).trans (aI hcn))) (((I.same s1).same (aI hb)).wm hcn (zI zs))]]]
end
def o5(ys:qan):qan:=met (λi=>ys.getD i 0) ys.length
section
def G4{ks:qan}(hl:ks.length=ord.length)(h:∀(i:Nat) (e:Int×Value),ord[i]?\e->∃k,ks[i]?\k/\(PySem.intKind prog w).is k e.2=true):IntsAre (ord.map (·.2)) ks:=by
 induction ord generalizing ks with
 |nil=>cases ks with
  |nil=>exact .nil
  |cons _ _=>simp at hl
 |cons o ord ih=>cases ks with
  |nil=>simp at hl
  |cons k ks=>let(k',e,hk):=h 0 o 9;simp only[X0,Option.some.injEq] at e;subst e;let(t,ht):=Value.isInt_shape hk;rw[kH,ht];exact .cons k t (ih (by simpa using hl) λi e he=>h (i+1) e he)
def pX{l:qan}(hA:A.handled=none)(hS:s.heap.iq (PySem.intKind prog w) d (λk=>decide (k∈l)) l.length (!w.params.followText "set-order"))(hn:l.Nodup)(Yu:l.length<64)(h:∀(h':Heap) (tk:Nat) d' (a:Addr) (out:Array Value) (zs:qan),(∀b o,s.heap.get? b\o->h'.get? b\o)->8<=a->(∃e,h'.get? a\seqObj "list" out e)->IntsAre out.toList zs->zs.Perm l->zs.Pairwise (·<=·)->Q (.ref a) {s with heap:=h',toks:=tk,drawn:=d'}) :
  wpAny 14 A (call (.builtin "sorted") [.ref d]) Q E s:=by
 let(o,es,ep,t,ho,hex,hd,Iz,n9,hb,hf,hsz,G0,G1):=hS;refine acG kind_sorted plain_sorted entry_sorted (args_sorted1 _) (ζ (η (ζ (gN (by simp[hA]) ho hex.1 hd hf hb G0 G1 λh1 tk d' ord kp xr g9=>?_))));let(ks,hks,S0,hki):=o4 hn Iz n9 (by simpa using hsz) g9;have hI:=G4 S0 hki;have Wl:(ord.map (·.2)).length<64:=by rw[bS,<- S0,hks.length_eq];exact Yu
 refine ζ (aaR ?_ (by rw[π];lia));have Of:(h1.push (seqObj "list" (ord.map (·.2)).toArray 0)).get? h1.objs.size\seqObj "list" (ord.map (·.2)).toArray 0:=gQ _ 9;refine ζ (Ω (υ slot_list_sort #[_,Of,9] entry_list_sort (list_sort_tree Of hI Wl λout zs g1 g2 g3=>#[_,9,η #[_,9,h _ tk d' h1.objs.size _ zs (λb o eb=>?_) (T' xr) (sortedHeap_at Of) g1 (g2.trans hks) g3]]) (args_list_sort _)));have e1:=kp b o eb;have di:=eS e1;rw[sortedHeap_old (hV di) (by rw[uP];exact Bj di)];exact dF _ e1
end
def Ld(P:Program)(w:World)(a:Addr)(l:qan):HO:=.ext λh=>h.iq (PySem.intKind P w) a (λk=>decide (k∈l)) l.length (!w.params.followText "set-order")
section
def G5{ys:qan}{aR:qag}(r:Vals (ys.map V.int) aR)(i:Nat)(v:Value)(h:aR.toArray[i]?\v):(PySem.intKind X.prog X.w).is (ys.getD i 0) v=true/\v.scannable=true:=by
 have h':aR[i]?\v:=by simpa using h
 have hl:=r.length;rw[bS] at hl;have hi:i<ys.length:=by have:=(c7.mp h').1;lia
 let(u,hu,ru):=r.get (show (ys.map V.int)[i]?\.int ys[i] by rw[fU,eZ hi];rfl);rw[h'] at hu;cases hu;let(t,rfl):=ru;refine#[?_,9];rw[vQ,eZ hi];show Value.isInt ys[i] (.int ys[i] t)=true;simp[Value.isInt]
def rN(hc:X.calm=true):dh X (.type "set") (λxs H Q=>∃(p:Addr)(ys:qan),xs=[.ref p]/\f_ X.K H p (ys.map V.int)/\ys.length<4000 /\
  ∀a,H a=none->Q (.ref a) (upd H a (Ld X.prog X.w a (o5 ys)))):=by
 intro ε s σ H xs us Q I r h;let(p,ys,rfl,hq,hl,q):=h;let(u,rfl,ru):=vals1 r;cases ru;have fin:∀n,n=ys.length->∀h' tk,h'.iq (PySem.intKind X.prog X.w) 8 (λk'=>decide (k'∈met (λi=>ys.getD i 0) n)) (met (λi=>ys.getD i 0) n).length (!X.w.params.followText "set-order") ->
   (∀b o,b<8->s.heap.get? b\o->h'.get? b\o)->EP X ε σ Q (.ref 8) {s with heap:=h',toks:=tk}:=λn hn h' tk hS hk=>by
  subst hn;refine#[.ref 8,_,I.laid (λb o e=>hk b o (eS e) e) (cL _) ?_,9,q _ I.fresh];refine#[hS,?_,λh1 h2 z k=>?_];let(o,_,_,_,ho,_):=hS;exact#[o,ho];let(o,es,ep,t,ho,rest):=z;exact#[o,es,ep,t,k o ho,rest]
 let(aR,rv,pl,hz):=I.list hq;have e:=rv.length;rw[bS] at e;exact jI (I.ok.hd hc) pl.isList (G5 rv) (by unfold scanBound;simp;lia) λh' tk hS hk _=>fin _ (by simp[e]) h' tk hS hk
def oh(hc:X.calm=true):dh X (.builtin "sorted") (λxs H Q=>∃(a:Addr)(l:qan),xs=[.ref a]/\H a\Ld X.prog X.w a l/\l.Nodup/\l.length<64 /\
  ∀zs:qan,zs.Perm l->zs.Pairwise (·<=·)->∀b,H b=none->Q (.ref b) (upd H b (.lst (zs.map V.int)))):=by
 intro ε s σ H xs us Q I r h;let(d,l,rfl,hd,hn,hl,q):=h;let(u,rfl,ru):=vals1 r;cases ru;let(hS,_):=(show cb X.prog X.w H s.heap d (Ld X.prog X.w d l) from I.bZ d _ hd);refine pX (by simp[I.ok.hd hc]) hS hn hl λh' tk d' a out zs kp ha #[e,he] g1 g2 g3=>#[.ref a,_,vt (I.laid (o:=.lst (zs.map V.int)) kp ha #[?_,out.toList,e,mO g1,?_]) d',9,q zs g2 g3 a (I.bZ.fresh ha)];rw[bS,g2.length_eq,π];lia;rw[he]
end
section
variable{a:Expr}{p1 ur kx:Pos}
def G6(fa:FE):FP:=λρ Q=>fa ρ λx=>∃ys:qan,x=.lst (ys.map .int)/\ys.length<64/\∀zs:qan,zs.Perm (o5 ys)->zs.Pairwise (·<=·)->Q (.fr (.lst (zs.map .int)))
theorem zY(hc:X.calm=true)(hgl:Gl X "sorted")(Bp:X.mg "sorted"=none)(hgs:Gl X "set")(hms:X.mg "set"=none)(ha:VR X Z a fa)(he:starEach [.Call (.Name "set" p2) [a] [] kx] X.env=(false,eval (.Call (.Name "set" p2) [a] [] kx) X.env)::starEach [] X.env:=by rfl)(j2:(backTo ur (starEach [] X.env)).any (·.1)=false:=by rfl)(he2:starEach [a] X.env=(false,eval a X.env)::starEach [] X.env:=by rfl)(Wm:(backTo kx (starEach [] X.env)).any (·.1)=false:=by rfl) :
  VP X Z (.Call (.Name "sorted" p1) [.Call (.Name "set" p2) [a] [] kx] [] ur) (G6 fa):=.mk λtm=>
 PE.weak (jq (oh hc) hgl Bp boot_sorted (bD (nP (rN hc) hgs hms boot_set (bD (ha tm) cV he2) 15 15 he2 Wm) cV he) 15 15 he j2) λσ H Q #[ρ,O,q,I,hf,k] =>
  #[ρ,O,_,I,hf,λx hx v H1 s1 a1=>by
    let(ys,hy,hl,hq):=hx;have src:∃p,v=.ref p/\f_ X.K H1 p (ys.map V.int):=by subst hy;let(p,vs,rfl,h1,h2):=a1.lst;rw[vm h2] at h1;exact#[p,9,h1]
    let(p,rfl,hs):=src;have Pw:(o5 ys).length<=ys.length:=qj _ _;exact#[p,ys,9,hs,(),λb hb=>#[b,o5 ys,9,aK,ke _ _,(),λzs h1 h2 c hcn=>k _ (hq zs h1 h2) _ _ (s1.trans ((aI hb).trans (aI hcn))) (((I.same s1).same (aI hb)).wm hcn (zJ zs))]]]
end
def Lf{a b:Int}{zs:qan}(hp:zs.Perm (o5 [a,b]))(hs:zs.Pairwise (·<=·)):zs=if a=b then [a] else if a<b then [a,b] else [b,a]:=by
 have e:o5 [a,b]=if a=b then [a] else [a,b]:=by simp only[o5,met,SW,vR,List.length_nil,List.getD_cons_zero,List.getD_cons_succ,gR,aau,List.nil_append,fE];by_cases h:a=b;rw[ι h,ι h.symm];rw[θ h,θ (λz=>h z.symm)];rfl
 rw[e] at hp;by_cases h:a=b;rw[ι h] at hp ⊢;exact List.perm_singleton.mp hp;rw[θ h] at hp ⊢;have hl:=hp.length_eq
 match zs,hl,hp,hs with
 |[x,y],_,hp,hs=>
  have hxy:x<=y:=by simpa using hs
  have ha:a=x\/a=y:=by simpa using hp.mem_iff.mpr (show a∈[a,b] by simp)
  have hb:b=x\/b=y:=by simpa using hp.mem_iff.mpr (show b∈[a,b] by simp)
  by_cases di:a<b;rw[ι di];have e1:x=a:=by lia
  have e2:y=b:=by lia
  rw[e1,e2];rw[θ di];have e1:x=b:=by lia
  have e2:y=a:=by lia
  rw[e1,e2]
end VT
namespace Lay
open PySem L2 VT Gen K5
def Yv:Rw->Bool
 |.wL _=>false
 |.nZ _=>false
 |.pS=>false
 |.fin=>false
 |.give _=>false
 |_=>true
def rk(r:Rw):(∃a,r=.wL a)\/(∃a,r=.nZ a)\/r=.pS\/r=.fin\/(∃a,r=.give a)\/Yv r=true:=by cases r<;>simp[Yv]
def Wn:χ:=["def","put","do","new","get","set","call","fail","skip"]
def Wo(h:Yv r=true):wd r∈Wn:=by cases r<;>first|exact Bool.noConfusion (show false=true from h)|simp[Wn,wd]
def Wq:∀x∈Wn,x≠"give"/\x≠"if"/\x≠"while"/\x≠"else"/\x≠"end":=by decide +kernel
def Lg(h:Yv r=true):wd r≠"give"/\wd r≠"if"/\wd r≠"while"/\wd r≠"else"/\wd r≠"end":=Wq _ (Wo h)
def Wr(h:Yv r=true):Wd r=false/\Qk r=false:=by cases r<;>first|exact Bool.noConfusion (show false=true from h)|exact#[9,9]
def Ws(hr:rs[j]?\r)(h:Yv r=true):Wc rs j=(j:Int)+1:=by unfold Wc;rw[hr];cases r<;>first|exact Bool.noConfusion (show false=true from h)|rfl
def adQ(x:Str):mB (.str x) [.str "if",.str "while"]=decide (x="if"\/x="while"):=by
 have h:=gL x [("if":Str),"while"];refine Eq.trans (show _=mB (.str x) ([("if":Str),"while"].map T.str) from 9) (h.trans ?_)
 congr 1
 simp
end Lay
namespace VT
open PySem PySem.Spec PyProof.Rows L2
end VT
namespace Nx
open PySem L2 VT Gen K5 Lay
abbrev oj:Stmt:=top 26
abbrev rO:Stmt:=top 27
abbrev iT:Stmt:=top 28
abbrev jL:Stmt:=top 30
structure S6(mg:qae):Prop where
 sorted:mg "sorted"=none
 set:mg "set"=none
def Wu(h:wd r="while"):∃a,r=.nZ a:=by cases r<;>first|exact#[_,9]|exact absurd h (by show ¬ ((_:Str)="while");simp only[wd];decide +kernel)
def bW(h:n<=1000):n<=sizeLine:=Gen.small h
def adR(ts:Λ)(q:qam):Prop:=∃k:Int,ts=[.int k]/\q (.vw (.int (k+1)))
def gNo(C:Addr)(ts:Λ)(q:qam):Prop:=E3 λ(rs:qal) (j:Nat) (r:Rw)=>ts=[c5 C rs,.int (j:Int)]/\Bl rs/\rs[j]?\r/\Qk r=true/\q (.vw (.int (Qi rs j)))
def adS(C:Addr)(ts:Λ)(q:qam):Prop:=E3 λ(rs:qal) (j:Nat) (r:Rw)=>ts=[c5 C rs,.int (j:Int)]/\Bl rs/\rs[j]?\r/\q (.vw (.int (Wc rs j)))
def Cv(C:Addr)(ts:Λ)(q:qam):Prop:=E3 λ(rs:qal) (j:Nat) (r:Rw)=>ts=[c5 C rs,.int (j:Int)]/\Bl rs/\rs[j]?\r/\q (.fr (.lst ((Ql rs j r).map .int)))
section
abbrev G7:χ:=qax
def rP:az G7 qax (ar oj):=L2.eU
def Cw(D:Df K mg "yes_row" oj qax f fd):bP P w K mg base "yes_row" qax 1 (bQ K 1 adR):=by refine D.fm (gf D.F rP 9 λbL A outer s H E Ox hr ts q hG=>?_);have nd:=rP.nd;refine#[_,(aq (aA (Ψ (cF (ae 0) 4)))),λ_=>?_];let(k,rfl,hq):=hG;exact hq
abbrev Lh:χ:=qay
def vv:az Lh qay (ar rO):=L2.eU
def G8(D:Df K mg "no_row" rO qay f fd)(M:uw K au):bP P w K mg base "no_row" qay 1 (bQ K 2 (gNo au)):=by
 refine D.fm (gf D.F vv 9 λbL A outer s H E Ox hr ts q hG=>?_);have nd:=vv.nd;have hu:=bG.dW hr;have aj:=M;refine#[_,(af (bb (bF hu (ν (ay (ν (ay (ν (aQ aj.cl aj.bt (ae 0))) (ae 1))) 4)) (ν aC))
    (aq (aA (Ψ (cF (ν (ay (ν (aQ aj.cl aj.n5 (ae 0))) (ae 1))) 4))))
    aE)
   (af (bb (JW (ν (ay (ν (aQ aj.cl aj.xk (ae 0))) (ae 1))) (ν gT))
     (aq (aA (Ψ (ay (ν (aQ aj.cl aj.n5 (ae 0))) (ae 1)))))
     aE)
   (aq (aA (Ψ (cF (ν (ay (ν (aQ aj.cl aj.xk (ae 0))) (ae 1))) 4)))))),λ_=>?_]
 let(rs,j,r,rfl,B,bV,hh,hq):=hG;have hj:=(c7.mp bV).1;have he:=qh hj;have hl:=V' hj;unfold Qi at hq;rw[bV] at hq;cases r with
 |nZ a=>let(e,b):=B.Ys bV (.inr 9);unfold zR at hq;rw[b.en] at hq he;exact#[9,_,9,_,dc bV,_,aaU,9,_,9,_,he,hq]
 |wL a=>
   let(e,b):=B.Ys bV 5;dsimp only at hq;unfold zR at hq;rw[b.en] at hq he;refine#[9,_,9,_,dc bV,_,aaU,9,_,9,_,hl,?_];cases hv:Qh rs j with
   |none=>rw[hv] at hq;exact#[9,_,9,_,he,hq]
   |some x=>rw[hv] at hq hl;exact#[9,_,9,_,hl,hq]
 |_=>cases hh
abbrev xu:χ:=["layout","place","word","head"]
def kQ:az xu qay (ar iT):=L2.eU
def uA(D:Df K mg "row_behind" iT qay f fd)(M:uw K au):bP P w K mg base "row_behind" qay 1 (bQ K 2 (adS au)):=by
 refine D.fm (gf D.F kQ 9 λbL A outer s H E Ox hr ts q hG=>?_);have nd:=kQ.nd;have hu:=bG.dW hr;have np:∀{i:Nat},aY #[H,[],Ox] i:=gX;have aj:=M;refine#[_,(af (aJ (i:=2) nd 9 5 (Ψ (ay (ν (ay (ν (aQ aj.cl aj.bt (ae 0))) (ae 1))) 4)) np)
  (af (aJ (i:=3) nd 9 5 (Ψ (ay (ν (aQ aj.cl aj.qi (ae 0))) (ae 1))) np)
  (af (bb (bF hu (ae 2) (ν aC))
   (aq (aA (Ψ (ay (ν (aQ aj.cl aj.n5 (ae 0))) (ae 3)))))
   aE)
  (af (bb (VW.vc (c9 (bF hu (ae 2) (ν aC)) (c0 (bF hu (ν (ay (ν (ay (ν (aQ aj.cl aj.bt (ae 0))) (ae 3))) 4)) (ν aC)))))
   (aq (aA (Ψ (VE.vp (ah 3)))))
   aE)
  (aq (aA (Ψ (cF (ae 1) 4)))))))),λ_=>?_]
 let(rs,j,r,rfl,B,bV,hq):=hG;have hj:=(c7.mp bV).1;have hh:=xc hj;unfold Wc at hq;rw[bV] at hq;refine#[9,_,9,_,dc bV,?_];rcases rk r with⟨a,rfl⟩|⟨a,rfl⟩|rfl|rfl|⟨a,rfl⟩|ho
 exact#[_,aaU,9,_,9,_,hh,hq];exact#[_,aaU,9,_,9,_,hh,hq];let(_,o,a,h1,h2,_):=B.pS bV;have ho:=(c7.mp h2).1;let(e,b):=B.Ys h2 5;have he:=qh ho;unfold zR Wb at hq;rw[h1] at hq hh;simp only[N7] at hq;rw[b.en] at hq he;exact#[_,aaU,9,_,9,_,hh,9,_,9,_,he,hq];let(_,o,r2,h1,h2,h3):=B.fin bV;unfold Wb at hq;rw[h1] at hq hh;simp only[N7] at hq;rw[h2] at hq;have hra:=dc h2;let(l2,el2):=j8 r2;rw[el2] at hra;refine#[_,aaU,9,_,9,_,hh,9,_,9,_,hra,_,aaU,cH (λz=>?_) (λz=>?_)];have z':wd r2="while":=z;let(a,rfl):=Wu z';exact hq;have z':¬ wd r2="while":=z;cases r2<;>first|exact hq|exact absurd 9 z'
 exact#[_,aaU,9,_,9,_,hh,hq];let(l,el):=j8 r;let(g1,g2,g3,g4,g5):=Lg ho;have hb:=Ws bV ho;unfold Wc at hb;rw[bV] at hb;rw[hb] at hq;rw[el];refine#[_,aaU,9,_,9,_,hh,cH (λz=>absurd z g4) (λ_=>cH (λz=>absurd z g5) (λ_=>gY 9 hq))]
abbrev zZ:χ:=["layout","place","word"]
def mU:az zZ qay (ar jL):=L2.eU
def xv(D:Df K mg "next_rows" jL qay f fd)(M:S6 mg)(M1:uw K au)(G9:bP P w K mg base "yes_row" qax 1 (bQ K 1 adR))(Li:bP P w K mg base "no_row" qay 1 (bQ K 2 (gNo au)))(xw:bP P w K mg base "row_behind" qay 1 (bQ K 2 (adS au))):bP P w K mg base "next_rows" qay 2 (bQ K 2 (Cv au)):=by
 refine D.fm (gf D.F mU 9 λbL A outer s H E Ox hr ts q hG=>?_);have nd:=mU.nd;have hu:=bG.dW hr;have np:∀{i:Nat},aY #[H,[],Ox] i:=gX;have aj:=M1;refine#[_,(af (aJ (i:=2) nd 9 5 (Ψ (ay (ν (ay (ν (aQ aj.cl aj.bt (ae 0))) (ae 1))) 4)) np)
  (af (bb (VW.vc (qN (JW (ν (ay (ν (aQ aj.cl aj.f9 (ae 0))) (ae 1))) (ν gT)) (nS (bF hu (ae 2) (ν aC)))))
   (aq (aA (Ψ (bJ ak))))
   aE)
  (af (bb (u_ (ae 2) (ν (bB (aa (ω aC) (aa (ω aC) ak)))))
   (aq (aA (Ψ (zY 9 (by rfl) M.sorted (by rfl) M.set (ν (bJ (aa (ω (aw G9 hr (aa (ah 1) ak))) (aa (ω (aw Li hr (aa (ah 0) (aa (ah 1) ak)))) ak))))))))
   aE)
  (aq (aA (Ψ (bJ (aa (ω (aw xw hr (aa (ah 0) (aa (ah 1) ak)))) ak)))))))),λ_=>?_]
 let(rs,j,r,rfl,B,bV,hq):=hG;have hj:=(c7.mp bV).1;have hm:=lF hj;unfold Ql at hq;refine#[9,_,9,_,dc bV,?_];cases e:gF (bh rs) j with
 |none=>rw[e] at hm hq;rw[ι 5] at hq;let(l,el):=gh r;rw[el];exact#[_,aaU,9,_,9,_,hm,fB _,hq]
 |some h=>
  rw[e] at hm hq;have two:Qk r=true->∀zs:qan,zs.Perm (o5 [(j:Int)+1,Qi rs j])->zs.Pairwise (·<=·)->q (.fr (.lst (zs.map .int))):=λhh zs h1 h2=>by
   rw[Lf h1 h2];have hg:¬ (some h=none\/Wd r=true):=by rintro (z|z);cases z;cases r<;>first|exact Bool.noConfusion (show false=true from hh)|exact Bool.noConfusion (show false=true from z)
   rw[θ hg,ι hh] at hq;exact hq
  have hm':=hm;rcases rk r with⟨a,rfl⟩|⟨a,rfl⟩|rfl|rfl|⟨a,rfl⟩|ho
  exact#[_,aaU,9,_,9,_,hm,bW 6,9,9,9,_,9,9,rs,j,_,9,B,bV,9,bW 6,[(j:Int)+1,Qi rs j],9,by simp,two 9];exact#[_,aaU,9,_,9,_,hm,bW 6,9,9,9,_,9,9,rs,j,_,9,B,bV,9,bW 6,[(j:Int)+1,Qi rs j],9,by simp,two 9];exact#[_,aaU,9,_,9,_,hm,bW 6,9,9,9,rs,j,_,9,B,bV,bW 6,hq];exact#[_,aaU,9,_,9,_,hm,bW 6,9,9,9,rs,j,_,9,B,bV,bW 6,hq];exact#[_,aaU,9,_,9,_,hm,fB _,hq];let(l,el):=j8 r;let(g1,g2,g3,g4,g5):=Lg ho;let(o1,o2):=Wr ho;rw[o1,o2,θ 6,θ iC] at hq;rw[el];refine#[_,aaU,9,_,9,_,hm,cH (λz=>absurd z g1) (λ_=>#[bW 6,9,9,?_])];show if mB (.str (wd r)) [.str "if",.str "while"]=true then _ else _
  rw[adQ,ς (λz=>z.elim g2 g3)];exact gY 9 #[9,rs,j,r,9,B,bV,bW 6,hq]
end
end Nx
namespace VT
open PySem PySem.Spec PyProof.Rows L2
section
variable{o:Expr}{fo:FE}
def Qo(fo fe:FE):FP:=λρ Q=>fo ρ λx=>match x with
 |.str z=>fe ρ λy=>match y with
  |.str y=>Q (.vw (.bl (Txt.startswith z y)))
  |_=>False
 |_=>False
def G_(ho:VR X Z o fo)(he:VR X Z e fe)(du:attributeBase o "startswith" X.env (eval o X.env)=eval o X.env:=by rfl)(qH:((backTo bM (starEach [e] X.env)).all (λx=>!x.1) && (backToKw bM (keywordEach [] X.env)).all (λx=>x.1.isSome)
    && decide (([e]:qap).length+([]:List Keyword).length+(if ([]:List Keyword).isEmpty then 0 else 1)<30))=true:=by rfl)(dw:(apos.endLine==bM.line)=true:=by rfl)(hs:starEach [e] X.env=(false,eval e X.env)::starEach [] X.env:=by rfl)(gi:(backTo bM (starEach [] X.env)).any (·.1)=false:=by rfl) :
  VP X Z (.Call (.Attribute o "startswith" apos) [e] [] bM) (Qo fo fe):=.mk λtm=>
 PE.weak (yR PySem.F.plainAttrs_str PySem.F.slot_str_startswith PySem.F.type_str_startswith ud (ho tm) (bD (he tm) cV hs) du qH dw hs gi) λσ H Q #[ρ,O,q,I,hf,k] =>
  #[ρ,O,_,I,hf,λx hx v H1 s1 a1=>by
    split at hx
    rename_i z
    have ev:=a1.str;subst ev;refine#[9,ρ,O,_,I.same s1,hx,λy hy w H2 s2 a2=>?_];split at hy;have ew:=a2.str;subst ew;exact#[z,_,9,9,k _ hy _ H2 (s1.trans s2) #[(I.same s1).same s2,d7]];exact hy.elim;exact hx.elim]
end
section
variable{a o i:Expr}{fo fi:FE}{pos:Pos}
def agf(f:FE):FP:=λρ Q=>f ρ λx=>match x with
 |.int i=>Q (.vw (.int (Builtin.bitNot i)))
 |_=>False
def Wv(ha:VR X Z a fa):VP X Z (.UnaryOp .Invert a pos) (agf fa):=.mk λtm=>PE.weak (Sa UK (ha tm)) λσ H Q #[ρ,O,q,I,hf,k]=>#[ρ,O,_,I,hf,λt ht v H1 s1 a1=>by split at ht;exact#[_,a1.int,k _ ht _ H1 s1 #[I.same s1,bw]];exact ht.elim]
def G':Sh X "int.bit_length" (λx xs H Q=>∃i,x=.int i/\xs=[]/\Q (.int (Builtin.Int.intBits i)) H):=by intro ε s σ H x xs v us Q I rx rs h;let(i,rfl,rfl,q):=h;let(t,rfl):=rx;cases rs;exact call_int_bit_length #[.int _,H,I.tok _,#[_,9],q]
def Qp(f:FE):FP:=λρ Q=>f ρ λx=>match x with
 |.int i=>Q (.vw (.int (Builtin.Int.intBits i)))
 |_=>False
def Ha(ho:VR X Z o fo)(du:attributeBase o "bit_length" X.env (eval o X.env)=eval o X.env:=by rfl)(dw:(apos.endLine==bM.line)=true:=by rfl) :
  VP X Z (.Call (.Attribute o "bit_length" apos) [] [] bM) (Qp fo):=.mk λtm=>
 PE.weak (BW PySem.F.plainAttrs_int PyProof.Rows.slot_int_bit_length PyProof.Rows.type_int_bit_length G' (ho tm) du dw) λσ H Q #[ρ,O,q,I,hf,k] =>
  #[ρ,O,_,I,hf,λx hx v H1 s1 a1=>by
    split at hx
    rename_i z
    have ev:=a1.int;subst ev;exact#[9,z,9,9,k _ hx _ H1 s1 #[I.same s1,bw]];exact hx.elim]
def fX2(fa:FX)(fb:FE)(p:T->T->(qam)->Prop):FX:=λρ Q=>fa ρ λρ' r=>fb ρ' λy=>p r.t y λr'=>Q ρ' r'
def Ww{ga:FX}{op:Operator}{r:R2}{p:T->T->(qam)->Prop}(h:fF X (binaryOp op) r)(hp:nR X.K r p)(ha:VX X Z a ga)(hb:VR X Z b fb):VX X Z (.BinOp a op b pos) (fX2 ga fb p) :=
 .mk λtm=>PE.weak (I8 h (ha tm) (hb tm)) λσ H Q #[ρ,O,q,I,hf,k] =>
  #[ρ,O,_,I,hf,λρ' r hr O' v H' z=>#[ρ',O',_,z.env,hr,λy hy w H2 s2 a2=>
   hp Z tm O' ρ' σ H2 r.t y v w _ Q (z.env.same s2) (.inl (z.at.same s2)) a2 hy λt ht u H3 s3 z3=>k ρ' t ht O' u H3 z3]]
def agg(fa:FE)(gb:FX):FX:=λρ Q=>fa ρ λx=>gb ρ λρ' r=>Z3 x r.t λr'=>Q ρ' r'
def adT{gb:FX}(ha:VE X Z a fa)(hb:VX X Z b gb)(hs:vZ b:=by intro _ _;rfl):VX X Z (.Subscript a b pos) (agg fa gb):=by
 refine .mk λtm=>?_;have Qn:PE X b (λσ H Q=>∃Yl,lX X Z Yl gb σ H Q):=λε s σ H Q I #[Yl,q]=>hb Yl ε s σ H Q I q;refine PE.weak (Si Ji (ha tm) Qn hs) λσ H Q #[ρ,O,q,I,hf,k]=>#[ρ,O,_,I,hf,λx hx v H1 s1 a1=>?_];refine#[[(x,v)]++tm,ρ,O,_,(I.same s1).pQ λp hp=>?_,hx,λρ' r hr O' w H2 z=>?_];rcases fM.mp hp with h|h
 rw[fE.mp h];exact a1;exact (I.same s1).lj p h;have z':=iI.pQ z;have ax:=z.env.lj (x,v) 6;exact JF Z tm O' ρ' σ H2 x r.t v w _ Q z'.env (.inl ax) (.inl z'.at) hr λt ht u H3 s3 z3=>k ρ' t ht O' u H3 z3
def adU(k:Nat)(f:FP):FX:=λρ Q=>match ρ[k]? with
 |some (some (.lst ts,true))=>f ρ λr=>match r with
  |.fr (.lst us)=>ts.length+us.length<=sizeLine/\Q (ρ.set k (some (.lst (ts++us),true))) (.vw .bY)
  |_=>False
 |_=>False
def EC(k:Nat){f:FP}(he:VP X Z e f)(hN:X.N[k]?\x:=by rfl)(hv:nJ X.env.scope x:=by exact jvv 9)(hd:gG x:=by decide)(fW:tQ x:=by decide)(du:attributeBase (.Name x p) "extend" X.env (eval (.Name x p) X.env)=eval (.Name x p) X.env:=by rfl)(qH:((backTo bM (starEach [e] X.env)).all (λx=>!x.1) && (backToKw bM (keywordEach [] X.env)).all (λx=>x.1.isSome)
    && decide (([e]:qap).length+([]:List Keyword).length+(if ([]:List Keyword).isEmpty then 0 else 1)<30))=true:=by rfl)(dw:(apos.endLine==bM.line)=true:=by rfl)(hs:starEach [e] X.env=(false,eval e X.env)::starEach [] X.env:=by rfl)(gi:(backTo bM (starEach [] X.env)).any (·.1)=false:=by rfl) :
  VX X Z (.Call (.Attribute (.Name x p) "extend" apos) [e] [] bM) (adU k f):=.mk λtm=>
 PE.weak (yR aco PySem.F.slot_list_extend PySem.F.type_list_extend F9 (cM hN hv hd fW) (bD (he tm) cV hs) du qH dw hs gi) λσ H Q #[ρ,O,q,I,hf,kk]=>by
  unfold adU at hf;split at hf
  rename_i ts e0
  let(l,h1,h2,xs,h3,h4):=I.root e0;have ha:l∈av Z O:=hY _ (aH.mpr (fL h1));refine#[.ref l,h2,.inl #[9,xs,f_.of h3],ρ,O,_,I,hf,λr hr v H1 s1 z=>?_];split at hr;let(hz,hq):=hr;have J:=z.env;let(b,rfl,I2,(zs,hb,aL),_,_):=z;have aL':=aL.bC gc;refine#[l,b,xs,zs,9,9,s1 _ _ h3,hb,by rw[h4.length,aL.length];exact hz,kk _ _ hq O _ _ #[J.wrote e0 h1 #[xs++zs,aK,?_],qM]];exact ((h4.same s1).append aL').wrote ha (s1 _ _ h3) 9;exact hr.elim;exact hf.elim
theorem Lj:Ze X (UT X.K):=by
 intro ε s σ H x y v u Q I rx ry h;let(p,xs,i,z,rfl,rfl,hq,he,q):=h;cases rx;let(t,rfl):=ry;let(aR,r,pl,hz):=I.list hq;let(j,h1,h2,h3,h4,h5):=p9 he;let(w,ew,rw'):=r.get h2;have hl:=r.length;have hn:=k9;have fin:EP X ε σ Q w s:=#[z,H,I,rw',q];by_cases h0:0<=i;have hj:i.toNat=j:=by rw[seqIndex_of h0 h5] at h1;exact Option.some.inj h1
 exact wpAny_getItem_list pl.isList h0 () (by rw[hj];simpa using ew) fin;have hj:(i+(aR.toArray.size:Int)).toNat=j:=by rw[seqIndex_neg () h4] at h1;rw[iD,<- hl];exact Option.some.inj h1
 exact wpAny_getItem_list_neg pl.isList () (by rw[iD]<;>lia) () (by rw[hj];simpa using ew) fin
def S7(k:Nat)(fi fe:FE)(p:T->T->(qam)->Prop):FS:=λd ρ=>match ρ[k]? with
 |some (some (.lst ts,true))=>fi ρ λi=>match i with
  |.int j=>E2 λn t=>vY ts.length j\n/\ts[n]?\t/\fe ρ λy=>p t y λr=>d.nx (ρ.set k (some (.lst (ts.set n r.t),true)))
  |_=>False
 |_=>False
def Qq(k:Nat){px:Pos}{op:Operator}{r:R2}{p:T->T->(qam)->Prop}(hi:VR X Z i fi)(he:VR X Z e fe)(ho:fF X (inplaceOp op) r)(ht:nR X.K r p)(hN:X.N[k]?\x:=by rfl)(hv:nJ X.env.scope x:=by exact jvv 9)(hd:gG x:=by decide)(fW:tQ x:=by decide)(ha:∀ov iv new,augStore i ov iv new=(do holding [new,ov,iv] (setItem ov iv new);release [new,ov,iv] [];pure .next):=by intros;rfl) :
  VS X Z (.AugAssign (.Subscript (.Name x px) i eC) op e pos) (S7 k fi fe p):=.mk λtm=>
 PS.weak (Ou (cM hN hv hd fW) (hi tm) Lj (he tm) ho set_list ha) λD σ H #[ρ,O,d,I,q,F]=>by
  unfold S7 at q;split at q
  rename_i ts e0
  let(l,h1,h2,xs,h3,h4):=I.root e0;have hl:l∈av Z O:=hY _ (aH.mpr (fL h1));refine#[.ref l,h2,ρ,O,_,I,q,λj hj w H1 s1 a1=>?_];split at hj
  rename_i j
  let(n,t,e1,e2,hj):=hj;let(v,ev,av'):=(h4.same s1).get e2;have ew:=a1.int;subst ew;have ZM:vY xs.length j\n:=by rw[h4.length];exact e1
  refine#[l,xs,j,v,9,9,f_.of (s1 _ _ h3),by unfold h9;rw[ZM];exact ev,ρ,O,_,I.same s1,hj,λy hy w H2 s2 a2=>?_];refine ht Z tm O ρ σ H2 t y v w _ _ ((I.same s1).same s2) (.inl (av'.same s2)) a2 hy λr hr u H3 s3 z3=>?_;have s13:=(s1.trans s2).trans s3;refine#[l,xs,j,n,9,9,s13 _ _ h3,ZM,?_];refine F.nx O _ σ _ (z3.env.wrote (t':=.lst (ts.set n r.t)) e0 h1 #[xs.set n u,aK,?_]) hr;exact aD.wrote hl (s13 _ _ h3) 9 ((h4.same s13).set n z3.at);exact hj.elim;exact q.elim
end
end VT
namespace Nm
open PySem L2 VT Gen y0
def top(i:Nat):Stmt:=PySem.Challenge.pw_slicewise_k44_slices_of_several_sets.main.body.getD i (.Pass #[0,0,0,0])
abbrev kf:Stmt:=top 10
abbrev lK:Stmt:=top 11
structure Mg2(mg:qae):Prop where
 Qr:∃t,mg "LETTERS"\.str cf t
 xx:∃t,mg "LONGEST_NAME"\.int 08 t
 isinstance:mg "isinstance"=none
 str:mg "str"=none
 len:mg "len"=none
 all:mg "all"=none
def bW(h:n<=1000):n<=sizeLine:=small h
def ED:T->Bool
 |.lst _=>false
 |.dk _ _=>false
 |.dt _ _=>false
 |.df _ _ _=>false
 |.kt _=>false
 |.ins _ _ _=>false
 |.pin _ _=>false
 |.ob _=>false
 |.ty _=>false
 |_=>true
def kR:T->Bool
 |.str x=>cW x
 |_=>false
def l9(ts:Λ)(q:qam):Prop:=∃t,ts=[t]/\ED t=true/\(∀x,t=.str x->x.length<=1000)/\q (.vw (.bl (kR t)))
def Ll(r:Rt)(A:Prop)(B:Prop):Prop:=match r with
 |.vw (.bl true)=>A
 |.vw (.bl false)=>B
 |_=>False
def z0{c:Bool}{A:Prop}(h1:c=true->A)(h2:c=false->B):Ll (.vw (.bl c)) A B:=by
 cases c with
 |true=>exact h1 9
 |false=>exact h2 9
def Qs:T->Bool
 |.str x=>lg x
 |_=>false
def kB(t:T):Prop:=(∃x,t=.str x/\x.length<=100)\/∃i,t=.int i
def kB.flat{t:T}(h:kB t):ED t=true:=by obtain⟨x,rfl,_⟩|⟨i,rfl⟩:=h<;>rfl
def kB.short{t:T}(h:kB t):∀x,t=.str x->x.length<=1000:=by
 rintro x rfl;obtain⟨y,e,hy⟩|⟨i,e⟩:=h
 cases e;lia;cases e
def Cm(ts:Λ)(q:qam):Prop:=∃t,ts=[t]/\kB t/\q (.vw (.bl (Qs t)))
def andM(r:Rt)(A:Prop)(B:Prop):Prop:=match r with
 |.vw (.bl true)=>A
 |.vw (.bl false)=>B
 |_=>False
def Qt{c:Bool}{A:Prop}(h1:c=true->A)(h2:c=false->B):andM (.vw (.bl c)) A B:=by
 cases c with
 |true=>exact h1 9
 |false=>exact h2 9
theorem EF:∀l:qao,dU (l.map ((λt:T=>match t with | .str y=>.bl (Ea y cf)|_=>.bY) ∘ λc=>T.str #[([c].toArray)]))\l.map NV
 |[]=>rfl
 |c::l=>by rw[kH,kH];show (dU _).map _=_;rw[EF l];rfl
section
abbrev om:χ:=qaz
def rQ:az om qaz (ar kf):=L2.eU
def uB:(om++(["sign"]:χ)).Nodup:=by decide +kernel
def Qu(D:Df K mg "is_name" kf qaz f fd)(M:Mg2 mg):bP P w K mg base "is_name" qaz 1 (bQ K 1 l9):=by
 refine D.fm (gf D.F rQ 9 λbL A outer s H E Ox hr ts q hG=>?_);have nd:=rQ.nd;have np:∀{i:Nat},aY #[H,[],Ox] i:=gX;let(tL,mL):=M.Qr;let(tN,mN):=M.xx;have rR:∀{pos},VP (h7 iA P w K mg base om "is_name" (ar kf) f bL A outer s H E).vV #[H,[],Ox] (.Name "LONGEST_NAME" pos) (fC (.int 08)):=iJ (by rfl) mN (v:=.int 08) #[tN,9] λ_ _=>bw;refine#[_,(af (bb (VW.vc (qN (wo (fO (D_ zc (by rfl) M.isinstance (by rfl) M.str Sz (ae 0)))) (nS (wo (JY Sb Sb 4 (ν (aS aT aV (by rfl) M.len l0 (aO (ae 0) aX))) (ν rR))))))
    (aq (aA (Ψ mm)))
    aE)
   (aq (aA (Ψ (aS (qL 9) Gn (by rfl) M.all ac7 (aO (ν (eI (ts:=["sign"]) 9 (by rfl) (eG (ah 0)) (λ_ _ _ _ _ _=>(aM (i:=1) uB 9 5 np)) (λ_ _ _ _ _ _=>iL) (λ_ _ _ _ _ _=>(ω (JU (ae 1) (ν (iJ (by rfl) mL (v:=.str cf) #[tL,9] λ_ _=>cO))))))) aX)))))),λ_=>?_]
 let(t,rfl,ht,hx,hq):=hG;cases t with
 |bY=>exact#[9,hq]
 |bl b=>exact#[9,hq]
 |int x=>exact#[9,hq]
 |tup l=>exact#[9,hq]
 |str x=>
   have hl:=hx x 9;have tS:q (.vw (.bl (decide (1<=(x.length:Int)) && (decide ((x.length:Int)<=08) && x.cps.toList.all NV)))):=hq;refine#[9,bW hl,z0 (c:=decide (1<=(x.length:Int))) (λh1=>?_) (λh1=>?_)];rw[h1,yx] at tS;refine Gb (λh2=>?_) (λh2=>?_);have JQ:(!decide ((x.length:Int)<=08))=true:=h2;have h3:decide ((x.length:Int)<=08)=false:=by simpa using JQ
   rw[h3,Ig] at tS;exact tS;have JQ:¬ (!decide ((x.length:Int)<=08))=true:=h2;have h3:decide ((x.length:Int)<=08)=true:=by simpa using JQ
   rw[h3,yx] at tS;refine#[9,by rw[bS,FH];exact bW hl,ie (λ_=>true) (λt=>match t with | .str y=>.bl (Ea y cf)|_=>.bY) (λt ht k r h=>?_) ?_];let(c,_,rfl):=k6.mp ht;exact#[_,9,h];rw[List.filter_eq_self.mpr (λ_ _=>rfl),yE];refine#[x.cps.toList.map NV,EF x.cps.toList,?_];rw[List.all_map];exact tS;rw[h1,Ig] at tS;exact tS
 |_=>cases ht
abbrev Cy:χ:=qaz
def o6:az Cy qaz (ar lK):=L2.eU
def z6(D:Df K mg "is_field" lK qaz f fd)(M:Mg2 mg)(ir:bP P w K mg base "is_name" qaz 1 (bQ K 1 l9)):bP P w K mg base "is_field" qaz 2 (bQ K 1 Cm):=by
 refine D.fm (gf D.F o6 9 λbL A outer s H E Ox hr ts q hG=>?_);have nd:=o6.nd;refine#[_,(aq (aA (Ψ (B0 (D_ zc (by rfl) M.isinstance (by rfl) M.str Sz (ae 0)) (B0 (G_ (ae 0) (ν aC)) (wq (aw ir hr (aa (ω (mx (ae 0) (j4 4) D0)) ak)))))))),λ_=>?_];let(t,rfl,ht,hq):=hG;obtain⟨x,rfl,hx⟩|⟨i,rfl⟩:=ht
 refine#[9,?_];have tS:q (.vw (.bl (Txt.startswith x "." && cW (Txt.slice x (some 1) none)))):=hq;refine Qt (c:=Txt.startswith x ".") (λh=>?_) (λh=>?_);rw[h,yx] at tS;refine#[bW (),9,_,9,9,λy e=>?_,tS];cases e;exact kJ (Txt.slice_le x _ _) ();rw[h,Ig] at tS;exact tS;exact#[9,hq]
end
end Nm
namespace TS
open PySem PyProof.Rows
section
def Lm{vs:qag}{xs:Array Keyed}(hp:xs.Perm (pairsOf vs)):(xs.map (·.2)).toList.Perm vs:=by
 have h:=(acb.mp hp).map (λp:Keyed=>p.2);rw[pairsOf_toList] at h;rw[Array.toList_map];refine h.trans ?_;have:∀l:qag,(l.zip l).map (λp:Keyed=>p.2)=l:=λl=>by
  induction l with
  |nil=>rfl
  |cons x l ih=>rw[T6,kH,ih]
 rw[this]
end
section
inductive Sc:Value->Value->Prop
 |int (i j:Int) (t u:Tok):Sc (.int i t) (.int j u)
 |str (x y:Str) (t u:Tok):Sc (.str x t) (.str y u)
def adV{p q:Value}(h:Sc p q){Q:Bool->Shared->Prop}(hq:∀b,Q b s):wpAny 14 A (eqBool p q) Q E s:=by
 cases h with
 |int i j t u=>exact wpAny_eqBool_int (hq _)
 |str x y t u=>exact wpAny_eqBool_str (hq _)
def adW{p q:Value}(h:Sc p q)(c:Bool){Q:Bool->Shared->Prop}(hq:∀b,Q b s):wpAny 14 A (oneLt' c p q) Q E s:=by
 cases c with
 |true=>
  cases h with
  |int i j t u=>exact oneLt_int (hq _)
  |str x y t u=>exact oneLt_str (hq _)
 |false=>
  rw[oneLt'_eq];simp only[NQ,aau];cases h with
  |int i j t u=>exact ζ (wpAny_richCompare_same (op:=.Lt) (T:="int") (aaH s i t) (aaH s j u) slot_int_lt (call_int_lt #[by simp,v9 (hq _)]))
  |str x y t u=>exact ζ (wpAny_richCompare_same (op:=.Lt) (T:="str") (typeIs_str s x t) (typeIs_str s y u) slot_str_lt (call_str_lt #[by simp,v9 (hq _)]))
def xy(b:Bool)(x y:Value):keyLt' (tuples' b) x y=(do
 let xs <- Builtin.List.listItems x
 let ys <- Builtin.List.listItems y
 for ((p,q),i) in (xs.toList.zip ys.toList).zipIdx do
  if !(<- eqBool p q) then return <- oneLt' (b && i==0) p q
 return decide (xs.size<ys.size)):=rfl
theorem z7(c:Bool):∀(l:List ((Value×Value)×Nat)),(∀e∈l,Sc e.1.1 e.1.2)->∀Q:Option Bool×Unit->Shared->Prop,(∀r,Q r s) ->
  wpAny 14 A (forIn l ((none,Unit.unit):Option Bool×Unit) λ(x:(Value×Value)×Nat) (_:Option Bool×Unit)=>(match x with
   | ((p,q),i)=>do
     let t <- eqBool p q
     if (!t)=true then do
      let t <- oneLt' (c && i==0) p q
      pure (ForInStep.done (some t,Unit.unit))
     else pure (ForInStep.yield (none,Unit.unit)):Sem (ForInStep (Option Bool×Unit)))) Q E s
 |[],_,Q,hq=>by rw[List.forIn_nil];exact η (hq _)
 |e::l,h,Q,hq=>by
   let((p,q),i):=e;have ih:=z7 c l (λe he=>h e (iB _ he)) Q hq;have hs:Sc p q:=h ((p,q),i) 6;rw[List.forIn_cons];refine ζ ?_;show wpAny _ _ (eqBool p q >>= _) _ _ _;refine ζ (adV hs λb=>?_);cases b with
   |true=>exact η ih
   |false=>refine ζ (adW hs _ λb=>?_);exact η (η (hq _))
def TupAt(h:Heap)(v:Value)(aR:Array Value):Prop:=E3 λa o n=>v=.ref a/\h.get? a\o/\o.cls=.type "tuple"/\o.data=.seq aR n
theorem Qv{x y:Value}{xs ys:Array Value}(hx:TupAt s.heap x xs)(hy:TupAt s.heap y ys)(hs:∀e∈xs.toList.zip ys.toList,Sc e.1 e.2)(c:Bool){Q:Bool->Shared->Prop}(hq:∀b,Q b s) :
  wpAny 14 A (keyLt' (tuples' c) x y) Q E s:=by
 let(a,o,n,rfl,h1,h2,h3):=hx;let(a',o',n',rfl,JP,JQ,h3'):=hy;rw[xy];refine ζ (listItems_at h1 h3 (ζ (listItems_at JP h3' ?_)));refine ζ (z7 c _ (λe he=>?_) _ λr=>?_)
 rotate_left
 let(r1,r2):=r;cases r1 with
 |some b=>exact η (hq b)
 |none=>exact η (hq _)
 let((p,q),i):=e;have:=List.mem_zipIdx he;let(_,_,e2):=this;refine hs (p,q) ?_;simp only[Nat.sub_zero] at e2;rw[e2];exact FK _
theorem xA{α β:Type}{f:α->Sem β}{g:α->β}:∀(l:List α)(Q:List β->Shared->Prop),(∀v∈l,∀R:β->Shared->Prop,R (g v) s->wpAny 14 A (f v) R E s)->Q (l.map g) s->wpAny 14 A (l.mapM f) Q E s
 |[],Q,_,hq=>by rw[List.mapM_nil];exact η hq
 |v::l,Q,h,hq=>by rw[List.mapM_cons];exact ζ (h v 6 _ (ζ (xA l _ (λv hv=>h v (iB _ hv)) (η hq))))
def adX(v:Value):firstOfTuple' v=(do
 if (<- typeOf v) != .type "tuple" then return none
 return (<- Builtin.List.listItems v)[0]?):=rfl
theorem Ln{vs:qag}(fY:vs≠[])(ht:∀v∈vs,∃aR i t,TupAt s.heap v aR/\aR[0]?\.int i t){Q:SortKind->Shared->Prop}(hq:Q (tuples' true) s) :
  wpAny 14 A (keyKind' vs.toArray) Q E s:=by
 have pick:∃g:Value->Option Value,∀v∈vs,∃i t,g v\.int i t/\∀R:(Option Value)->Shared->Prop,R (g v) s->wpAny 14 A (firstOfTuple' v) R E s:=by
  refine#[λv=>open Classical in if h:∃x:Value,(∃i t,x=.int i t)/\∀R:(Option Value)->Shared->Prop,R (some x) s->wpAny (model prog w) A (firstOfTuple' v) R E s then some h.choose else none,λv hv=>?_];let(aR,i,t,(a,o,n,rfl,h1,h2,h3),h4):=ht v hv;have hex:∃x:Value,(∃i t,x=.int i t)/\∀R:(Option Value)->Shared->Prop,R (some x) s->wpAny 14 A (firstOfTuple' (.ref a)) R E s:=by refine#[.int i t,#[i,t,9],λR hR=>ζ (wpAny_typeOf #[o,h1,h2] (ζ (listItems_at h1 h3 (η ?_))))];rw[h4];exact hR
  dsimp only;rw[dif_pos hex];let((i',t',e),hR):=hex.choose_spec;exact#[i',t',by rw[e],hR]
 let(g,hg):=pick;rw[keyKind'_eq,List.mapM_toArray];refine ζ (ζ (xA vs _ (λv hv R hR=>(hg v hv).choose_spec.choose_spec.2 R hR) (η ?_)));have pO:((vs.map g).toArray.all λx=>x.isSome)=true:=by rw[List.all_toArray,List.all_map,R3];intro v hv;let(i,t,e,_):=hg v hv;show (g v).isSome=true;rw[e];rfl
 rw[ι pO];refine ζ (aab ?_);have hfm:(Array.filterMap id (vs.map g).toArray)=(vs.filterMap g).toArray:=by simp[List.filterMap_map]
 rw[hfm,oneTypeOnly'_eq,List.mapM_toArray];have hi:∀x∈vs.filterMap g,∃i t,x=Value.int i t:=λx hx=>by let(v,hv,e):=acJ.mp hx;let(i,t,e',_):=hg v hv;rw[e] at e';exact#[i,t,Option.some.inj e']
 have hn:vs.filterMap g≠[]:=by
  obtain⟨v,rest,rfl⟩:∃v rest,vs=v::rest:=by
   cases vs with
   |nil=>exact absurd 9 fY
   |cons v rest=>exact#[v,rest,9]
  let(i,t,e,_):=hg v 6;rw[List.filterMap_cons_some e];simp
 generalize vs.filterMap g=fs at hi hn;refine ζ (ζ (ζ (xA (g:=λ_=>Value.type "int") fs _ (λx hx R hR=>?_) (η ?_))));let(i,t,rfl):=hi x hx;exact wpAny_typeOf (aaH s i t) hR;cases fs with
 |nil=>exact absurd 9 hn
 |cons x fs=>
   have hal:(((x::fs).map λ_=>Value.type "int").toArray.all λy=>y==Value.type "int")=true:=by rw[List.all_toArray,List.all_map,R3];intro y _;rfl
   show wpAny _ _ (pure (if (((x::fs).map λ_=>Value.type "int").toArray.all λy=>y==Value.type "int")=true then some (Value.type "int") else none)) _ _ _;rw[ι hal];exact η (η hq)
end
end TS
namespace TS
open PySem PySem.Spec PyProof.Rows L2 VT
section
def Hb:∀{us Kv:qag},Kv.Perm us->∀{xs:qak},Vals xs us->∃zs:qak,zs.Perm xs/\Vals zs Kv:=by
 intro us Kv p;induction p with
 |nil=>intro xs r;cases r;exact#[[],.nil,.nil]
 |cons u _ ih=>
  intro xs r;cases r with
  |cons r t=>let(zs,p,q):=ih t;exact#[_,p.cons _,.cons r q]
 |swap u v l=>
  intro xs r;cases r with
  |cons r1 t=>cases t with
   |cons r2 t=>exact#[_,.swap _ _ _,.cons r2 (.cons r1 t)]
 |trans _ _ ih1 ih2=>intro xs r;let(zs,p,q):=ih2 r;let(zs',p',q'):=ih1 q;exact#[zs',p'.trans p,q']
end
section
variable{A:qah}
def xB{t:T}{ts:Λ}(h:aD K H A (t::ts) (v::vs)):At K H A t v/\aD K H A ts vs:=by let(v',r,e,h1,h2):=h;cases e;exact#[h1,h2]
def Lo:∀{ws zs:qak},zs.Perm ws->∀{ts:Λ},aD K H A ts ws->∃us:Λ,us.Perm ts/\aD K H A us zs:=by
 intro ws zs p;induction p with
 |nil=>intro ts h;exact#[ts,.rfl,h]
 |cons v _ ih=>
  intro ts h;cases ts with
  |nil=>have:=h.length;simp at this
  |cons t ts=>let(h1,h2):=xB h;let(us,p,q):=ih h2;exact#[t::us,p.cons t,aD.cons h1 q]
 |swap v w l=>
  intro ts h;cases ts with
  |nil=>have:=h.length;simp at this
  |cons t ts=>cases ts with
   |nil=>have:=h.length;simp at this
   |cons t' ts=>let(h1,h2):=xB h;let(h2,h3):=xB h2;exact#[t'::t::ts,.swap _ _ _,aD.cons h2 (aD.cons h1 h3)]
 |trans _ _ ih1 ih2=>intro ts h;let(us,p,q):=ih2 h;let(Kv,p',q'):=ih1 q;exact#[Kv,p'.trans p,q']
theorem z8:∀{ts:Λ}{ws:qak},aD K H A ts ws->∀w∈ws,∃t∈ts,At K H A t w
 |[],ws,h,w,hw=>by have:=h.length;cases ws with
  |nil=>cases hw
  |cons a b=>simp at this
 |t::ts,ws,h,w,hw=>by
  cases ws with
  |nil=>cases hw
  |cons v ws=>
   let(h1,h2):=xB h;rcases dQ.mp hw with rfl|z
   exact#[t,by simp,h1];let(u,hu,a):=z8 h2 w z;exact#[u,iB _ hu,a]
end
end TS
namespace SP
open PySem PyProof.Rows PyProof
abbrev Kd:=Value×Value
structure Cp(prog:Program)(w:World)(A:Around)(E:qad)(s:Shared)(κ:SortKind)(G:Kd->Prop):Prop where
 lt:∀{p q:Kd}{st:SortSt}{Q:Option Bool->SortSt->Prop},G p->G q->kindOf st=κ->(∀b,Q (some b) st)->wpS 14 A E s (lt' p q) Q st
def Qw:Bool->Kd->Array Kd->Nat->Nat->Nat->StateT SortSt Sem (Option Nat):=sortPriv% PySem.Builtin.gallop
variable{κ:SortKind}{G:Kd->Prop}
def bE{arr:Array Kd}{p:Kd}{st:SortSt}{Q:Kd->SortSt->Prop}(h:arr[i]?\p)(hq:Q p st):wpS 14 A E s (elem' arr i) Q st:=by rw[elem'_eq,h];exact ξ hq
def aF{c:Prop}[Decidable c]{x y:StateT SortSt Sem α}{Q:α->SortSt->Prop}{st:SortSt}(h1:c->wpS 14 A E s x Q st)(h2:¬ c->wpS 14 A E s y Q st):wpS 14 A E s (if c then x else y) Q st:=by by_cases h:c;rw[ι h];exact h1 h;rw[θ h];exact h2 h
theorem EG{lo hi:Nat}{st:SortSt}{f:Nat->StateT SortSt Sem (Option Bool)}{Q:Option (Option Nat)×Nat×Nat->SortSt->Prop}(hf:∀i<n,∀Q':Option Bool->SortSt->Prop,(∀b,Q' (some b) st)->wpS 14 A E s (f i) Q' st)(hlh:lo<=hi)(hn:hi<=n)(hq:∀k≤n,Q (none,k,k) st) :
  wpS 14 A E s (forIn [:n] (none,lo,hi) λ_ c=>if c.2.1 ≥ c.2.2 then pure (.done (none,c.2.1,c.2.2)) else do
   match <- f (c.2.1+(c.2.2-c.2.1) / 2) with
   |some more=>if more=true then pure (.yield (none,c.2.1+(c.2.2-c.2.1) / 2+1,c.2.2)) else pure (.yield (none,c.2.1,c.2.1+(c.2.2-c.2.1) / 2))
   |_=>pure (.done (some none,c.2.1,c.2.2))) Q st:=by
 refine aae (I:=λx c bp=>bp=st/\∃lo hi,c=(none,lo,hi)/\lo<=hi/\hi<=n/\hi-lo<=n-x) ?_ ?_ #[9,lo,hi,9,hlh,hn,()];rintro x c bp _ hx ⟨rfl,lo,hi,rfl,hlh,hn,hm⟩;dsimp only;refine aF (λz=>?_) λz=>μ (hf _ () _ λb=>aF (λ_=>?_) λ_=>?_);have e:lo=hi:=by lia
 subst e;exact ξ (hq lo hn);exact ξ #[9,_,_,9,(),hn,()];exact ξ #[9,_,_,9,(),(),()];rintro c bp ⟨rfl,lo,hi,rfl,hlh,hn,hm⟩;have e:lo=hi:=by lia
 subst e;exact hq lo hn
theorem fu(C:Cp prog w A E s κ G){left:Bool}{key:Kd}{arr:Array Kd}{base hint:Nat}{st:SortSt}{Q:Option Nat->SortSt->Prop}(hk:kindOf st=κ)(yN:G key)(hh:hint<n)(hB:∀i<n,∃p,arr[base+i]?\p/\G p)(hq:∀k≤n,Q (some k) st):wpS 14 A E s (Qw left key arr base n hint) Q st:=by
 have bey:∀i<n,∀Q':Option Bool->SortSt->Prop,(∀b,Q' (some b) st)->wpS 14 A E s (do let x <- elem' arr (base+i);if left then lt' x key else return (<- lt' key x).map (!·)) Q' st:=λi hi Q' h=>by
  let(p,e,g):=hB i hi;refine μ (bE e ?_);cases left with
  |true=>exact C.lt g yN hk h
  |false=>exact μ (C.lt yN g hk λb=>ξ (h _))
 refine μ (bey hint hh _ λb=>aF (λ_=>?_) λ_=>?_);refine μ (aaA (aae (I:=λx c bp=>bp=st/\∃la o,c=(none,la,o)/\la<o/\x<o/\hint+la<n)
  (Q:=λc bp=>bp=st/\∃la o,c=(none,la,o)/\la<o/\hint+la<n) ?_ ?_ #[9,0,1,9,(),(),()]) ?_)
 rintro x c bp _ hx ⟨rfl,la,o,rfl,h1,h2,h3⟩;dsimp only;refine aF (λz=>ξ #[9,la,o,9,h1,h3]) λz=>μ (bey _ (by simp at z;lia) _ λb=>?_);cases b with
 |false=>exact ξ #[9,la,o,9,h1,h3]
 |true=>exact ξ #[9,o,2 * o+1,9,(),(),by simp at z;lia]
 rintro c bp ⟨rfl,la,o,rfl,h1,h2,h3⟩;exact#[9,la,o,9,h1,h3];rintro c bp ⟨rfl,la,o,rfl,h1,h3⟩;dsimp only;exact μ (EG bey () () λk hk=>ξ (hq k hk));refine μ (aaA (aae (I:=λx c bp=>bp=st/\∃la o,c=(none,la,o)/\la<o/\x<o/\la<=hint)
  (Q:=λc bp=>bp=st/\∃la o,c=(none,la,o)/\la<o/\la<=hint) ?_ ?_ #[9,0,1,9,(),(),()]) ?_)
 rintro x c bp _ hx ⟨rfl,la,o,rfl,h1,h2,h3⟩;dsimp only;refine aF (λz=>ξ #[9,la,o,9,h1,h3]) λz=>μ (bey _ () _ λb=>?_);cases b with
 |true=>exact ξ #[9,la,o,9,h1,h3]
 |false=>exact ξ #[9,o,2 * o+1,9,(),(),by simp at z;lia]
 rintro c bp ⟨rfl,la,o,rfl,h1,h2,h3⟩;exact#[9,la,o,9,h1,h3];rintro c bp ⟨rfl,la,o,rfl,h1,h3⟩;dsimp only;exact μ (EG bey () () λk hk=>ξ (hq k hk))
def Qx(a:Array Kd)(i:Nat):Kd:=a[i]?.getD (.none,.none)
def at_{a:Array Kd}(h:i<a.size):a[i]?\Qx a i:=by unfold Qx;rw[getElem?_pos a i h];rfl
def eY{a:Array Kd}(h:i<a.size):Qx a i∈a.toList:=by have:=at_ h;rw[<- DF] at this;exact fL this
theorem dE{a:Array Kd}{k:Nat}(h:i<=k):a.toList.drop i=(a.extract i k).toList++a.toList.drop k:=by
 rw[YR,List.extract_eq_drop_take]
 conv=>lhs;rw[<- X3 (k-i) (a.toList.drop i),List.drop_drop]
 congr 2;lia
theorem tE{a:Array Kd}{k:Nat}(h:k<=n):a.toList.take n=a.toList.take k++(a.extract k n).toList:=by
 rw[YR,List.extract_eq_drop_take]
 conv=>lhs;rw[show n=k+(n-k) by lia,List.take_add]
def eE{a:Array Kd}:(a.extract i).toList=a.toList.drop i:=by rw[YR,List.extract_eq_drop_take,X1 6]
def eT{a:Array Kd}:(a.extract 0 n).toList=a.toList.take n:=by simp[List.extract_eq_drop_take]
def Lp:Array Kd->Array Kd->StateT SortSt Sem (Array Kd):=sortPriv% PySem.Builtin.mergeLo
def Lq:Array Kd->Array Kd->StateT SortSt Sem (Array Kd):=sortPriv% PySem.Builtin.mergeHi
structure Sm(st bp:SortSt):Prop where
 k:kindOf bp=kindOf st
 a:arrOf bp=arrOf st
 p:pendingOf bp=pendingOf st
 f:failedOf bp=failedOf st
variable{κ:SortKind}{G:Kd->Prop}
section
variable{a b out:Array Kd}{ia ib k:Nat}
def ML(a b out:Array Kd)(ia ib:Nat):Prop:=(out.toList++(a.toList.drop ia++b.toList.drop ib)).Perm (a.toList++b.toList)
def MH(a b out:Array Kd)(na nb:Nat):Prop:=(out.toList++(a.toList.take na++b.toList.take nb)).Perm (a.toList++b.toList)
def OK(a b r:Array Kd):Prop:=r.toList.Perm (a.toList++b.toList)
def ML.pa(M:ML a b out ia ib)(h:ia<=k):ML a b (out++a.extract ia k) k ib:=by unfold ML at *;rw[dE h] at M;simpa using M
def ML.pb(M:ML a b out ia ib)(h:ib<=k):ML a b (out++b.extract ib k) ia k:=by unfold ML at *;rw[dE h,<- yD (a.toList.drop ia)] at M;rw[FJ,yD,<- yD (b.extract ib k).toList];exact ((T5.append_right _).append_left _).trans M
def MH.pa(M:MH a b out ia ib)(h:k<=ia):MH a b (out++(a.extract k ia).reverse) k ib:=by unfold MH at *;rw[tE h] at M;rw[FJ,yD,<- yD (a.extract k ia).reverse.toList,acB];exact (((List.Perm.append_right _ (acR _)).trans T5).append_right _ |>.append_left _).trans M
def MH.pb(M:MH a b out ia ib)(h:k<=ib):MH a b (out++(b.extract k ib).reverse) ia k:=by unfold MH at *;rw[tE h,<- yD (a.toList.take ia)] at M;rw[FJ,yD,acB];exact (((acR _).append_right _).trans T5 |>.append_left _).trans M
theorem oq(h:ia<a.size):out.push (Qx a ia)=out++a.extract ia (ia+1):=by
 apply Array.toList_inj.mp;have e:(a.extract ia (ia+1)).toList=[Qx a ia]:=by rw[YR,List.extract_eq_drop_take,show ia+1-ia=1 by lia];unfold Qx;rw[getElem?_pos a ia h,YH (by simpa using h)];simp
 rw[FJ,e,acQ]
theorem mV(h:ia-1<a.size)(h0:0<ia):out.push (Qx a (ia-1))=out++(a.extract (ia-1) ia).reverse:=by have:=oq (out:=([].toArray)) h;rw[show ia-1+1=ia by lia,Array.empty_append] at this;rw[<- this];rfl
def ML.fin(M:ML a b out ia ib):OK a b (out++a.extract ia++b.extract ib):=by unfold OK;rw[FJ,FJ,eE,eE,yD];exact M
def ML.last(M:ML a b out ia ib):OK a b (out++b.extract ib++a.extract ia):=by unfold OK;rw[FJ,FJ,eE,eE,yD];exact (T5.append_left _).trans M
def MH.fin(M:MH a b out ia ib):OK a b (a.extract 0 ia++b.extract 0 ib++out.reverse):=by unfold OK;rw[FJ,FJ,eT,eT,acB];exact (T5.trans ((acR _).append_right _)).trans M
def MH.last(M:MH a b out ia ib):OK a b (b.extract 0 ib++a.extract 0 ia++out.reverse):=by unfold OK;rw[FJ,FJ,eT,eT,acB];exact ((T5.append_right _).trans (T5.trans ((acR _).append_right _))).trans M
end
structure In(G:Kd->Prop)(a b:Array Kd):Prop where
 ga:∀x∈a.toList,G x
 gb:∀x∈b.toList,G x
 a0:0<a.size
 b0:0<b.size
def Sm.of{st bp:SortSt}(h:Sm st bp){g:Nat}:Sm st (SortSt.mk' (kindOf bp) (arrOf bp) (pendingOf bp) g (failedOf bp)):=#[h.k,h.a,h.p,h.f]
def EH{γ:Type}(jp:β->γ->StateT SortSt Sem α){x:StateT SortSt Sem α}{Q:α->SortSt->Prop}{st:SortSt}(h1:∀r m,wpS 14 A E s (jp r m) Q st)(h2:(∀r m,wpS 14 A E s (jp r m) Q st)->wpS 14 A E s x Q st):wpS 14 A E s x Q st:=h2 h1
def mW{γ δ:Type}(jp:β->γ->δ->StateT SortSt Sem α)(P:γ->δ->Prop){x:StateT SortSt Sem α}{Q:α->SortSt->Prop}{st:SortSt}(h1:∀r o i,P o i->wpS 14 A E s (jp r o i) Q st)(h2:(∀r o i,P o i->wpS 14 A E s (jp r o i) Q st)->wpS 14 A E s x Q st):wpS 14 A E s x Q st:=h2 h1
def Lr{Y0 Y1 Y2 Y3 τ:Type}(st:SortSt)(D:Y0->Prop)(P P':Y1->Y2->Y3->Prop)(u6:ForInStep (Option Y0×Y1×Y2×Y3×τ))(bp:SortSt):Prop:=Sm st bp/\match u6 with
 |.done (some u6,_)=>D u6
 |.done (none,u1,u2,w,_)=>P' u1 u2 w
 |.yield (none,u1,u2,w,_)=>P u1 u2 w
 |.yield (some _,_)=>False
section
variable{Y0 Y1 Y2 Y3 τ:Type}{st bp:SortSt}{D:Y0->Prop}{P P':Y1->Y2->Y3->Prop}{u1:Y1}{u2:Y2}{u3:Y3}{u5:τ}
def Lr.dn(hs:Sm st bp){u6:Y0}(h:D u6):Lr (τ:=τ) st D P P' (.done (some u6,u1,u2,u3,u5)) bp:=#[hs,h]
def Lr.ot(hs:Sm st bp)(h:P' u1 u2 u3):Lr (τ:=τ) st D P P' (.done (none,u1,u2,u3,u5)) bp:=#[hs,h]
def Lr.go(hs:Sm st bp)(h:P u1 u2 u3):Lr (τ:=τ) st D P P' (.yield (none,u1,u2,u3,u5)) bp:=#[hs,h]
end
def kh{Y0 Y1 Y2 Y3 τ:Type}{f:Nat->Option Y0×Y1×Y2×Y3×τ->StateT SortSt Sem (ForInStep (Option Y0×Y1×Y2×Y3×τ))}{Q:Option Y0×Y1×Y2×Y3×τ->SortSt->Prop}{st0 st:SortSt}{u1:Y1}{u2:Y2}{u3:Y3}{u4:τ}(D:Y0->Prop)(P:Nat->Y1->Y2->Y3->Prop)(P':Y1->Y2->Y3->Prop)(hs:Sm st st0)(h0:P 0 u1 u2 u3)(step:∀u5 u1 u2 u3 (u4:τ) bp,u5<n->Sm st bp->P u5 u1 u2 u3->wpS 14 A E s (f u5 (none,u1,u2,u3,u4)) (Lr st D (P (u5+1)) P') bp)(fin:∀u1 u2 u3,P n u1 u2 u3->False)(q1:∀u6 d bp,Sm st bp->D u6->Q (some u6,d) bp)(q2:∀u1 u2 u3 u4 bp,Sm st bp->P' u1 u2 u3->Q (none,u1,u2,u3,u4) bp):wpS 14 A E s (forIn [:n] (none,u1,u2,u3,u4) f) Q st0:=by
 refine aaA (aae (I:=λu5 c bp=>Sm st bp/\∃u1 u2 u3 u4,c=(none,u1,u2,u3,u4)/\P u5 u1 u2 u3) (Q:=λc bp=>Sm st bp/\((∃u6 d,c=(some u6,d)/\D u6)\/∃u1 u2 u3 u4,c=(none,u1,u2,u3,u4)/\P' u1 u2 u3)) ?_ ?_ #[hs,_,_,_,_,9,h0]) ?_
 . rintro u5 c pY _ hx ⟨hs,u1,u2,u3,u4,rfl,h⟩;refine aaA (step u5 u1 u2 u3 u4 pY hx hs h) λu6 vX h=>?_;let(h1,h2):=h
   match u6,h2 with
   |.done (some u6,_),h2=>exact#[h1,.inl #[_,_,9,h2]]
   |.done (none,_,_,_,_),h2=>exact#[h1,.inr #[_,_,_,_,9,h2]]
   |.yield (none,_,_,_,_),h2=>exact#[h1,_,_,_,_,9,h2]
 rintro c pY ⟨hs,u1,u2,u3,u4,rfl,h⟩;exact (fin u1 u2 u3 (by simpa using h)).elim;rintro c pY ⟨hs,⟨u6,d,rfl,h⟩|⟨u1,u2,u3,u4,rfl,h⟩⟩;exact q1 u6 d pY hs h;exact q2 u1 u2 u3 u4 pY hs h
structure JL(a b:Array Kd)(c:Nat)(o:Array Kd)(i j:Nat):Prop where
 M:ML a b o i j
 h1:i+1<a.size
 h2:j<b.size
 h3:c<=i+j
theorem Wx(C:Cp prog w A E s κ G){a b:Array Kd}{st:SortSt}{Q:Array Kd->SortSt->Prop}(hk:kindOf st=κ)(I:In G a b)(hq:∀out bp,OK a b out->Sm st bp->Q out bp):wpS 14 A E s (Lp a b) Q st:=by
 have a0:=I.a0;have b0:=I.b0;have s0:Sm st st:=#[9,9,9,9];have M0:ML a b ([Qx b 0].toArray) 0 1:=by
  have M:ML a b ([].toArray) 0 0:=by unfold ML;simp
  have:=M.pb (k:=0+1) ();rw[<- oq b0] at this;exact this
 refine μ (wpS_lift (aab #[9,?_]));refine μ (bE (at_ b0) (aF (λc1=>?_) λc1=>aF (λc2=>?_) λc2=>μ (wpS_get ?_)));exact ξ (hq _ _ (M0.fin) s0);exact ξ (hq _ _ (M0.last) s0);have c1:1<b.size:=by simp at c1;lia
 have c2:0+1<a.size:=by simp at c2;lia
 refine μ (kh (OK a b) (λx=>JL a b x) (λ_ _ _=>False) s0 #[M0,c2,c1,fB _] ?_ (λo i j J=>?_) (λr d bp hs hr=>ξ (hq r bp hr hs)) λ_ _ _ _ _ _ h=>h.elim)
 rotate_left
 have h1:=J.h1;have h2:=J.h2;have h3:=J.h3
 lia
 clear c1 c2 M0 s0 a0 b0;intro x out ia ib mg pY hx hs J;refine μ (kh (OK a b) (λy=>JL a b (x+y)) (JL a b (x+1)) hs J ?_ (λo i j J=>?_) (λr d bp hs hr=>ξ (Lr.dn hs hr)) ?_)
 . clear J hs;intro y out ia ib t pY hy hs J;have M:=J.M;have h1:=J.h1;have h2:=J.h2;have h3:=J.h3;dsimp only;refine μ (bE (at_ h2) (μ (bE (at_ ()) (μ (C.lt (I.gb _ (eY h2)) (I.ga _ (eY ())) (hs.k.trans hk) λ_=>?_)))));refine aF (λhw=>μ (bE (at_ h2) ?_)) λhw=>μ (bE (at_ ()) ?_)
   . have M1:=M.pb (k:=ib+1) ();rw[<- oq h2] at M1;refine aF (λz=>?_) λz=>aF (λ_=>?_) λ_=>?_;exact ξ (.dn hs (M1.fin))
     all_goals have z:ib+1<b.size:=by simp at z;lia
     exact ξ (.ot hs #[M1,h1,z,()]);exact ξ (.go hs #[M1,h1,z,()])
   . have M1:=M.pa (k:=ia+1) ();rw[<- oq (show ia<a.size by lia)] at M1;refine aF (λz=>?_) λz=>aF (λ_=>?_) λ_=>?_;exact ξ (.dn hs (M1.last))
     all_goals have z:ia+1+1<a.size:=by simp at z;lia
     exact ξ (.ot hs #[M1,z,h2,()]);exact ξ (.go hs #[M1,z,h2,()])
 have h1:=J.h1;have h2:=J.h2;have h3:=J.h3
 lia
 clear J hs;intro out ia ib t pY hs J;refine μ (wpS_lift (aab #[9,?_]));refine μ (kh (OK a b) (λy=>JL a b (x+1+y)) (JL a b (x+1)) hs J ?_ (λo i j J=>?_) (λr d bp hs hr=>ξ (Lr.dn hs hr)) λo i j t bp hs J=>μ (aap (ξ (.go hs.of J))))
 rotate_left
 have h1:=J.h1;have h2:=J.h2;have h3:=J.h3
 lia
 clear J hs;intro y out ia ib t pY hy hs J;have h1:=J.h1;have h2:=J.h2;have h3:=J.h3;dsimp -zeta -zetaHave -zetaUnused only
 extract_lets -underBinder -merge +onlyGivenNames s0 o s1 i s2 j s3 m s4 p q jp
 subst s0 o s1 i s2 j s3 m s4 p q;refine EH jp (λ_ mg=>?_) λhj=>?_
 rotate_left
 clear_value jp
 exact aF (λ_=>hj _ _) λ_=>hj _ _;refine μ (aap (μ (bE (at_ h2) (μ (fu C (base:=ia) (n:=a.size-ia) (hint:=0) (hs.k.trans hk) (I.gb _ (eY h2)) () (λi hi=>#[_,at_ (),I.ga _ (eY ())]) λk yz=>?_)))));clear jp;dsimp -zeta -zetaHave -zetaUnused only
 extract_lets -underBinder -merge +onlyGivenNames ac jp
 refine mW jp (λo i=>JL a b (x+1+y) o i ib) ?_ λhj=>?_
 rotate_left
 clear_value jp
 have M1:=J.M.pa (k:=ia+k) ();refine aF (λzk=>aF (λz1=>?_) λz1=>aF (λz2=>?_) λz2=>hj _ _ _ #[M1,by simp at z1 z2;lia,h2,()]) λzk=>hj _ _ _ J;exact ξ (.dn hs.of (M1.last));exact ξ (.dn hs.of (M1.fin));clear h1 h3 yz J;intro _ out ia J;have h1:=J.h1;have h3:=J.h3;have M2:=J.M.pb (k:=ib+1) ();rw[<- oq h2] at M2;refine μ (bE (at_ h2) (aF (λz=>?_) λz=>?_));exact ξ (.dn hs.of (M2.fin));clear jp
 clear_value ac
 have z:ib+1<b.size:=by simp at z;lia
 refine μ (bE (at_ ()) (μ (fu C (base:=ib+1) (n:=b.size-(ib+1)) (hint:=0) (hs.k.trans hk) (I.ga _ (eY ())) () (λi hi=>#[_,at_ (),I.gb _ (eY ())]) λk yz=>?_)));dsimp -zeta -zetaHave -zetaUnused only
 extract_lets -underBinder -merge +onlyGivenNames bc jp
 refine mW jp (λo i=>JL a b (x+1+y+1) o ia i) ?_ λhj=>?_
 rotate_left
 clear_value jp
 have M3:=M2.pb (k:=ib+1+k) ();refine aF (λzk=>aF (λz1=>?_) λz1=>hj _ _ _ #[M3,h1,by simp at z1;lia,()]) λzk=>hj _ _ _ #[M2,h1,z,()];exact ξ (.dn hs.of (M3.fin));clear h1 h2 h3 yz M2 z J;intro _ out ib J;have h1:=J.h1;have h2:=J.h2;have h3:=J.h3;have M4:=J.M.pa (k:=ia+1) ();rw[<- oq (show ia<a.size by lia)] at M4;refine μ (bE (at_ ()) (aF (λz=>?_) λz=>aF (λ_=>?_) λ_=>?_));exact ξ (.dn hs.of (M4.last))
 all_goals have z:ia+1+1<a.size:=by simp at z;lia
 exact ξ (.ot hs.of #[M4,z,h2,()]);exact ξ (.go hs.of #[M4,z,h2,()])
structure JH(a b:Array Kd)(c:Nat)(na nb:Nat)(o:Array Kd):Prop where
 M:MH a b o na nb
 h1:0<na
 EI:na<a.size
 h2:1<nb
 IA:nb<=b.size
 h3:c+na+nb<a.size+b.size
theorem Wy(C:Cp prog w A E s κ G){a b:Array Kd}{st:SortSt}{Q:Array Kd->SortSt->Prop}(hk:kindOf st=κ)(I:In G a b)(hq:∀out bp,OK a b out->Sm st bp->Q out bp):wpS 14 A E s (Lq a b) Q st:=by
 have a0:=I.a0;have b0:=I.b0;have s0:Sm st st:=#[9,9,9,9];have M0:MH a b ([Qx a (a.size-1)].toArray) (a.size-1) b.size:=by
  have M:MH a b ([].toArray) a.size b.size:=by have e1:a.toList.take a.size=a.toList:=X1 6;have e2:b.toList.take b.size=b.toList:=X1 6;unfold MH;rw[e1,e2];simp
  have:=M.pa (k:=a.size-1) ();rw[<- mV () a0] at this;exact this
 refine μ (wpS_lift (aab #[9,?_]));refine μ (bE (at_ (show a.size-1<a.size by lia)) (aF (λc1=>?_) λc1=>aF (λc2=>?_) λc2=>μ (wpS_get ?_)));exact ξ (hq _ _ (M0.fin) s0);exact ξ (hq _ _ (M0.last) s0);have c1:0<a.size-1:=by simp at c1;lia
 have c2:1<b.size:=by simp at c2;lia
 refine μ (kh (OK a b) (λx=>JH a b x) (λ_ _ _=>False) s0 #[M0,c1,(),c2,(),()] ?_ (λi j o J=>?_) (λr d bp hs hr=>ξ (hq r bp hr hs)) λ_ _ _ _ _ _ h=>h.elim)
 rotate_left
 have h3:=J.h3
 lia
 clear c1 c2 M0 s0 a0 b0;intro x na nb out mg pY hx hs J;refine μ (kh (OK a b) (λy=>JH a b (x+y)) (JH a b (x+1)) hs J ?_ (λi j o J=>?_) (λr d bp hs hr=>ξ (Lr.dn hs hr)) ?_)
 . clear J hs;intro y na nb out t pY hy hs J;have M:=J.M;have h1:=J.h1;have EI:=J.EI;have h2:=J.h2;have IA:=J.IA;have h3:=J.h3;dsimp only;refine μ (bE (at_ ()) (μ (bE (at_ ()) (μ (C.lt (I.gb _ (eY ())) (I.ga _ (eY ())) (hs.k.trans hk) λ_=>?_)))));refine aF (λhw=>μ (bE (at_ ()) ?_)) λhw=>μ (bE (at_ ()) ?_)
   . have M1:=M.pa (k:=na-1) ();rw[<- mV () h1] at M1;refine aF (λz=>?_) λz=>aF (λ_=>?_) λ_=>?_;exact ξ (.dn hs (M1.fin))
     all_goals have z:0<na-1:=by simp at z;lia
     exact ξ (.ot hs #[M1,z,(),h2,IA,()]);exact ξ (.go hs #[M1,z,(),h2,IA,()])
   . have M1:=M.pb (k:=nb-1) ();rw[<- mV () ()] at M1;refine aF (λz=>?_) λz=>aF (λ_=>?_) λ_=>?_;exact ξ (.dn hs (M1.last))
     all_goals have z:1<nb-1:=by simp at z;lia
     exact ξ (.ot hs #[M1,h1,EI,z,(),()]);exact ξ (.go hs #[M1,h1,EI,z,(),()])
 have h3:=J.h3
 lia
 clear J hs;intro na nb out t pY hs J;refine μ (wpS_lift (aab #[9,?_]));refine μ (kh (OK a b) (λy=>JH a b (x+1+y)) (JH a b (x+1)) hs J ?_ (λi j o J=>?_) (λr d bp hs hr=>ξ (Lr.dn hs hr)) λo i j t bp hs J=>μ (aap (ξ (.go hs.of J))))
 rotate_left
 have h3:=J.h3
 lia
 clear J hs;intro y na nb out t pY hy hs J;have h1:=J.h1;have EI:=J.EI;have h2:=J.h2;have IA:=J.IA;have h3:=J.h3;dsimp -zeta -zetaHave -zetaUnused only
 extract_lets -underBinder -merge +onlyGivenNames s0 o s1 i s2 j s3 m s4 p q jp
 subst s0 o s1 i s2 j s3 m s4 p q;refine EH jp (λ_ mg=>?_) λhj=>?_
 rotate_left
 clear_value jp
 exact aF (λ_=>hj _ _) λ_=>hj _ _;refine μ (aap (μ (bE (at_ (by show nb-1<b.size;lia)) (μ (fu C (base:=0) (n:=na) (hint:=na-1) (hs.k.trans hk) (I.gb _ (eY (i:=nb-1) ())) () (λi hi=>#[_,by rw[Nat.zero_add];exact at_ (),I.ga _ (eY ())]) λk yz=>?_)))));clear jp;dsimp -zeta -zetaHave -zetaUnused only
 extract_lets -underBinder -merge +onlyGivenNames kk ac jp
 refine mW jp (λi o=>JH a b (x+1+y) i nb o) ?_ λhj=>?_
 rotate_left
 clear_value jp
 subst kk;have M1:=J.M.pa (k:=k) ();refine aF (λzk=>aF (λz1=>?_) λz1=>hj _ _ _ #[M1,by simp at z1;lia,(),h2,IA,()]) λzk=>hj _ _ _ J;exact ξ (.dn hs.of (M1.fin));clear h1 EI h3 yz J;intro _ na out J;have h1:=J.h1;have EI:=J.EI;have h3:=J.h3;have M2:=J.M.pb (k:=nb-1) ();rw[<- mV () ()] at M2;refine μ (bE (at_ (by show nb-1<b.size;lia)) (aF (λz=>?_) λz=>?_));exact ξ (.dn hs.of (M2.last));clear jp
 clear_value ac
 have z:1<nb-1:=by simp at z;lia
 refine μ (bE (at_ (by show na-1<a.size;lia)) (μ (fu C (base:=0) (n:=nb-1) (hint:=nb-1-1) (hs.k.trans hk) (I.ga _ (eY (i:=na-1) ())) () (λi hi=>#[_,by rw[Nat.zero_add];exact at_ (),I.gb _ (eY ())]) λk yz=>?_)));dsimp -zeta -zetaHave -zetaUnused only
 extract_lets -underBinder -merge +onlyGivenNames kk bc jp
 refine mW jp (λj o=>JH a b (x+1+y+1) na j o) ?_ λhj=>?_
 rotate_left
 clear_value jp
 subst kk;have M3:=M2.pb (k:=k) ();refine aF (λzk=>aF (λz1=>?_) λz1=>aF (λz2=>?_) λz2=>hj _ _ _ #[M3,h1,EI,by simp at z1 z2;lia,(),()]) λzk=>hj _ _ _ #[M2,h1,EI,z,(),()];exact ξ (.dn hs.of (M3.last));exact ξ (.dn hs.of (M3.fin));clear h1 EI h2 IA h3 yz M2 z J;intro _ nb out J;have h1:=J.h1;have EI:=J.EI;have h2:=J.h2;have IA:=J.IA;have h3:=J.h3;have M4:=J.M.pa (k:=na-1) ();rw[<- mV () h1] at M4;refine μ (bE (at_ (by show na-1<a.size;lia)) (aF (λz=>?_) λz=>aF (λ_=>?_) λ_=>?_));exact ξ (.dn hs.of (M4.fin))
 all_goals have z:0<na-1:=by simp at z;lia
 exact ξ (.ot hs.of #[M4,z,(),h2,IA,()]);exact ξ (.go hs.of #[M4,z,(),h2,IA,()])
variable{κ:SortKind}{G:Kd->Prop}
structure Kp(st bp:SortSt):Prop where
 k:kindOf bp=kindOf st
 p:pendingOf bp=pendingOf st
 f:failedOf bp=failedOf st
 m:(arrOf bp).Perm (arrOf st)
def Kp.refl(st:SortSt):Kp st st:=#[9,9,9,.refl _]
def Kp.trans{a b c:SortSt}(h:Kp a b)(g:Kp b c):Kp a c:=#[g.k.trans h.k,g.p.trans h.p,g.f.trans h.f,g.m.trans h.m]
def Kp.mir{st:SortSt}:Kp st (setArr st (mirror (arrOf st) i j ((j-i) / 2))):=#[9,9,9,mirror_perm _ _ _ _]
structure Gd(κ:SortKind)(G:Kd->Prop)(st:SortSt):Prop where
 k:kindOf st=κ
 g:∀x∈(arrOf st).toList,G x
def Kp.gd{st bp:SortSt}(h:Kp st bp)(g:Gd κ G st):Gd κ G bp:=#[h.k.trans g.k,λx hx=>g.g x ((acb.mp h.m).mem_iff.mp hx)]
def rS(C:Cp prog w A E s κ G){st:SortSt}{Q:Option Bool->SortSt->Prop}(g:Gd κ G st)(hi:i<(arrOf st).size)(hj:j<(arrOf st).size)(h:∀b,Q (some b) st):wpS 14 A E s (ltAt' i j) Q st:=μ (wpS_get (μ (bE (at_ hi) (μ (bE (at_ hj) (C.lt (g.g _ (eY hi)) (g.g _ (eY hj)) g.k h))))))
def mX{st:SortSt}{Q:Unit->SortSt->Prop}(h:Q Unit.unit (setArr st (mirror (arrOf st) i j ((j-i) / 2)))):wpS 14 A E s (reverseSlice' i j) Q st:=by rw[reverseSlice'_eq];exact aap h
theorem EJ(C:Cp prog w A E s κ G){st:SortSt}{lo a mY:Nat}{Q:Option (Option Nat)×Nat->SortSt->Prop}(g:Gd κ G st)(hn:lo+mY<=(arrOf st).size)(ha:1<=a)(han:a<=mY)(h:∀n,a<=n->n<=mY->Q (none,n) st) :
  wpS 14 A E s (forIn [a:mY] (none,a) λ_ c=>do
   match <- ltAt' (lo+c.2) (lo+c.2-1) with
   |some z=>if z=true then pure (.done (none,c.2)) else pure (.yield (none,c.2+1))
   |_=>pure (.done (some none,c.2))) Q st:=by
 refine aae (I:=λx c bp=>bp=st/\c=(none,x)) ?_ ?_ #[9,9];rintro x c bp hax hxn ⟨rfl,rfl⟩;exact μ (rS C g () () λb=>aF (λ_=>ξ (h x hax ())) λ_=>ξ #[9,9]);rintro c bp ⟨rfl,rfl⟩;rw[show max a mY=mY by lia];exact h mY han (cL _)
theorem Hc(C:Cp prog w A E s κ G){st:SortSt}{lo mY:Nat}{Q:Option Nat->SortSt->Prop}(g:Gd κ G st)(hn:lo+mY<=(arrOf st).size)(h1:1<=mY)(h:∀m bp,Kp st bp->1<=m->m<=mY->Q (some m) bp):wpS 14 A E s (countRun' lo mY) Q st:=by
 refine μ (EJ C g hn (cL 1) h1 λn Wz Se=>aF (λz=>ξ (h n st (Kp.refl _) Wz Se)) λz=>?_);have z:n≠mY:=by simpa using z
 refine aF (λz2=>μ (rS C g () () λb=>aF (λhc=>ξ (h n st (Kp.refl _) Wz Se)) λhc=>μ (mX ?_))) λz2=>?_
 case' _=>
  have K1:Kp st (setArr st (mirror (arrOf st) lo (lo+n) ((lo+n-lo) / 2))):=Kp.mir
 rotate_left
 case' _=>
  obtain⟨pY,e,K1⟩:∃pY,pY=st/\Kp st pY:=#[st,9,Kp.refl _];rw[<- e]
 all_goals
  refine μ (wpS_lift (aab #[9,?_]));refine μ (aaA (aae (I:=λx c bp=>∃N0,c=(none,x,N0)/\Kp st bp)
   (Q:=λc bp=>∃m N0,c=(none,m,N0)/\1<=m/\m<=mY/\Kp st bp) ?_ ?_ #[0,9,K1]) ?_)
  rintro x c bp hax hxn ⟨N0,rfl,K2⟩;dsimp only;have sz:=K2.m.size_eq;refine μ (rS C (K2.gd g) () () λb=>aF (λhc=>?_) λhc=>μ (rS C (K2.gd g) () () λb=>aF (λhd=>?_) λhd=>?_));exact aF (λ_=>μ (mX (ξ #[0,9,K2.trans Kp.mir]))) λ_=>ξ #[0,9,K2];exact ξ #[x,N0,9,(),(),K2];exact ξ #[N0+1,9,K2];rintro c bp ⟨N0,rfl,K2⟩;exact#[_,N0,9,(),(),K2];rintro c vX ⟨m,N0,rfl,N1,hm2,K2⟩;dsimp only;refine aF (λ_=>μ (mX (μ (mX ?_)))) λ_=>μ (mX ?_)
  case' _=>have K4:=(K2.trans (Kp.mir (i:=lo+m-(N0+1)) (j:=lo+m))).trans (Kp.mir (i:=lo) (j:=lo+m))
  rotate_left
  case' _=>have K4:=K2.trans (Kp.mir (i:=lo) (j:=lo+m))
  all_goals exact μ (EJ C (K4.gd g) (by rw[K4.m.size_eq];exact hn) N1 hm2 λk yz wz=>ξ (h k _ K4 () wz))
theorem Qy(C:Cp prog w A E s κ G){st:SortSt}{lo ok:Nat}{Q:Bool->SortSt->Prop}(g:Gd κ G st)(hn:lo+n<=(arrOf st).size)(h:∀bp,Kp st bp->Q true bp):wpS 14 A E s (binarySort' lo n ok) Q st:=by
 refine μ (aaA (aae (I:=λk c bp=>c=(none,Unit.unit)/\Kp st bp) ?step (λ_ _ h=>h) #[9,Kp.refl _]) ?post)
 case post=>
  rintro c bp ⟨rfl,K⟩;exact ξ (h bp K)
 case step=>
  rintro k c bp hak Ey ⟨rfl,K⟩;have sz:=K.m.size_eq;refine μ (aaA (aae (I:=λx c He=>He=bp/\∃l r,c=(none,l,r)/\l<=r/\r<=k)
   (Q:=λc He=>He=bp/\∃l r,c=(none,l,r)) ?_ ?_ #[9,0,k,9,(),()]) ?_)
  rintro x c He _ hxk ⟨rfl,l,r,rfl,hlr,hrk⟩;dsimp only;refine aF (λz=>ξ #[9,l,r,9]) λz=>μ (rS C (K.gd g) () () λb=>aF (λhc=>ξ #[9,l,(l+r) / 2,9,(),()]) λhc=>ξ #[9,(l+r) / 2+1,r,9,(),()]);rintro c He ⟨rfl,l,r,rfl,hlr,hrk⟩;exact#[9,l,r,9];rintro c He ⟨rfl,l,r,rfl⟩;exact μ (aap (ξ #[9,K.trans #[9,9,9,bubble_perm _ _ _]]))
def putL(a:Array Kd)(sa:Nat)(l:List Kd)(c:Nat):Array Kd:=(l.zipIdx c).foldl (λa (x:Kd×Nat)=>match x with|(p,j)=>a.setIfInBounds (sa+j) p) a
theorem rT:∀(l:List Kd)(a:Array Kd)(sa c:Nat),sa+c+l.length<=a.size->(putL a sa l c).toList=a.toList.take (sa+c)++(l++a.toList.drop (sa+c+l.length))
 |[],a,sa,c,_=>by simp[putL]
 |p::l,a,sa,c,h=>by
  rw[vR] at h;have hl:sa+c<a.toList.length:=by simp;lia
  show (putL (a.setIfInBounds (sa+c) p) sa l (c+1)).toList=_;rw[rT l _ sa (c+1) (by simp;lia),Array.toList_setIfInBounds,List.set_eq_take_append_cons_drop,ι hl,show sa+(c+1)=sa+c+1 by lia,vR];have e1:(a.toList.take (sa+c)).length=sa+c:=by rw[N5];lia
  rw[List.take_append,List.drop_append,e1,show sa+c+1-(sa+c)=1 by lia,show sa+c+1+l.length-(sa+c)=l.length+1 by lia,List.drop_succ_cons,List.drop_drop,List.take_succ_cons,List.take_zero,X1 (),List.drop_of_length_le (),show sa+c+1+l.length=sa+c+(l.length+1) by lia];simp
def put(a:Array Kd)(sa:Nat)(b:Array Kd):Array Kd:=putL a sa b.toList 0
def Lu{a b:Array Kd}{sa:Nat}(h:sa+b.size<=a.size):(put a sa b).toList=a.toList.take sa++(b.toList++a.toList.drop (sa+b.size)):=rT b.toList a sa 0 h
theorem Lv{xs m:Array Kd}{k sb e:Nat}(hkb:k<=sb)(Ik:sb<=e)(hsz:e<=xs.size)(hm:OK (xs.extract k sb) (xs.extract sb e) m):(put xs k m).Perm xs:=by
 have sm:m.size=e-k:=by
  have:=hm.length_eq;simp at this
  lia
 rw[acb,Lu ()];have e0:xs.toList=xs.toList.take k++(((xs.extract k sb).toList++(xs.extract sb e).toList)++xs.toList.drop e):=by rw[yD,<- dE Ik,<- dE hkb,X3]
 rw[show k+m.size=e by lia]
 conv=>rhs;rw[e0]
 exact List.Perm.append_left _ (List.Perm.append_right _ hm)
def Qz{f:SortSt}{Q:PUnit->SortSt->Prop}{st:SortSt}(h:Q #[] f):wpS 14 A E s (set f:StateT SortSt Sem PUnit) Q st:=by unfold wpS;rw[StateT.run_set];exact η #[9,h]
def Lw{xs:Array Kd}{x:Kd}(h:x∈(xs.extract i j).toList):x∈xs.toList:=by rw[YR,List.extract_eq_drop_take] at h;exact acC (List.mem_of_mem_take h)
theorem z9(C:Cp prog w A E s κ G){st:SortSt}{sa na pa sb nb pb:Nat}{Q:Bool->SortSt->Prop}(g:Gd κ G st)(e1:(pendingOf st)[i]?\(sa,na,pa))(e2:(pendingOf st)[i+1]?\(sb,nb,pb))(hab:sb=sa+na)(hsz:sb+nb<=(arrOf st).size)(na0:0<na)(nb0:0<nb)(hf:failedOf st=none)(h:∀bp,kindOf bp=kindOf st->failedOf bp=none->pendingOf bp=((pendingOf st).setIfInBounds i (sa,na+nb,pa)).eraseIdxIfInBounds (i+1)->(arrOf bp).Perm (arrOf st)->Q true bp):wpS 14 A E s (mergeAt' i) Q st:=by
 refine μ (wpS_get ?_);rw[e1,e2];refine μ (Qz (μ (bE (at_ (show sb<(arrOf st).size by lia)) (μ (fu C (arr:=arrOf st) g.k (g.g _ (eY ())) na0 (λi hi=>#[_,at_ (),g.g _ (eY ())]) λk hk=>aF (λz=>ξ (h _ 9 hf 9 (.refl _))) λz=>?_)))));have zk:k<na:=by simp at z;lia
 refine μ (bE (at_ (show sa+k+(na-k)-1<(arrOf st).size by lia)) (μ (fu C (arr:=arrOf st) g.k (g.g _ (eY ())) (show nb-1<nb by lia) (λi hi=>#[_,at_ (),g.g _ (eY ())]) λe he=>aF (λz=>ξ (h _ 9 hf 9 (.refl _))) λz=>?_)));have ze:0<e:=by simp at z;lia
 have I:In G ((arrOf st).extract (sa+k) sb) ((arrOf st).extract sb (sb+e)):=#[λx hx=>g.g _ (Lw hx),λx hx=>g.g _ (Lw hx),by simp;lia,by simp;lia];have fin:∀out bp,OK ((arrOf st).extract (sa+k) sb) ((arrOf st).extract sb (sb+e)) out->Sm (setPending st (((pendingOf st).setIfInBounds i (sa,na+nb,pa)).eraseIdxIfInBounds (i+1))) bp->Q true (setArr bp (put (arrOf bp) (sa+k) out))/\failedOf bp=none:=λout bp ho hs=>by have ea:arrOf bp=arrOf st:=hs.a;rw[ea];exact#[h _ hs.k (hs.f.trans hf) hs.p (Lv () () () ho),hs.f.trans hf]
 refine aF (λ_=>μ (Wx C g.k I λout bp ho hs=>?_)) λ_=>μ (Wy C g.k I λout bp ho hs=>?_)
 all_goals
  let(q,hn):=fin out bp ho hs;refine μ (aap (μ (wpS_get (ξ ?_))));show Q (failedOf bp).isNone (setArr bp (put (arrOf bp) (sa+k) out));rw[hn];exact q
abbrev Pd:=Nat×Nat×Nat
def Rn:Nat->List Pd->Nat->Prop
 |a,[],b=>a=b
 |a,p::l,b=>p.1=a/\0<p.2.1/\Rn (a+p.2.1) l b
theorem Rn.app:∀{l l':List Pd}{a b:Nat},Rn a (l++l') b↔∃c,Rn a l c/\Rn c l' b
 |[],l',a,b=>#[λh=>#[a,9,h],λ#[c,e,h]=>by cases (show a=c from e);exact h]
 |p::l,l',a,b=>by constructor;rintro⟨h1,h2,h4⟩;let(c,h5,h6):=Rn.app.mp h4;exact#[c,#[h1,h2,h5],h6];rintro⟨c,⟨h1,h2,h5⟩,h6⟩;exact#[h1,h2,Rn.app.mpr #[c,h5,h6]]
theorem Rn.le:∀{l:List Pd}{a b:Nat},Rn a l b->a+l.length<=b
 |[],a,b,h=>by have h:a=b:=h;simp;lia
 |p::l,a,b,#[_,h1,h2]=>by have:=h2.le;simp;lia
structure St(κ:SortKind)(G:Kd->Prop)(a₀:Array Kd)(lo:Nat)(st:SortSt):Prop where
 gd:Gd κ G st
 fl:failedOf st=none
 pm:(arrOf st).Perm a₀
 rn:Rn 0 (pendingOf st).toList lo
theorem Ce{l:List Pd}(h:i+1<l.length):∃l1 x y l2,l=l1++x::y::l2/\l1.length=i:=by refine#[l.take i,l[i],l[i+1],l.drop (i+2),?_,by rw[N5];lia];rw[<- YH,<- YH,X3]
theorem adY{l1 l2:List Pd}{x y v:Pd}:((l1++x::y::l2).set l1.length v).eraseIdx (l1.length+1)=l1++v::l2:=by rw[List.set_append_right _ _ (cL _),Nat.sub_self,List.eraseIdx_append_of_length_le (),show l1.length+1-l1.length=1 by lia];rfl
theorem vz(C:Cp prog w A E s κ G){a₀:Array Kd}{lo:Nat}{st:SortSt}{Q:Bool->SortSt->Prop}(S:St κ G a₀ lo st)(hlo:lo<=a₀.size)(hi:i+1<(pendingOf st).size)(h:∀bp,St κ G a₀ lo bp->(pendingOf bp).size+1=(pendingOf st).size->Q true bp):wpS 14 A E s (mergeAt' i) Q st:=by
 let(l1,(sa,na,pa),(sb,nb,pb),l2,el,e1):=Ce (l:=(pendingOf st).toList) (by simpa using hi);subst e1;have R:=S.rn;rw[el] at R;let(c,R1,e2,h2,e4,h5,R2):=Rn.app.mp R;simp only at e2 h2 e4 h5 R2;subst e2 e4;have hl:=R2.le;have sz:=S.pm.size_eq;have g1:(pendingOf st)[l1.length]?\(sa,na,pa):=by rw[<- DF,el,uN (cL _),Nat.sub_self];rfl
 have g2:(pendingOf st)[l1.length+1]?\(sa+na,nb,pb):=by rw[<- DF,el,uN (),show l1.length+1-l1.length=1 by lia];rfl
 refine z9 C S.gd g1 g2 9 () h2 h5 S.fl λbp k1 k2 k3 k4=>?_;have ep:(pendingOf bp).toList=l1++(sa,na+nb,pa)::l2:=by rw[k3,Array.toList_eraseIdxIfInBounds,Array.toList_setIfInBounds,el,adY]
 refine h bp #[#[k1.trans S.gd.k,λx hx=>S.gd.g x ((acb.mp k4).mem_iff.mp hx)],k2,k4.trans S.pm,?_] ?_;rw[ep];exact Rn.app.mpr #[sa,R1,9,Nat.add_pos_left h2 _,by rw[<- Nat.add_assoc];exact R2];have e1:(pendingOf bp).size=(pendingOf bp).toList.length:=by simp
 have e2:(pendingOf st).size=(pendingOf st).toList.length:=by simp
 rw[e1,e2,ep,el];simp
 lia
theorem Rn.md{f:Pd->Pd}(h1:∀p,(f p).1=p.1)(h2:∀p,(f p).2.1=p.2.1):∀{l:List Pd}{i a b:Nat},Rn a l b->Rn a (l.modify i f) b
 |[],i,a,b,h=>by rw[List.modify_nil];exact h
 |p::l,0,a,b,#[e1,e2,e4]=>#[(h1 p).trans e1,by rw[h2];exact e2,by rw[h2];exact e4]
 |p::l,i+1,a,b,#[e1,e2,e4]=>#[e1,e2,e4.md h1 h2]
theorem Lx(C:Cp prog w A E s κ G){a₀:Array Kd}{st:SortSt}{Q:Unit->SortSt->Prop}(S:St κ G a₀ 0 st)(h2:2<=a₀.size)(h:∀bp,(arrOf bp).Perm a₀->failedOf bp=none->Q Unit.unit bp):wpS 14 A E s sortRuns' Q st:=by
 refine μ (wpS_get ?_);dsimp only;rw[show (arrOf st).size=a₀.size from S.pm.size_eq];refine μ (aaA (aae (I:=λx c bp=>∃lo,c=(none,lo)/\x<=lo/\lo<=a₀.size/\St κ G a₀ lo bp) (Q:=λc bp=>∃lo,c=(none,lo)/\St κ G a₀ a₀.size bp) ?step ?fin #[0,9,cL _,fB _,S]) ?post)
 case fin=>
  rintro c bp ⟨lo,rfl,h3,h4,S'⟩;have e:lo=a₀.size:=by lia
  subst e;exact#[_,9,S']
 case post=>
  rintro c bp ⟨lo,rfl,S'⟩;refine μ (aaA (aae (I:=λx c bp=>c=(none,Unit.unit)/\St κ G a₀ a₀.size bp) ?_ (λ_ _ h=>h) #[9,S']) ?_);rintro x c pY _ hx ⟨rfl,S1⟩;refine μ (wpS_get (aF (λz=>ξ #[9,S1]) λz=>?_));have hi:∀c [Decidable c],(if c then (pendingOf pY).size-2-1 else (pendingOf pY).size-2)+1<(pendingOf pY).size:=λc _=>by have z:¬ (pendingOf pY).size<=1:=z;split<;>lia
  exact μ (vz C S1 (cL _) (hi _) λvX S2 p2=>aF (λz=>by simp at z) λ_=>ξ #[9,S2]);rintro c pY ⟨rfl,S1⟩;exact ξ (h pY S1.pm S1.fl)
 case step=>
  rintro x c pY _ hx ⟨lo,rfl,h3,h4,S1⟩;have sz:=S1.pm.size_eq;refine aF (λz=>?_) λz=>μ (Hc C S1.gd () () λm vX K2 m1 m2=>?_);have e:lo=a₀.size:=by lia
  subst e;exact ξ #[_,9,S1];have S2:St κ G a₀ lo vX:=#[K2.gd S1.gd,K2.f.trans S1.fl,K2.m.trans S1.pm,by rw[K2.p];exact S1.rn];have sz2:=S2.pm.size_eq;refine aF (λzm=>μ (wpS_lift (aab #[9,μ (Qy C S2.gd () λUy K3=>?_)]))) λzm=>?_
  case' _=>
   have S3:St κ G a₀ lo Uy:=#[K3.gd S2.gd,K3.f.trans S2.fl,K3.m.trans S2.pm,by rw[K3.p];exact S2.rn];have n0:0<min (a₀.size-lo) ((sortPriv% PySem.Builtin.minRun) a₀.size a₀.size 0):=by lia
   have n1:lo+min (a₀.size-lo) ((sortPriv% PySem.Builtin.minRun) a₀.size a₀.size 0)<=a₀.size:=by lia
  rotate_left
  case' _=>
   have S3:=S2;have n0:=m1;have n1:lo+m<=a₀.size:=by lia
  all_goals
   have push:∀{n bp},0<n->St κ G a₀ lo bp->St κ G a₀ (lo+n) (setPending bp ((pendingOf bp).push (lo,n,0))):=λ{n bp} n0 S'=>#[#[S'.gd.k,S'.gd.g],S'.fl,S'.pm,by
    rw[acQ];exact Rn.app.mpr #[lo,S'.rn,9,n0,9]]
   refine μ (wpS_get ?_);split;refine μ (aaA (aae (I:=λ_ c bp=>c=(none,Unit.unit)/\St κ G a₀ lo bp) ?_ (λ_ _ hh=>hh) #[9,S3]) ?_);rintro y c WA _ _ ⟨rfl,S4⟩;refine μ (wpS_get ?_);by_cases zp:(pendingOf WA).size > 1;rw[ι zp,getElem?_pos (pendingOf WA) _ (show (pendingOf WA).size-2<(pendingOf WA).size by lia)];exact aF (λ_=>ξ #[9,S4]) λ_=>μ (vz C S4 h4 (show (pendingOf WA).size-2+1<(pendingOf WA).size by lia) λR' S5 _=>aF (λz=>by simp at z) λ_=>ξ #[9,S5]);rw[θ zp];exact ξ #[9,S4];rintro c WA ⟨rfl,S4⟩;refine μ (aap (μ (aap (ξ #[_,9,(),n1,push n0 #[#[S4.gd.k,S4.gd.g],S4.fl,S4.pm,?_]]))));rw[Array.toList_modify];exact S4.rn.md (by exact λ_=>rfl) (by exact λ_=>rfl);exact μ (aap (ξ #[_,9,(),n1,push n0 S3]))
end SP
namespace TP
open PySem PySem.Spec PyProof.Rows L2 VT TS
section
def Th(b:Bool)(z:Value):Prop:=if b=true then E2 λy t=>z=.str y t else E2 λk t=>z=.int k t
def Tri(b:Bool)(h:Heap)(v:Value):Prop:=E5 λi x t1 t2 z=>TupAt h v ([.int i t1,.str x t2,z].toArray)/\Th b z
def adZ{b:Bool}{y z:Value}(h1:Th b y)(h2:Th b z):Sc y z:=by
 cases b with
 |true=>let(_,_,rfl):=h1;let(_,_,rfl):=h2;exact .str _ _ _ _
 |false=>let(_,_,rfl):=h1;let(_,_,rfl):=h2;exact .int _ _ _ _
def ad0{l:Addr}{vs:qag}{P:Fin->Shared->Prop}(b:Bool)(hl:s.heap.get? l\seqObj "list" vs.toArray ep)(Yu:vs.length<=100000)(ht:∀g:Heap,(∀b o,b≠l->s.heap.get? b\o->g.get? b\o)->∀v∈vs,Tri b g v)(h:∀out:Array Value,out.toList.Perm vs->P (.done (.ret .none)) {s with heap:=sortedHeap s.heap l vs out}) :
  wpAny 14 A (Builtin.«list.sort» #[[.ref l],[]]) P E s:=by
 have di:l<8:=eS hl;have n64:vs.length<=sizeLine:=by rw[π];lia
 rw[list_sort_plain];refine ζ (listItems_at hl 9 (ζ (listUpdate_at hl 9 ?_)));obtain⟨e1,g1⟩:∃e1,(s.heap.update l (Obj.mapSeq λ_=>([].toArray))).get? l\seqObj "list" ([].toArray) e1:=#[_,get?_update_seq hl _];refine ζ (seqEpoch_at g1 9 (ζ (aaJ (ζ (aaR (Ω ?_))) (by simpa using n64))));show wpAny 14 A _ P E {s with heap:=((s.heap.update l (Obj.mapSeq λ_=>([].toArray))).push (seqObj "tuple" vs.toArray 0)).push (seqObj "list" ([].toArray) 0)};generalize hg:((s.heap.update l (Obj.mapSeq λ_=>([].toArray))).push (seqObj "tuple" vs.toArray 0)).push (seqObj "list" ([].toArray) 0)=g;have g2:g.get? l\seqObj "list" ([].toArray) e1:=by subst hg;exact dF _ (dF _ g1)
 have old:∀b o,b≠l->s.heap.get? b\o->g.get? b\o:=λb o hb e=>by subst hg;refine dF _ (dF _ ?_);rw[acD _ _ _ _ hb];exact e
 have Cz:=ht g old;have out:∀xs:Array Keyed,xs.Perm (pairsOf vs)->P (.done (.ret .none)) {s with heap:=g.update l (Obj.mapSeq λ_=>xs.map (·.2))}:=λxs hp=>by have:=h (xs.map (·.2)) (Lm hp);unfold sortedHeap at this;rw[hg] at this;exact this
 have osz:∀xs:Array Keyed,xs.Perm (pairsOf vs)->(xs.map (·.2)).size<=sizeLine:=λxs hp=>by rw[Array.size_map,hp.size_eq,pairsOf_size];exact n64
 dsimp only;by_cases h2:vs.toArray.size<2;rw[ι h2,ι h2];refine ζ (η ?_);rw[StateT.run_pure];refine ζ (η ?_);refine ζ (seqEpoch_at g2 9 (ζ (listUpdate_at g2 9 ?_ (hsz2:=Nat.le_succ_of_le (osz (pairsOf vs) (Array.Perm.refl _))))));simp only[aaN,NQ,aau];exact η (out (pairsOf vs) (Array.Perm.refl _));rw[θ h2,θ h2];have JQ:2<=vs.length:=by rw[iD] at h2;lia
 have kd:∀Q:SortKind->Shared->Prop,Q (tuples' true) {s with heap:=g}->wpAny 14 A (keyKind' vs.toArray) Q E {s with heap:=g}:=λQ hq=>by refine Ln (by rintro rfl;simp at JQ) (λv hv=>?_) hq;let(i,x,t1,t2,z,ta,_):=Cz v hv;exact#[_,_,_,ta,9]
 have cm:SP.Cp prog w A E {s with heap:=g} (tuples' true) (λp=>p.1∈vs):=#[λ{p q st Q} hp hq hk h=>by
  rw[lt'_eq];refine μ (wpS_get ?_);rw[hk];let(i,x,t1,t2,z,ta,tz):=Cz _ hp;let(i',x',u1,u2,z',tb,tz'):=Cz _ hq;refine μ (wpS_lift (aai (Qv (s:={s with heap:=g}) ta tb (λe he=>?_) true λb=>#[9,ξ (h b)])));simp only[T6,List.zip_nil_right,dQ,gR,aah] at he;obtain rfl|rfl|rfl:=he
  exact .int _ _ _ _;exact .str _ _ _ _;exact adZ tz tz']
 refine ζ (kd _ ?_);refine ζ (zm (SP.Lx (a₀:=pairsOf vs) (st:=SortSt.mk' (tuples' true) (vs.toArray.zip vs.toArray) ([].toArray) 07 none) (Q:=λ_ bp=>(arrOf bp).Perm (pairsOf vs)/\failedOf bp=none) cm #[#[9,λp hp=>?_],9,Array.Perm.refl _,9] (by rw[pairsOf_size];exact JQ) λbp p1 p2=>#[p1,p2]) ?_ λ_ _ z=>z);have hp:p∈(pairsOf vs).toList:=hp;rw[pairsOf_toList] at hp;exact (mem_zip_self hp).2;rintro⟨⟨⟩,bp⟩ s' ⟨rfl,hp,hf⟩;dsimp only;refine ζ (seqEpoch_at g2 9 (ζ (listUpdate_at g2 9 ?_ (hsz2:=Nat.le_succ_of_le (osz _ hp)))));rw[hf];simp only[aaN,NQ,aau];exact η (out _ hp)
def CA(b:Bool){l:Addr}{vs:qag}(hl:s.heap.IsList l vs.toArray)(Yu:vs.length<=100000)(ht:∀v∈vs,Tri b s.heap v)(h:∀out:Array Value,out.toList.Perm vs->Q (.ref (8+1)) {s with heap:=sortedAll s.heap vs out}) :
  wpAny 14 A (call (.builtin "sorted") [.ref l]) Q E s:=by
 have n64:vs.length<=sizeLine:=by rw[π];lia
 refine acG kind_sorted plain_sorted entry_sorted (args_sorted1 _) ?_;unfold Builtin.«sorted»;refine ζ (m:=checkCount "sorted" 1 1 _) (η ?_);refine ζ (collect_list hl ?_ n64);have hz:((s.heap.push (seqObj "list" ([].toArray) 0)).update 8 (Obj.mapSeq (·++vs.toArray))).objs.size=8+1:=by rw[Heap.size_update,size_push']
 have old:∀b o,s.heap.get? b\o->(((s.heap.push (seqObj "list" ([].toArray) 0)).update 8 (Obj.mapSeq (·++vs.toArray))).push (seqObj "list" vs.toArray 0)).get? b\o:=λb o e=>by refine dF _ ?_;rw[acD _ _ _ _ (hV (eS e))];exact dF _ e
 refine ζ (aaR ?_ n64);have ho:(((s.heap.push (seqObj "list" ([].toArray) 0)).update 8 (Obj.mapSeq (·++vs.toArray))).push (seqObj "list" vs.toArray 0)).get? (8+1)\seqObj "list" vs.toArray 0:=by rw[<- hz];exact gQ _ 9
 show wpAny _ _ _ _ _ {s with heap:=((s.heap.push (seqObj "list" ([].toArray) 0)).update 8 (Obj.mapSeq (·++vs.toArray))).push (seqObj "list" vs.toArray 0)};rw[hz];have agh:∀g:Heap,(∀b o,b≠8+1->(((s.heap.push (seqObj "list" ([].toArray) 0)).update 8 (Obj.mapSeq (·++vs.toArray))).push (seqObj "list" vs.toArray 0)).get? b\o->g.get? b\o)->∀v∈vs,Tri b g v:=λg hg v hv=>by let(i,x,t1,t2,z,(a,o,n,rfl,e,c,d),tz):=ht v hv;exact#[i,x,t1,t2,z,#[a,o,n,9,hg a o (hV (Bj (eS e))) (old a o e),c,d],tz]
 exact ζ (Ω (υ slot_list_sort #[_,ho,9] entry_list_sort (ad0 b ho Yu (λg hg=>agh g hg) λout hp=>#[_,9,η #[_,9,h out hp]]) (args_list_sort _)))
end
def Tv(b:Bool)(v:V):Prop:=if b=true then ∃y,v=.str y else ∃k,v=.int k
def mZ(b:Bool):dh X (.builtin "sorted") (λxs H Q=>∃(p:Addr)(ws:qak),xs=[.ref p]/\f_ X.K H p ws/\ws.length<=100000/\(∀w∈ws,∃a i x z,w=.ref a/\e_ X.K H a [.int i,.str x,z]/\Tv b z)/\∀zs:qak,zs.Perm ws->∀a,H a=none->Q (.ref a) (upd H a (.lst zs))):=by
 intro ε s σ H xs us Q I r h;let(p,ws,rfl,hq,hl,ht,q):=h;let(u,rfl,ru):=vals1 r;cases ru;let(aR,rv,pl,hz):=I.list hq;have e:=rv.length;refine CA b pl.isList () (λv hv=>?_) λout hp=>?_;let(i,hi,rfl):=YO.mp hv;have hw:ws[i]?\ws[i]'():=eZ _;let(u,hu,ru):=rv.get hw;rw[eZ hi] at hu;cases hu;let(a,j,x,z,eb,hb,hz'):=ht _ (FK (by lia:i<ws.length));rw[eb] at ru;have eu:aR[i]=.ref a:=ru;rw[eu];let(ps,pv,(o,ho,hc,n,hd),_):=I.tuple hb;cases pv with
 |cons r1 pv=>cases pv with
  |cons r2 pv=>cases pv with
   |cons r3 pv=>
    cases pv;let(t1,rfl):=r1;let(t2,rfl):=r2;refine#[j,x,t1,t2,_,#[a,o,n,9,ho,hc,hd],?_];cases b with
    |true=>let(y,rfl):=hz';let(t3,rfl):=r3;exact#[_,_,9]
    |false=>let(y,rfl):=hz';let(t3,rfl):=r3;exact#[_,_,9]
 let(zs,p1,p2):=Hb hp rv;refine zH I p2 ?_ (q zs p1);rw[p1.length_eq];exact hz
def Tt(b:Bool)(t:T):Prop:=if b=true then ∃y,t=.str y else ∃k,t=.int k
def agi(b:Bool)(t:T):Prop:=E3 λi x z=>t=.tup [.int i,.str x,z]/\Tt b z
def Ly(b:Bool)(ts:Λ)(q:qam):Prop:=∃rows:Λ,ts=[.lst rows]/\rows.length<=100000/\(∀t∈rows,agi b t)/\∀zs:Λ,zs.Perm rows->q (.fr (.lst zs))
def o7(b:Bool):my K (λxs H Q=>∃(p:Addr)(ws:qak),xs=[.ref p]/\f_ K H p ws/\ws.length<=100000/\(∀w∈ws,∃a i x z,w=.ref a/\e_ K H a [.int i,.str x,z]/\Tv b z)/\∀zs:qak,zs.Perm ws->∀a,H a=none->Q (.ref a) (upd H a (.lst zs))) (Ly b):=by
 intro Z tm O ρ σ H ts vs q Q I h hp k;let(rows,rfl,hl,hr,hq):=hp;let(v,rfl,a):=dH h;let(p,ws,rfl,hs,hv):=a.lst;have e:=hv.length;refine#[p,ws,9,hs,(),λw hw=>?_,λzs h1 b hb=>?_];let(t,ht,at'):=z8 hv w hw;let(i,x,z,rfl,hz):=hr t ht;let(a,us,rfl,h2,h3):=hW.tup (.inl at');simp only[aD,At] at h3;let(_,_,rfl,rfl,_,_,rfl,rfl,v3,_,rfl,h4,rfl):=h3;refine#[a,i,x,v3,9,h2,?_];cases b with
 |_=>let(y,rfl):=hz;simp only[At] at h4;exact#[y,h4]
 let(us,p1,p2):=Lo h1 hv;exact k _ (hq us p1) _ _ (aI hb) (I.wm hb p2)
end TP
namespace PySem
open Sem (wp)
end PySem
namespace VT
open PySem PySem.Spec PyProof.Rows L2
def Hf(o:Obj)(i:Nat):Addr:=match o.data with
 |.dict es _=>match es[i]? with
  |some e=>match e.key with
   |.ref b=>b
   |_=>0
  |none=>0
 |_=>0
def S8(H:Hp)(a:Addr)(o:Obj)(ks:List (List Key)):Prop:=∃vs:qak,ks.length=vs.length/\H a\.k7 o (.dT (ks.zip vs))
def S8.known(ok:kL P w H h)(z:S8 H a o ks):h.get? a\o/\(a==sysModules)=false/\o.cls=.type "dict"/\∃es ep,o.data=.dict es ep/\es.size=ks.length /\
  ∀(i:Nat)(k:List Key),ks[i]?\k->H (Hf o i)\.tup (k.map kV)/\∃e,es[i]?\e/\e.key=.ref (Hf o i):=by
 let(vs,hl,ha):=z;let(ho,_,hm,xs,hx,o',es,ep,h1,h2,h3,h4,h5):=(show cb P w H h a (.k7 o (.dT (ks.zip vs))) from ok a _ ha);rw[ho] at h1;cases h1;have hz:es.size=ks.length:=by have e1:=R5 hx;rw[NR,hl,R6] at e1;rw[<- FH,h4,bS,hl];exact e1.symm
 refine#[ho,hm,h2.1,es,ep,h3,hz,λi k hk=>?_];have hi:=(c7.mp hk).1;have hv:vs[i]?\vs[i]'():=eZ _;have hp:(ks.zip vs)[i]?\(k,vs[i]'()):=by rw[acH];exact#[hk,hv]
 let(q,hq,e1,e2,e3):=fJ hx hp;have he:es[i]?\entryOfKey (tupleKind (bN P w)) q:=by rw[<- DF,h4,fU,hq];rfl
 have ek:Hf o i=q.2.1:=by unfold Hf;rw[h3];dsimp only;rw[he];rfl
 rw[ek];exact#[e2,_,he,9]
def kT:Key->T
 |.inl i=>.int i
 |.inr x=>.str x
def ktT(k:List Key):T:=.tup (k.map kT)
def ad1{A:qah}(k:Key):At K H A (kT k) (kV k):=by cases k<;>simp only[kT,kV,At]
theorem Lz{K:qaf}{H:Hp}{A:qah}:∀k:List Key,aD K H A (k.map kT) (k.map kV)
 |[]=>aD.nil
 |k::ks=>aD.cons (ad1 k) (Lz ks)
def WB{A:qah}{b:Addr}{k:List Key}(h:H b\.tup (k.map kV)):At K H A (ktT k) (.ref b):=cj (e_.of h) (Lz k)
def S9{A:qah}{ts:Λ}(h:At K H A (.df o ks ts) (.ref a)):S8 H a o ks:=by let(b,vs,e,hl,hd,_):=h;cases e;exact#[vs,hl,hd.1]
section
def xD{t:TS}(h:ko X rest t):ko X rest (λD σ H=>∃a bj,H a\.dT bj/\∀o,t D σ (upd H a (.k7 o (.dT bj)))):=by
 intro ε s σ H D I hq;let(a,bj,ha,k):=hq;let(z,y,xs,r,o,es,ep,h1,h2,h3,h4,h5):=(show cb X.prog X.w H s.heap a (.dT bj) from I.bZ a _ ha);have new:cb X.prog X.w (upd H a (.k7 o (.dT bj))) s.heap a (.k7 o (.dT bj)):=by refine#[h1,z,y,xs,Paired.pL r λp q #[e1,e2,e3]=>#[e1,?_,e3],o,es,ep,h1,h2,h3,h4,h5];rw[aG];exact e2;intro e;rw[e,ha] at e2;cases e2
 have I':Inv X ε σ (upd H a (.k7 o (.dT bj))) {s with heap:=s.heap,toks:=s.toks}:=I.write (by rw[ha];trivial) 5 (λb u _ q=>q) #[o,h1] new;exact h ε s σ _ D I' (k o)
def aB.ice{tm:qab}(I:aB K Z tm O ρ σ H){ts:Λ}(hp:aY Z i)(hi:ρ[i]?\some (.dt ks ts,true)) :
  ∃a vs,H a\.dT (ks.zip vs)/\∀o,aB K Z tm (O.set i none) (ρ.set i (some (.df o ks ts,false))) σ (upd H a (.k7 o (.dT (ks.zip vs)))):=by
 let(o',s,h1,h2,a,rfl,rfl,vs,hl,e0,q0):=I.sl i _ hi;have ha:=aH.mpr (fL h1);have Iu:a∈av Z O:=hY _ ha;let(hP,hx,_):=I.own a ha;refine#[a,vs,e0,λo=>?_];have apart:∀b,b∈roots (O.set i none)->b≠a:=λb hb e=>by
  subst e;let(j,hj):=T4.mp (aH.mp hb);rcases get_set hj with⟨_,z,_⟩|⟨ne,z⟩
  cases z;exact ne (y9 I z h1)
 have nav:a∉av Z (O.set i none):=λz=>by
  rcases fM.mp z with z|z
  exact apart a z 9;exact hx z
 have fw:∀{t:T}{v:V},At K H (av Z O) t v->At K (upd H a (.k7 o (.dT (ks.zip vs)))) (av Z (O.set i none)) t v:=λq=>(At.wrote Iu e0 9 q).bC (cu i);have fwL:∀{t:Λ}{v:qak},aD K H (av Z O) t v->aD K (upd H a (.k7 o (.dT (ks.zip vs)))) (av Z (O.set i none)) t v:=λq=>(aD.wrote Iu e0 9 q).bC (cu i);refine#[by simp[I.lσ],by simp[I.lO],λj e h=>?_,fH _ _ I.nd,λb h=>?_,λp q=>?_,λb h=>?_,λb u e n=>?_,λp q=>fw (I.lj p q)];rcases get_set h with⟨rfl,rfl,Oe⟩|⟨ne,h⟩
 refine#[none,some (.ref a),by rw[DE (by rw[I.lO];exact Oe)],h2,9,.ref a,9,?_];exact#[a,vs,9,hl,#[aK,nav],fwL q0];let(o2,s,g1,g2,g3):=I.sl j e h;refine#[o2,s,by rw[uO (Ne.symm ne)];exact g1,g2,g3.map (λ_ _ q=>fw q) λb t eb q=>?_];subst eb;refine q.map (aG ?_) λ_ _ q=>fwL q;intro e;subst e;exact ne (y9 I g1 h1);let(g1,g2,u,g3,g4):=I.own b (cq i b h);exact#[g1,g2,u,by rw[aG (apart b h)];exact g3,g4];rw[uO (Ne.symm (hp p q))];exact I.par p q;by_cases e:b=a;subst e;exact absurd h hx;rw[aG e];exact I.ox b h;rw[aG];exact I.keep b u e n;intro eb;subst eb;obtain z|z:=hP
 exact n z;rw[z] at e;cases e
def ad2(i:Nat)(g:FS):FS:=λd ρ=>match ρ[i]? with
 |some (some (.dt ks ts,true))=>∀o,g d (ρ.set i (some (.df o ks ts,false)))
 |_=>False
def QA{g:FS}(i:Nat)(hp:aY Z i)(h:ku X Z rest g):ku X Z rest (ad2 i g):=.mk λtm=>ko.mj (xD (h tm)) λD σ H #[ρ,O,d,I,q,F]=>by
 unfold ad2 at q;split at q
 rename_i ks ts e
 let(a,vs,e1,k):=I.ice hp e;exact#[a,_,e1,λo=>#[_,_,d,k o,q o,F]];exact q.elim
end
def z_:Λ->Option (List Key)
 |[]=>some []
 |t::ts=>match PY t,z_ ts with
  |some k,some ks=>some (k::ks)
  |_,_=>none
theorem rV{K:qaf}{H:Hp}{A:qah}:∀{ts:Λ}{vs:qak}{k:List Key},aD K H A ts vs->z_ ts\k->vs=k.map kV
 |[],vs,k,h,e=>by cases e;exact h
 |t::ts,vs,k,h,e=>by
  let(v,r,rfl,h1,h2):=h;simp only[z_] at e;split at e
  rename_i k' ks e1 e2
  cases e;rw[w_ (.inl h1) e1,rV h2 e2];rfl;cases e
section
variable{κ:Type}[DecidableEq κ]
def eA:List κ->List α->κ->Option α
 |k::ks,t::ts,x=>if k=x then some t else eA ks ts x
 |_,_,_=>none
def jM(ks:List κ)(x:κ):Bool:=ks.any λk=>decide (k=x)
def Hg(ks:List κ)(x:κ):List κ:=if jM ks x=true then ks else ks++[x]
def Aa(ks:List κ)(ts:List α)(x:κ)(u:α):List α:=if jM ks x=true then List.zipWith (λk t=>if k=x then u else t) ks ts else ts++[u]
def LA(ts:List α)(x:κ):eA [] ts x=none:=by cases ts<;>rfl
theorem rW:∀(ks:List κ)(vs:qak)(x:κ),jk (ks.zip vs) x=eA ks vs x
 |[],vs,x=>by rw[LA];rfl
 |k::ks,[],x=>rfl
 |k::ks,v::vs,x=>by simp only[eA,T6];by_cases e:k=x;rw[ι e,jA e];rw[θ e,jB e];exact rW ks vs x
theorem qk{K:qaf}{H:Hp}{A:qah}:∀{ks:List κ}{ts:Λ}{vs:qak}{x:κ},aD K H A ts vs->(∀t,eA ks ts x\t->∃v,eA ks vs x\v/\At K H A t v)/\(eA ks ts x=none->eA ks vs x=none)
 |[],ts,vs,x,h=>by refine#[λt e=>?_,λ_=>rfl];cases e
 |k::ks,[],vs,x,h=>by subst h;exact#[λt e=>(by cases e),λ_=>rfl]
 |k::ks,t::ts,vs,x,h=>by let(v,r,rfl,h1,h2):=h;simp only[eA];by_cases e:k=x;rw[ι e,ι e];exact#[λt e=>by cases e;exact#[v,9,h1],λq=>by cases q];rw[θ e,θ e];exact qk h2
def LB(ks:List κ)(vs:qak)(x:κ)(hl:ks.length=vs.length):((ks.zip vs).any λkv=>decide (kv.1=x))=jM ks x:=by
 unfold jM;induction ks generalizing vs with
 |nil=>rfl
 |cons k ks ih=>
  cases vs with
  |nil=>simp at hl
  |cons v vs=>rw[T6,FN,FN,ih vs (by simpa using hl)]
def ad3(ks:List κ)(vs:qak)(x:κ)(v:V):(ks.zip vs).map (λkv=>if kv.1=x then (kv.1,v) else kv)=ks.zip (List.zipWith (λk t=>if k=x then v else t) ks vs):=by
 induction ks generalizing vs with
 |nil=>rfl
 |cons k ks ih=>
  cases vs with
  |nil=>rfl
  |cons u vs=>simp only[T6,kH,acV];rw[ih vs];by_cases e:k=x;rw[ι e,ι e];rw[θ e,θ e]
def LC(ks:List κ)(vs:qak)(x:κ)(v:V)(hl:ks.length=vs.length):L2.putK (ks.zip vs) x v=(Hg ks x).zip (Aa ks vs x v)/\(Hg ks x).length=(Aa ks vs x v).length:=by unfold L2.putK Hg Aa;rw[LB ks vs x hl];by_cases e:jM ks x=true;rw[ι e,ι e,ι e];exact#[ad3 ks vs x v,by simp[hl]];rw[θ e,θ e,θ e];refine#[?_,by simp[hl]];rw[List.zip_append hl];rfl
def CB{A:qah}{ks:List κ}{ts:Λ}{x:κ}{t:T}(h:aD K H A ts vs)(ht:At K H A t v):aD K H A (Aa ks ts x t) (Aa ks vs x v):=by
 unfold Aa;by_cases e:jM ks x=true;rw[ι e,ι e];clear e;induction ks generalizing ts vs with
 |nil=>simp only[List.zipWith_nil_left];exact aD.nil
 |cons k ks ih=>
  cases ts with
  |nil=>subst h;exact aD.nil
  |cons t0 ts=>let(v0,r,rfl,h1,h2):=h;simp only[acV];refine aD.cons ?_ (ih h2);by_cases q:k=x;rw[ι q,ι q];exact ht;rw[θ q,θ q];exact h1
 rw[θ e,θ e];exact h.append (aD.cons ht aD.nil)
def QB{A:qah}{ks:List κ}{ts:Λ}{k:κ}{z:T}{w:V}(h:aD K H A ts vs)(hz:At K H A z w):At K H A ((eA ks ts k).getD z) ((eA ks vs k).getD w):=by
 cases e:eA ks ts k with
 |none=>rw[(qk h).2 e];exact hz
 |some t=>let(v,e1,e2):=(qk h).1 t e;rw[e1];exact e2
end
section
variable{a:Expr}{fc:FE}{pos:Pos}
def WC:FP:=λ_ Q=>Q (.fr (.dt [] []))
def LD:VP X Z (.Dict [] [] pos) WC:=.mk λtm=>PE.weak rp λσ H Q #[ρ,O,q,I,hf,k] p hp=>by refine k _ hf _ _ (aI hp) ?_;let(n1,n2,n3):=I.fresh hp;exact#[p,9,I.new hp 9,#[[],9,aK,aD.nil],n3,n2]
def LF(n:Nat)(f:FE)(g:FA):FS:=λd ρ=>match ρ[n]? with
 |some (some (.dt ks ts,true))=>f ρ λv=>g ρ λys=>match z_ ys with
  |some k=>(ys.length<=sizeLine/\ts.length<16777216)/\d.nx (ρ.set n (some (.dt (Hg ks k) (Aa ks ts k v),true)))
  |none=>False
 |_=>False
theorem LG(n:Nat){f:FE}{x1}{OE:Pos}(hu:X.A.units+1<cLine)(he:VE X Z e f)(hi:VA X Z es g)(hN:X.N[n]?\x:=by rfl)(hv:nJ X.env.scope x:=by exact jvv 9)(hd:gG x:=by decide)(fW:tQ x:=by decide)(hs:swapsWith e (some (.Subscript (.Name x p) (.Tuple es x1 OE) eC)) pos.line X.env=pure false:=by rfl) :
  VS X Z (.Assign [.Subscript (.Name x p) (.Tuple es x1 OE) eC] e pos) (LF n f g):=.mk λtm=>
 PS.weak (w6 hu (cM hN hv hd fW) (qD (hi tm)) (he tm) hs) λD σ H #[ρ,O,d,I,q,F]=>by
  unfold LF at q;split at q
  rename_i ks ts e0
  let(l,h1,h2,xs,hl,h3,h4):=I.root e0;have ha:l∈av Z O:=hY _ (aH.mpr (fL h1));refine#[ρ,O,_,I,q,λt ht v H1 s1 a1=>#[.ref l,h2,ρ,O,_,I.same s1,ht,λys hy ws H2 s2 a2=>?_]];split at hy
  rename_i kk ek
  let((hsz,hlen),hj):=hy;refine#[by rw[a2.length];exact hsz,λp0 hp0=>?_];have s3:aW H2 (upd H2 p0 (.tup ws)):=aI hp0;have h3':=s3 _ _ (s2 _ _ (s1 _ _ h3));have q:=LC ks xs kk v hl;have hz:(ks.zip xs).length<sizeLine:=by
   rw[π,NR,hl,R6,h4.length]
   lia
  have hb:upd H2 p0 (.tup ws) p0\.tup (kk.map kV):=by rw[rV a2 ek];exact aK
  refine#[l,_,9,wY.t h3' hb hz,?_];rw[q.1];refine F.nx O _ σ _ ((((I.same s1).same s2).same s3).wrote (t':=.dt (Hg ks kk) (Aa ks ts kk t)) e0 h1 #[Aa ks xs kk v,q.2,aK,?_]) hj;exact aD.wrote ha h3' 9 (CB (((h4.same s1).same s2).same s3) ((a1.same s2).same s3));exact hy.elim;exact q.elim
end
end VT
namespace PySem
open Sem (wp)
section
variable{es:Array DictEntry}{ok ov:Value}
def kD{v:Addr}(hv:s.heap.IsItemsView v d)(ho:s.heap.get? d\o)(hd:o.data=.dict es ep)(hQ:Q (.ref 8) {s with heap:=s.heap.push {cls:=.type "dict_itemiterator",data:=.fields ([.none,.bool false,.ref d,.int 0 0,.int es.size 0,.int ep 0,.none,.none].toArray)} }):wpAny 14 A (pyIter (.ref v)) Q E s:=by
 let(o2,hov,hcv,hdv):=id hv;refine aaz hv.typeIs F.slot_dict_items_iter (υ F.slot_dict_items_iter hv.typeIs F.entry_dict_items_iter (ζ (η (ζ (ζ (Φ hov hdv 9 (η (ζ (ζ (wpAny_dictEntries ho hd (ζ (wpAny_dictEpoch ho hd ?_))))))))))) (F.args_dict_items_iter_1 _));have own:Builtin.Dict_items.ownsTuple "dict_itemiterator"=true:=by decide
 simp only[own,aaT];refine Δ (η #[_,9,"dict_itemiterator",_,#[_,gQ _ 9,9],YG.lookup,?_]) (by simp[sizeOk,Builtin.Dict_items.ownedTupleFields,π]);simpa[rawInt,Builtin.Dict_items.ownedTupleFields] using hQ
theorem kG{Q:(Option Value)->Shared->Prop}{e:DictEntry}(hit:IsItemIter s.heap it d i es.size ep ok ov)(ho:s.heap.get? d\o)(hd:o.data=.dict es ep)(he:es[i]?\e)(hQ:∀h',IsItemIterOut h' it d (i+1) es.size ep e.key e.val 8->h'.get? 8=some {cls:=.type "tuple",data:=.seq ([e.key,e.val].toArray)}->h'.objs.size=8+1 ->
    (∀b u,b≠it->s.heap.get? b\u->h'.get? b\u)->Q (some (.ref 8)) {s with heap:=h'}):wpAny 14 A (pyNext (.ref it)) Q E s:=by
 let(hp,g,dr,tk,os):=s;have hT:Shared.TypeIs #[hp,g,dr,tk,os] (.ref it) "dict_itemiterator":=#[_,hit,9];refine ζ (aai (ψ hT YG
  (υ YG hT F.entry_dict_itemiterator_next ?_ (F.args_dict_itemiterator_next_1 _))))
 refine ζ (η (ζ (ζ ?_)))
 first|refine ζ (aac hT (η ?_))|refine ζ (aal hT (η ?_))
 refine ζ (aas hit 9 ?_);have own:Builtin.Dict_items.ownsTuple "dict_itemiterator"=true:=by decide
 refine ζ (η (ζ (wpAny_dictEntries ho hd ?_)));rw[θ 6];refine ζ (η (ζ (wpAny_dictEpoch ho hd ?_)));rw[θ 6];refine η ?_;simp only[show ¬ (i<0) from by lia,aau,i_,he];refine ζ ?_
 first|refine ζ (aac hT (η ?_))|refine ζ (aal hT (η ?_))
 refine ζ (aaB hT ?_);show wpAny _ _ (setField (.ref it) 3 (rawInt (i+1)) >>= _) _ _ #[hp,g,dr,tk,os];refine ζ (Ξ hit 6 λh₁ he₁ B6=>?_);have hT₁:Shared.TypeIs #[h₁,g,dr,tk,os] (.ref it) "dict_itemiterator":=#[_,he₁,9];refine ζ (Ω (ζ (aaB hT₁ (ζ (aaB hT₁ (ζ (aaJ ?_)))))));have U6:IsItemIter (h₁.push {cls:=.type "tuple",data:=.seq ([e.key,e.val].toArray)}) it d (i+1) es.size ep ok ov:=dF _ he₁;generalize hh₂:h₁.push {cls:=.type "tuple",data:=.seq ([e.key,e.val].toArray)}=h₂ at U6;have Js:=B6.1;have hil:=eS hit;have ht₂:h₂.get? hp.objs.size=some {cls:=.type "tuple",data:=.seq ([e.key,e.val].toArray)}:=by rw[<- hh₂,<- Js];exact gQ _ 9
 have Yo:h₂.objs.size=hp.objs.size+1:=by rw[<- hh₂,uP,Js]
 have hk₂:∀b u,b≠it->hp.get? b\u->h₂.get? b\u:=λb u hb e=>by rw[<- hh₂];exact dF _ (B6.extBut b u hb e)
 show wpAny _ _ (Builtin.Dict_items.ownedTupleIsFree (.ref it) >>= _) _ _ #[h₂,g,dr,tk,os];rw[Js];refine ζ (ζ (Φ U6 9 9 (η (ζ (Φ U6 9 9 (ζ (Φ U6 9 9 (ζ (Ξ U6 6 λh₃ he₃ Bo=>ζ (Ξ he₃ 6 λh₄ he₄ Iw=>ζ (Ξ he₄ 6 λh₅ he₅ Iy=>ζ (Ξ he₅ 6 λh₆ he₆ hs₆=>?_))))))))))));have Od:=FQ hil;refine ζ (wpAny_letGo (η (η #[_,9,η (hQ h₆ he₆ ?_ ?_ ?_)])));exact hs₆.extBut _ _ Od (Iy.extBut _ _ Od (Iw.extBut _ _ Od (Bo.extBut _ _ Od ht₂)));rw[hs₆.1,Iy.1,Iw.1,Bo.1,Yo];exact λb u hb e=>hs₆.extBut b u hb (Iy.extBut b u hb (Iw.extBut b u hb (Bo.extBut b u hb (hk₂ b u hb e))))
theorem iU{Q:(Option Value)->Shared->Prop}(hh:A.handled=none)(hit:IsItemIter s.heap it d i es.size ep ok ov)(ho:s.heap.get? d\o)(hd:o.data=.dict es ep)(he:es[i]?=none)(hQ:∀h',Heap.ExtBut it s.heap h'->Q none {s with heap:=h'}):wpAny 14 A (pyNext (.ref it)) Q E s:=by
 have hT:s.TypeIs (.ref it) "dict_itemiterator":=#[_,hit,9];refine ζ (aai (ψ hT YG
  (υ YG hT F.entry_dict_itemiterator_next ?_ (F.args_dict_itemiterator_next_1 _))))
 refine ζ (η (ζ (ζ ?_)))
 first|refine ζ (aac hT (η ?_))|refine ζ (aal hT (η ?_))
 refine ζ (aas hit 9 ?_);have own:Builtin.Dict_items.ownsTuple "dict_itemiterator"=true:=by decide
 refine ζ (η (ζ (wpAny_dictEntries ho hd ?_)));rw[θ 6];refine ζ (η (ζ (wpAny_dictEpoch ho hd ?_)));rw[θ 6];refine η ?_;simp only[show ¬ (i<0) from by lia,aau,i_,he];refine ζ ?_
 first|refine ζ (aac hT (η ?_))|refine ζ (aal hT (η ?_))
 show wpAny _ _ (setField (.ref it) 2 .none >>= _) _ _ s;refine ζ (aaf hit 9 6 (ζ (ζ (m:=firstArgMember _ _) (aaM (by first|rfl|(simp only[firstArgMember];rfl)) (Δ (ζ (aaO ?_)) (by size_fits))))));rw[show A.in1.handled=none from hh];refine ζ (η (wpAny_throw ?_));refine ζ (aaC #[_,gQ _ 9,9] aaK ?_);exact η (hQ _ (((IH ..).extBut.push _).push _))
end
end PySem
namespace VT
open PySem PySem.Spec PyProof.Rows L2
def LH(a d:Addr):HO:=.ext λh=>h.get? a=some {cls:=.type "dict_items",data:=.fields ([.ref d].toArray)}
def Iti(a:Addr)(o:Obj)(ks:List (List Key)):It :=
 #[λi H=>S8 H a o ks/\i<ks.length,λi H x H'=>∃k v p vs,ks[i]?\k/\ks.length=vs.length/\H a\.k7 o (.dT (ks.zip vs))/\vs[i]?\v/\H (Hf o i)\.tup (k.map kV)/\H p=none/\x=.ref p/\H'=upd H p (.tup [.ref (Hf o i),v]),λi H=>S8 H a o ks/\ks.length=i]
def S8.entry{es:Array DictEntry}(ok:kL P w H h)(z:S8 H a o ks)(hd:o.data=.dict es ep)(hi:i<ks.length) :
  ∃k v vs e,ks[i]?\k/\ks.length=vs.length/\H a\.k7 o (.dT (ks.zip vs))/\vs[i]?\v/\H (Hf o i)\.tup (k.map kV)/\es[i]?\e/\e.key=.ref (Hf o i)/\RelV v e.val:=by
 let(vs,hl,ha):=z;let(ho,_,hm,xs,hx,o',uR,Y5,h1,h2,h3,h4,h5):=(show cb P w H h a (.k7 o (.dT (ks.zip vs))) from ok a _ ha);rw[ho] at h1;cases h1;rw[hd] at h3;cases h3;have hv:vs[i]?\vs[i]'():=eZ _;have hk:=eZ hi;have hp:(ks.zip vs)[i]?\(ks[i],vs[i]'()):=by rw[acH];exact#[hk,hv]
 let(q,hq,e1,e2,e3):=fJ hx hp;have he:es[i]?\entryOfKey (tupleKind (bN P w)) q:=by rw[<- DF,h4,fU,hq];rfl
 have ek:Hf o i=q.2.1:=by unfold Hf;rw[hd];dsimp only;rw[he];rfl
 exact#[ks[i],vs[i]'(),vs,_,hk,hl,ha,hv,by rw[ek];exact e2,he,by rw[ek];rfl,e3]
def CC{x1}{es:Array DictEntry}(ks:List (List Key))(a it:Addr)(hd:o.data=.dict es ep) :
  Turn P w K (.Tuple elts x1 tp) (Iti a o ks) [it] it (λi h=>∃ok ov,IsItemIter h it a i es.size ep ok ov) where
 mem:=by simp
 obj:=λi h st b hb=>by
  have e:b=it:=by simpa using hb
  subst e;let(ok,ov,st):=st;exact#[_,st,λv z=>by cases z]
 keep:=λi h h' #[ok,ov,st] k=>#[ok,ov,k it 6 _ st]
 item:=by
  intro X hP hw hK hc i ε s σ H E I hf st hg;let(ok,ov,st):=st;let(ha,hi):=hg;let(ho,_,_,_):=ha.known I.bZ;let(k,v,vs,e,hk,hl,hH,hv,hb,he,ek,rv):=ha.entry I.bZ hd hi;refine kG st ho hd he λh' bp tup sz old=>#[_,9,wpAny_letOwnedTupleGo_items bp λh2 vX sb=>?_];have sb':=sb;have di:=eS st;have Od:=FQ di;have kk:∀b ob,b∉[it]->s.heap.get? b\ob->h2.get? b\ob:=λb ob hb q=>by have ZV:b≠it:=λz=>hb (by simp[z]);exact (sb'.2 b ZV).trans (old b ob ZV q)
  have new:cb X.prog X.w (upd H 8 (.tup [.ref (Hf o i),v])) h2 8 (.tup [.ref (Hf o i),v]) :=
   #[by show 2<=sizeLine;rw[π];decide,[e.key,e.val],.cons (by rw[ek];rfl) (.cons rv .nil),#[_,(sb'.2 _ Od).trans tup,9,_,9]]
  refine#[.ref 8,_,I.grown kk hf (cL _) new,9,#[k,v,_,vs,hk,hl,hH,hv,hb,I.fresh,9,9],#[_,_,vX],λb hb=>?_];have e:b=it:=by simpa using hb
  subst e;rw[aG (hV di)];exact (hf b hb).1
 done:=by intro X hP hw hK hc i ε s σ H E I hf st hg;let(ok,ov,st):=st;let(ha,hi):=hg;let(ho,_,_,uR,Y5,h3,hz,hk):=ha.known I.bZ;rw[hd] at h3;cases h3;let(f0,f1,f2,f3,f4,f5):=hf it 6;exact iU (I.ok.hd hc) st ho hd (acU ()) λh' eb=>#[9,I.turned (λb o hb e=>eb b o hb e) f0 f1 f3 f4 f5]
 self:=λA i s Q E #[ok,ov,st] h=>W.kcp_self st h
def WD(tl:TE):TI:=λσ H R=>tl σ H λx H1=>E3 λa o ks=>x=.ref a/\S8 H1 a o ks/\∀p,H1 p=none->R (Iti a o ks) (upd H1 p (LH p a))
def LI{x1}{l:Expr}{tl:TE}(hl:PE X l tl)(du:attributeBase l "items" X.env (eval l X.env)=eval l X.env:=by rfl)(dw:(apos.endLine==bM.line)=true:=by rfl) :
  PI X (.Tuple elts x1 tp) (.Call (.Attribute l "items" apos) [] [] bM) (WD tl):=by
 intro ε s σ H R I h;refine wpAny_Call_method0_late du dw (cT (hl ε s σ H _ I h) λv s1 #[x,H1,I1,r1,d,o,ks,e,hz,q1]=>?_);subst e;obtain rfl:=r1;let(ho,hm,hc,es,ep,h3,hz',hk):=hz.known I1.bZ;have hD:IsD H1 d:=.inr (let #[vs,_,e]:=hz;#[_,.inr #[o,e]]);let(t1,t2,_):=KI I1 hD;refine#["dict","dict.items",YK,PySem.F.slot_dict_items,PySem.F.type_dict_items,t1,t2,YL 9 (PySem.evalArgs_none (υ PySem.F.slot_dict_items t1 PySem.F.entry_dict_items (ζ (ζ (wpAny_notOrdered_dict t1 (η ?_)))) (PySem.F.args_dict_items_1 _)))];unfold Builtin.Dict.showsAll;rw[θ (by rw[hm];exact iC)];refine ζ (η (ζ (Δ (η #[_,9,?_]))));have I2:Inv X ε σ (upd H1 s1.heap.objs.size (LH s1.heap.objs.size d)) {s1 with heap:=s1.heap.push {cls:=.type "dict_items",data:=.fields ([.ref d].toArray)} } :=
  I1.laid (λb o e=>dF _ e) (cL _) #[gQ _ 9,#[_,gQ _ 9],λh1 h2 z k=>k _ z]
 refine kD #[_,gQ _ 9,9,9] (dF _ ho) h3 ?_;refine#[_,[(s1.heap.push {cls:=.type "dict_items",data:=.fields ([.ref d].toArray)}).objs.size],_,_,_,9,I2.kept λb o e=>dF _ e,CC ks d _ h3,#[.none,.none,gQ _ 9],λb hb=>?_,q1 _ I1.fresh];have e:b=(s1.heap.push {cls:=.type "dict_items",data:=.fields ([.ref d].toArray)}).objs.size:=by simpa using hb
 subst e;exact I2.qB (cL _) (I2.bZ.fresh (cL _))
def WE(p:List Key×T):T:=.tup [ktT p.1,p.2]
def LJ{ts:Λ}(hl:ks.length=ts.length):Wk K (Iti a o ks) [(.df o ks ts,.ref a)] ((ks.zip ts).map WE):=λH A hA h i=>by
 have hs:=h _ iz;have z:=S9 hs;have ez:((ks.zip ts).map WE).length=ks.length:=by rw[bS,NR,hl,R6]
 rw[ez];refine#[λhi=>#[z,hi],λhi=>#[z,hi],λt ht x H' y=>?_];let(k,v,p,vs,hk,hv,hH,hvi,hb,hp,rfl,rfl):=y;let(b,lu,e,Oe,hd,hq):=hs;cases e;have e1:=hd.1;rw[hH] at e1;have e2:ks.zip vs=ks.zip lu:=by injection e1 with e1;injection e1 with _ e1;injection e1
 have e3:lu=vs:=by have:=aaa (List.map Prod.snd) e2;rw[List.map_snd_zip (),List.map_snd_zip ()] at this;exact this.symm
 subst e3;have hi:=(c7.mp hk).1;have hti:ts[i]?\ts[i]'():=eZ _;rw[fU,show (ks.zip ts)[i]?\(k,ts[i]'()) from by rw[acH];exact#[hk,hti]] at ht;cases ht;let(v',g1,g2):=hq.get hti;rw[hvi] at g1;cases g1;have s:aW H (upd H p (.tup [.ref (Hf o i),v])):=aI hp;exact#[s,cj (e_.of aK) (aD.cons ((WB hb).same s) (aD.cons (g2.same s) aD.nil))]
section
variable{l:Expr}
def WG(f:FE):FI:=λρ Q=>f ρ λt=>match t with
 |.df _ ks ts=>ks.length=ts.length/\Q ((ks.zip ts).map WE)
 |_=>False
def Ab{f:FE}{x1}(h:VE X Z l f)(du:attributeBase l "items" X.env (eval l X.env)=eval l X.env:=by rfl)(dw:(apos.endLine==bM.line)=true:=by rfl) :
  VI X Z (.Tuple elts x1 tp) (.Call (.Attribute l "items" apos) [] [] bM) (WG f):=.mk λtm=>PI.weak (LI (h tm) du dw) λσ H R #[ρ,O,q,I,hf,k]=>#[ρ,O,_,I,hf,λt ht v H' s a=>by
 cases t with
 |df o ks ts=>
   obtain⟨b,rfl⟩:∃b,v=.ref b:=by simp only[At] at a;let(b,_,e,_):=a;exact#[b,e]
   refine#[b,o,ks,9,S9 a,λp hp=>?_];have s2:aW H' (upd H' p (LH p b)):=aI hp;exact k _ ht.2 _ _ [(.df o ks ts,.ref b)] (s.trans s2) (λp hp=>by rw[fE.mp hp];exact a.same s2) (LJ ht.1)
 |_=>exact ht.elim]
end
structure MG where
 a:Addr
 dx:Addr
 a1:Addr
 a2:Addr
 C:Addr
 H0:Hp
 n1:a≠a1
 n2:a≠a2
 n3:a1≠a2
 hb:Bool
def MG.Ox(M:MG):qah:=if M.hb=true then [M.a,M.a1,M.a2] else [M.a1,M.a2]
def MG.m1(M:MG):M.a1∈M.Ox:=by unfold MG.Ox;split<;>simp
def MG.m2(M:MG):M.a2∈M.Ox:=by unfold MG.Ox;split<;>simp
def MG.mem(M:MG){b:Addr}(h:b∈M.Ox):(M.hb=true/\b=M.a)\/b=M.a1\/b=M.a2:=by
 unfold MG.Ox at h;split at h
 rename_i z
 simp only[dQ,gR,aah] at h;exact h.elim (λe=>.inl #[z,e]) .inr;simp only[dQ,gR,aah] at h;exact .inr h
structure S2 where
 k1:List (List Key)
 t1:Λ
 k2:List (List Key)
 t2:Λ
abbrev fN:χ:=["names","cells"]
def WH(K:qaf)(H:Hp)(A:qah)(a:Addr)(ks:List (List Key))(ts:Λ):Prop:=∃vs,ks.length=vs.length/\H a\.dT (ks.zip vs)/\aD K H A ts vs
structure SD(K:qaf)(M:MG)(s:S2)(H:Hp):Prop where
 ins:M.hb=true->H M.a\.ins M.C M.dx (fN.zip [.ref M.a1,.ref M.a2])
 d1:WH K H M.Ox M.a1 s.k1 s.t1
 d2:WH K H M.Ox M.a2 s.k2 s.t2
 fr:∀b o,M.H0 b\o->b∉M.Ox->H b\o
structure SG(K:qaf)(M:MG)(tm:qab)(ρ:En)(s:S2)(σ:St)(H:Hp):Prop where
 env:∃O,roots O=[]/\aB K #[H,[],M.Ox] tm O ρ σ H
 sd:SD K M s H
section
variable{M:MG}{tm:qab}{s:S2}
def WH.same{A:qah}{ts:Λ}(h:WH K H A a ks ts)(sm:aW H H'):WH K H' A a ks ts:=let #[vs,l,e,q]:=h;#[vs,l,sm _ _ e,q.same sm]
def SD.same(h:SD K M s H)(sm:aW H H'):SD K M s H':=#[λz=>sm _ _ (h.ins z),h.d1.same sm,h.d2.same sm,λb o e n=>sm _ _ (h.fr b o e n)]
def SD.here(h:SD K M s H):∀b∈M.Ox,∃u,H b\u/\pP u=true:=λb hb=>by
 let(v1,_,e1,_):=h.d1;let(v2,_,e2,_):=h.d2;rcases M.mem hb with⟨z,rfl⟩|rfl|rfl
 exact#[_,h.ins z,9];exact#[_,e1,9];exact#[_,e2,9]
def je(h:roots O=[]):av Z O=Z.Ox:=by unfold av;rw[h];rfl
def lL(ρ:En):Bool:=ρ.all λe=>match e with
 |some (_,true)=>false
 |_=>true
def xE(I:aB K Z tm O ρ σ H)(h:lL ρ=true):roots O=[]:=by
 cases q:roots O with
 |nil=>rfl
 |cons a l=>
  exfalso;have ha:=aH.mp (by rw[q];exact iz);let(i,hi):=T4.mp ha;have hl:i<ρ.length:=by rw[<- I.lO];exact (c7.mp hi).1
  have he:=eZ hl;let(o,s,h1,h2,h3):=I.sl i _ he;rw[hi] at h1;cases h1;have hv:=R3.mp h ρ[i] (FK hl);revert h3 hv
  match ρ[i] with
  |none=>intro h3 _;cases h3
  |some (t,false)=>intro h3 _;exact nomatch h3.1
  |some (t,true)=>intro _ hv;cases hv
def aB.now(I:aB K Z tm O ρ σ H)(h:roots O=[]):aB K #[H,[],Z.Ox] tm O ρ σ H:=#[I.lσ,I.lO,I.sl,I.nd,λa ha=>(by rw[h] at ha;exact absurd ha gR),λp hp=>absurd hp gR,I.ox,λb o e _=>e,I.lj]
def SG.of(hZ:Z=#[H,[],M.Ox]){ρ':En}{σ':St}(d:SD K M s H)(I:aB K Z tm O ρ' σ' H')(hv:lL ρ'=true):SG K M tm ρ' s σ' H':=by subst hZ;exact#[#[O,xE I hv,I.now (xE I hv)],d.same λb o e=>I.keep b o e (λz=>absurd z gR)]
def o8(M:MG)(s:S2):Option (T×Bool)->Option (T×Bool)
 |some (.ob x,false)=>if x=M.a1 then some (.dt s.k1 s.t1,false) else if x=M.a2 then some (.dt s.k2 s.t2,false) else if x=M.a/\M.hb=true then some (.ins M.C fN [.pin M.a1 (.dt s.k1 s.t1),.pin M.a2 (.dt s.k2 s.t2)],false) else some (.ob x,false)
 |e=>e
def agj(M:MG)(s:S2)(z:M.hb=true):o8 M s (some (.ob M.a,false))\(.ins M.C fN [.pin M.a1 (.dt s.k1 s.t1),.pin M.a2 (.dt s.k2 s.t2)],false):=by show (if M.a=M.a1 then _ else _)=_;rw[θ M.n1,θ M.n2,ι #[9,z]]
def agk(M:MG)(s:S2):o8 M s (some (.ob M.a1,false))\(.dt s.k1 s.t1,false):=by show (if M.a1=M.a1 then _ else _)=_;rw[ι 9]
def o9(b:Option T):Option (T×Bool):=b.map λt=>(t,false)
def rX:lL []=true:=rfl
def CD(b:Option T)(ρ:En):lL (o9 b::ρ)=lL ρ:=by cases b<;>rfl
def CG(t:T)(ρ:En):lL (some (t,false)::ρ)=lL ρ:=rfl
def WH.at{A:qah}{ts:Λ}(h:WH K H A a ks ts):At K H [] (.dt ks ts) (.ref a):=by let(vs,l,e,q):=h;exact#[a,vs,9,l,#[e,λz=>nomatch z],q.bC λb hb=>nomatch hb]
def SD.at(h:SD K M s H)(z:M.hb=true):At K H [] (.ins M.C fN [.pin M.a1 (.dt s.k1 s.t1),.pin M.a2 (.dt s.k2 s.t2)]) (.ref M.a):=by refine#[M.a,M.dx,[.ref M.a1,.ref M.a2],9,9,#[h.ins z,λz=>nomatch z],aD.cons ?_ (aD.cons ?_ aD.nil)];unfold At;exact#[9,h.d1.at];unfold At;exact#[9,h.d2.at]
def SG.up(g:SG K M tm ρ s σ H):∃O,roots O=[]/\aB K #[H,[],[]] tm O (ρ.map (o8 M s)) σ H:=by
 let(O,hr,I):=g.env;refine#[O,hr,#[by rw[bS];exact I.lσ,by rw[bS];exact I.lO,λi e he=>?_,I.nd,λa ha=>(by rw[hr] at ha;exact absurd ha gR),λp hp=>absurd hp gR,λa ha=>absurd ha gR,λb o e _=>e,λp hp=>?_]];have e0:av #[H,[],[]] O=[]:=je hr;rw[fU] at he;cases q:ρ[i]? with
 |none=>rw[q] at he;cases he
 |some e1=>
  rw[q] at he;cases he;let(o,sv,h1,h2,h3):=I.sl i e1 q;refine#[o,sv,h1,h2,?_];rw[e0];have plain:lh K H [] e1 o sv:=by refine h3.map (λt v z=>z.bC λb hb=>nomatch hb) λa t eo _=>?_;subst eo;have:=aH.mpr (fL h1);rw[hr] at this;exact nomatch this
  match e1,h3,plain with
  |some (.ob x,false),#[eo,v,es,av'],plain=>subst av';show lh K H [] (if x=M.a1 then _ else _) o sv;by_cases c1:x=M.a1;rw[ι c1];subst c1;exact#[eo,_,es,g.sd.d1.at];rw[θ c1];by_cases c2:x=M.a2;rw[ι c2];subst c2;exact#[eo,_,es,g.sd.d2.at];rw[θ c2];by_cases c3:x=M.a/\M.hb=true;rw[ι c3];let(rfl,c4):=c3;exact#[eo,_,es,g.sd.at c4];rw[θ c3];exact plain
  |none,_,plain=>exact plain
  |some (t,true),_,plain=>
   have:o8 M s (some (t,true))\(t,true):=by cases t<;>rfl
   rw[this];exact plain
  |some (.bY,false),_,plain=>exact plain
  |some (.bl _,false),_,plain=>exact plain
  |some (.int _,false),_,plain=>exact plain
  |some (.str _,false),_,plain=>exact plain
  |some (.tup _,false),_,plain=>exact plain
  |some (.lst _,false),_,plain=>exact plain
  |some (.dk _ _,false),_,plain=>exact plain
  |some (.dt _ _,false),_,plain=>exact plain
  |some (.df _ _ _,false),_,plain=>exact plain
  |some (.kt _,false),_,plain=>exact plain
  |some (.ins _ _ _,false),_,plain=>exact plain
  |some (.pin _ _,false),_,plain=>exact plain
  |some (.ty _,false),_,plain=>exact plain
 rw[je hr];exact (I.lj p hp).bC λb hb=>nomatch hb
end
structure LK where
 nx:En->S2->Prop
 rt:S2->T->Prop
 bk:En->S2->Prop:=λ_ _=>False
 ct:En->S2->Prop:=λ_ _=>False
structure LL(K:qaf)(M:MG)(tm:qab)(d:LK)(D:Ends):Prop where
 nx:∀ρ s σ H,SG K M tm ρ s σ H->d.nx ρ s->D.nx σ H
 rt:∀s H t v,SD K M s H->At K H M.Ox t v->d.rt s t->D.rt v H
 bk:∀ρ s σ H,SG K M tm ρ s σ H->d.bk ρ s->D.bk σ H
 ct:∀ρ s σ H,SG K M tm ρ s σ H->d.ct ρ s->D.ct σ H
abbrev rY:=LK->En->S2->Prop
def lGS(X:Cx)(M:MG)(tm:qab)(g:rY):TS:=λD σ H=>∃ρ s d,SG X.K M tm ρ s σ H/\g d ρ s/\LL X.K M tm d D
def GS(X:Cx)(M:MG)(st:Stmt)(g:rY):Prop:=Bx λtm=>PS X st (lGS X M tm g)
def QC(X:Cx)(M:MG)(st:qaq)(g:rY):Prop:=Bx λtm=>ko X st (lGS X M tm g)
section
variable{M:MG}{st:Stmt}{g u:rY}{pos:Pos}
def ad4:rY:=λd ρ s=>d.nx ρ s
def agl(g u:rY):rY:=λd ρ s=>g {d with nx:=u d} ρ s
def QD:QC X M [] ad4:=.mk λtm=>ko.mj DM λD σ H #[ρ,s,d,I,h,F]=>F.nx ρ s σ H I h
def m3(h1:GS X M st g)(h2:QC X M rest u):QC X M (st::rest) (agl g u):=.mk λtm=>ko.mj (jm (h1.h tm) (h2.h tm)) λD σ H #[ρ,s,d,I,h,F] =>
 #[ρ,s,{d with nx:=u d},I,h,#[λρ' s' σ' H' I' h'=>#[ρ',s',d,I',h',F],F.rt,F.bk,F.ct]]
def ql(h1:GS X M st g):QC X M [st] g:=.mk λtm=>l8 (h1.h tm)
def ad5(d:LK)(s:S2):Su:={nx:=λρ'=>lL ρ'=true/\d.nx ρ' s,rt:=λρ' r=>lL ρ'=true/\d.rt s r.t,bk:=λρ'=>lL ρ'=true/\d.bk ρ' s,ct:=λρ'=>lL ρ'=true/\d.ct ρ' s}
def wPl(g:FS):rY:=λd ρ s=>g (ad5 d s) ρ
def ad6{tm:qab}{d:LK}{D:Ends}{s:S2}(F:LL K M tm d D)(sd:SD K M s H):Fin K #[H,[],M.Ox] tm (ad5 d s) D :=
 #[λO ρ σ H' I h=>F.nx ρ s σ H' (SG.of 9 sd I h.1) h.2,λO ρ σ H' r v z h=>by have I:=z.env;have hr:=xE I h.1;have a:=z.at;rw[je hr] at a;exact F.rt s H' r.t v (sd.same λb o e=>I.keep b o e (λq=>absurd q gR)) a h.2,λO ρ σ H' I h=>F.bk ρ s σ H' (SG.of 9 sd I h.1) h.2,λO ρ σ H' I h=>F.ct ρ s σ H' (SG.of 9 sd I h.1) h.2]
def Ac{g:FS}(h:∀H0 Ox,VS X #[H0,[],Ox] st g):GS X M st (wPl g):=.mk λtm ε s' σ H D J #[ρ,s,d,S,hg,F]=>by let(O,hr,I):=S.env;exact h H M.Ox tm ε s' σ H D J #[ρ,O,_,I,hg,ad6 F S.sd]
def wIf(c:FB)(g u:rY):rY:=λd ρ s=>c ρ λb=>if b=true then g d ρ s else u d ρ s
def SG.jN{tm:qab}{s:S2}(S:SG K M tm ρ s σ H)(sm:aW H H'):SG K M tm ρ s σ H':=by let(O,hr,I):=S.env;exact#[#[O,hr,(I.same sm).now hr],S.sd.same sm]
theorem ad7{fc:FB}{a b:qaq}(hc:∀H0 Ox,VC X #[H0,[],Ox] c fc)(ha:QC X M a g)(hb:QC X M b u):GS X M (.If c a b pos) (wIf fc g u):=.mk λtm ε s' σ H D J #[ρ,s,d,S,hg,F]=>by
 let(O,hr,I):=S.env;refine R_ (hc H M.Ox tm) (ha.h tm) (hb.h tm) ε s' σ H D J #[ρ,O,_,I,hg,λb hb H' sm=>?_];cases b with
 |true=>rw[ι 9] at hb ⊢;exact#[ρ,s,d,S.jN sm,hb,F]
 |false=>rw[θ iC] at hb ⊢;exact#[ρ,s,d,S.jN sm,hb,F]
def o_(t:T):Prop:=(∃n,t=.int n)\/∃b,t=.bl b
def LM(M:MG)(i:Nat)(f:FE):rY:=λd ρ s=>f (ρ.map (o8 M s)) λt=>o_ t/\d.nx (ρ.set i (some (t,false))) s
def rZ{A A':qah}{t:T}(h:o_ t)(a:At K H A t v):At K H' A' t v:=by
 obtain⟨n,rfl⟩|⟨b,rfl⟩:=h
 simp only[At] at a ⊢;exact a;simp only[At] at a ⊢;exact a
def LN{f:FE}(hN:X.N.Nodup)(hi:X.N[i]?\x)(hx:Loc X.env.scope x)(he:∀H0 Ox,VE X #[H0,[],Ox] e f)(hs:swapsWith e (some (.Name x pos')) pos.line X.env=pure false:=by rfl)(hf:X.fn x=true\/X.env.scope.names.lookup x\.local:=by first|exact .inl rfl|exact .inr rfl|assumption):GS X M (.Assign [.Name x pos'] e pos) (LM M i f):=.mk λtm ε s' σ H D J #[ρ,s,d,S,hg,F]=>by
 let(O2,pU,I2):=S.up;refine vW hN hi hx (he H [] tm) hs hf ε s' σ H D J #[_,O2,_,I2,hg,λt ht v H' sm a=>?_];have S':=S.jN sm;let(O3,hr3,I3):=S'.env;refine F.nx _ s _ H' #[#[O3.set i none,?_,?_],S'.sd] ht.2;cases q:roots (O3.set i none) with
 |nil=>rfl
 |cons b l=>have:=cq i b (by rw[q];exact iz);rw[hr3] at this;exact absurd this gR
 exact I3.put (λp hp=>absurd hp gR) (rZ ht.1 a)
def S2.Hh(s:S2)(k:List Key)(t:T):S2:={s with k1:=Hg s.k1 k,t1:=Aa s.k1 s.t1 k t}
def S_(M:MG)(n m:Nat)(f:FE):rY:=λd ρ s=>f (ρ.map (o8 M s)) λt=>o_ t/\ρ[n]?\some (.ob M.a1,false)/\s.t1.length<16777216/\∃k,ρ[m]?\some (.kt k,false)/\d.nx ρ (s.Hh k t)
theorem Hi{tm:qab}{s:S2}{H1:Hp}{A:qah}{D:Ends}{d:LK}{t:T}{k:List Key}(S1:SG X.K M tm ρ s σ H1)(F:LL X.K M tm d D)(WI:o_ t)(a:At X.K H' A t v)(hn:ρ[n]?\some (.ob M.a1,false))(hlen:s.t1.length<16777216)(hk:ρ[m]?\some (.kt k,false))(hq:d.nx ρ (s.Hh k t)) :
  IS n σ H1 λx H2=>IS m σ H2 λy H3=>∃a H4,x=.ref a/\wY H3 a y v H4/\D.nx σ H4:=by
 let(O1,EK,I1):=S1.env;let(_,_,_,z1,_,v1,rfl,b1):=I1.sl n _ hn;let(_,_,_,z2,_,v2,rfl,b2):=I1.sl m _ hk;subst b1;let(b,rfl,hb,_):=b2;let(vs,hl,h1,h2):=S1.sd.d1;have hz:(s.k1.zip vs).length<sizeLine:=by
  rw[π,NR,hl,R6,h2.length]
  lia
 have pq:=LC s.k1 vs k v hl;refine#[.ref M.a1,z1,.ref b,z2,M.a1,_,9,wY.t h1 hb hz,?_];rw[pq.1];have N1:=M.m1;have wr:∀{t:T}{v':V},At X.K H1 M.Ox t v'->At X.K (upd H1 M.a1 (.dT ((Hg s.k1 k).zip (Aa s.k1 vs k v)))) M.Ox t v':=λq=>At.wrote N1 h1 9 q;have wrL:∀{t:Λ}{v':qak},aD X.K H1 M.Ox t v'->aD X.K (upd H1 M.a1 (.dT ((Hg s.k1 k).zip (Aa s.k1 vs k v)))) M.Ox t v':=λq=>aD.wrote N1 h1 9 q;have na:=M.n1;refine F.nx ρ (s.Hh k t) σ _ #[#[O1,EK,I1.lσ,I1.lO,λi e he=>?_,I1.nd,λb hb=>(by rw[EK] at hb;exact absurd hb gR),λp hp=>absurd hp gR,λb hb=>?_,λb o e _=>e,λp hp=>?_],?_,?_,?_,λb o e n=>(by rw[aG (λz=>n (by rw[z];exact N1))];exact S1.sd.fr b o e n)] hq;let(o,sv,g1,g2,g3):=I1.sl i e he;refine#[o,sv,g1,g2,?_];rw[je EK] at g3 ⊢;refine g3.map (λt v z=>wr z) λb t' eo _=>?_;subst eo;have:=aH.mpr (fL g1);rw[EK] at this;exact absurd this gR;by_cases e:b=M.a1;rw[e,aK];simp;rw[aG e];let(u,eu,_):=S1.sd.here b hb;rw[eu];simp;have:=I1.lj p hp;rw[je EK] at this ⊢;exact wr this;exact λz=>by rw[aG na];exact S1.sd.ins z
 exact#[_,pq.2,aK,wrL (CB h2 (rZ WI a))];let(LO,l2,e2,q2):=S1.sd.d2;exact#[LO,l2,by rw[aG (Ne.symm M.n3)];exact e2,wrL q2]
def QE(n m:Nat){y:Str}{f:FE}(hu:X.A.units+1<cLine)(he:∀H0 Ox,VE X #[H0,[],Ox] e f)(hN:X.N[n]?\x:=by rfl)(hv:nJ X.env.scope x:=by exact jvv 9)(hd:gG x:=by decide)(fW:tQ x:=by decide)(Yw:X.N[m]?\y:=by rfl)(Yx:nJ X.env.scope y:=by exact jvv 9)(hd2:gG y:=by decide)(Ad:tQ y:=by decide)(hs:swapsWith e (some (.Subscript (.Name x p) (.Name y p2) eC)) pos.line X.env=pure false:=by rfl):GS X M (.Assign [.Subscript (.Name x p) (.Name y p2) eC] e pos) (S_ M n m f):=.mk λtm ε s' σ H D J #[ρ,s,d,S,hg,F]=>by let(O2,pU,I2):=S.up;refine w6 hu (cM hN hv hd fW) (cM Yw Yx hd2 Ad) (he H [] tm) hs ε s' σ H D J #[_,O2,_,I2,hg,λt ht v H1 sm a=>?_];let(WI,hn,hlen,k,hk,hq):=ht;exact Hi (S.jN sm) F WI a hn hlen hk hq
def LP(ts:Λ)(h:FG)(g:rY):rY:=λd ρ s=>∃Pv:Nat->En->S2->Prop,Pv 0 ρ s/\(∀(i:Nat) t ρ' s',ts[i]?\t->Pv i ρ' s'->h t ρ' λρ2=>lL ρ2=true/\g {nx:=Pv (i+1),ct:=Pv (i+1),bk:=d.nx,rt:=d.rt} ρ2 s')/\∀ρ' s',Pv ts.length ρ' s'->d.nx ρ' s'
theorem vA{is:qao}{h:FG}{tm bu:qab}{s:S2}{d:LK}{D:Ends}{ts:Λ}{J:It}(hK:X.K=K)(S:SG K M (bu++tm) ρ s σ H)(wk:Wk K J bu ts)(F:LL K M tm d D)(hl:LP ts h g d ρ s) :
  ∃W:Nat->Nat->St->Hp->Prop,(∃m,W 0 m σ H)/\∀i m σ H,W i m σ H->(J.stop i H/\D.nx σ H)\/(J.go i H/\∃N:St->Hp->Prop,(∀σ' H',N σ' H'->∃m',m'<m/\W (i+1) m' σ' H') /\
   ∀x H',J.Yd i H x H'->(∃bu H0,lG X #[H0,[],M.Ox] (bu++tm) is h x σ H' λσ2 H2=>(∃bu,lGS X M (bu++tm) g {D with nx:=N,ct:=N,bk:=D.nx} σ2 H2))):=by
 subst hK;let(Pv,p0,step,fin):=hl;have un:∀{ρ:En}{s:S2}{σ:St}{H:Hp},SG X.K M (bu++tm) ρ s σ H->SG X.K M tm ρ s σ H:=λ#[#[O,hr,I],sd]=>#[#[O,hr,I.pQ λp hp=>I.lj p (jZ _ hp)],sd];refine#[λi m σ H=>m=ts.length-i/\i<=ts.length/\∃ρ s,SG X.K M (bu++tm) ρ s σ H/\Pv i ρ s,#[ts.length,by simp,fB _,ρ,s,S,p0],?_];rintro i m σ1 H1 ⟨rfl,hi,ρ1,s1,S1,p1⟩;let(O1,EK,I1):=S1.env;let(w1,w2,w3):=wk H1 M.Ox (λa ha=>by let(u,e,_):=S1.sd.here a ha;rw[e];simp) (λp hp=>by have:=I1.lj p (hY _ hp);rw[je EK] at this;exact this) i;by_cases di:i<ts.length;refine .inr #[w1 di,λσ' H'=>∃ρ s,SG X.K M (bu++tm) ρ s σ' H'/\Pv (i+1) ρ s,λσ' H' #[ρ',s',S',p']=>#[ts.length-(i+1),(),9,di,ρ',s',S',p'],λx H2 y=>?_];have e:ts[i]?\ts[i]:=by simp[di]
 let(s2,a2):=w3 ts[i] e x H2 y;have S2':=S1.jN s2;let(O2,pU,I2):=S2'.env;exact#[bu,H2,ρ1,O2,ts[i],_,I2,by rw[je pU];exact a2,step i _ ρ1 s1 e p1,λρ2 h2 O3 σ3 I3 _ _ _ _=>#[bu,ρ2,s1,_,SG.of 9 S2'.sd I3 h2.1,h2.2,#[λρ s σ H I p=>#[ρ,s,I,p],λs H t v sd a p=>F.rt s H t v sd a p,λρ s σ H I p=>F.nx ρ s σ H (un I) p,λρ s σ H I p=>#[ρ,s,I,p]]]];have e:i=ts.length:=by lia
 subst e;exact .inl #[w2 9,F.nx ρ1 s1 σ1 H1 (un S1) (fin ρ1 s1 p1)]
def agm(f:FI)(h:FG)(g:rY):rY:=λd ρ s=>f ρ λts=>LP ts h g d ρ s
def SG.temps{tm bu:qab}{s:S2}(S:SG K M tm ρ s σ H)(h:∀p∈bu,At K H M.Ox p.1 p.2):SG K M (bu++tm) ρ s σ H:=by
 let(O,hr,I):=S.env;refine#[#[O,hr,I.pQ λp hp=>?_],S.sd];rcases fM.mp hp with z|z
 rw[je hr];exact h p z;exact I.lj p z
def WJ{tg:Expr}{body:qaq}{f:FI}{is:qao}{h:FG}(hp:PassesOwn (model X.prog X.w) X.A X.env X.xe)(hc:X.calm=true)(hi:∀H0 Ox,VI X #[H0,[],Ox] tg iter f)(hg:∀H0 Ox,VG X #[H0,[],Ox] tg is h)(hb:QC X M body g)(hs:∀x,foldedSetIterable iter X.env x=pure x:=by intro _;rfl):GS X M (.For tg iter body [] pos) (agm f h g):=by refine .mk λtm ε s' σ H D J #[ρ,s,d,S,hq,F]=>?_;let(O,hr,I):=S.env;refine BD (g:=λv σ H Q=>∃bu H0,lG X #[H0,[],M.Ox] (bu++tm) is h v σ H Q) (tb:=λD σ H=>∃bu,lGS X M (bu++tm) g D σ H) hp hc (hi H M.Ox tm) (λε s σ H v u Q I r #[bu,H0,z]=>hg H0 M.Ox (bu++tm) ε s σ H v u Q I r z) (λε s σ H D I #[bu,z]=>hb.h (bu++tm) ε s σ H D I z) hs ε s' σ H D J #[ρ,O,_,I,hq,λts hX J' H' bu sm a wk=>?_];rw[je hr] at a;exact vA 9 ((S.jN sm).temps a) wk F hX
def opq:T->Option T
 |.tup [.pin a _,.kt k,.int w]=>some (.tup [.ob a,.kt k,.int w])
 |.kt k=>some (.kt k)
 |_=>none
def Hj:Λ->Option (Λ)
 |[]=>some []
 |t::ts=>match opq t,Hj ts with
  |some u,some us=>some (u::us)
  |_,_=>none
def WK{A:qah}{t u:T}(hA:∀b∈A,∃o,H b\o/\pP o=true)(e:opq t\u)(a:At K H [] t v):At K H A u v:=by
 unfold opq at e;split at e
 rename_i a' t' k w
 cases e;let(b,us,rfl,h2,h3):=hW.tup (.inl a);let(_,_,rfl,(rfl,_),_,_,rfl,(kb,rfl,hk),_,_,rfl,rfl,rfl):=h3;refine cj h2 (aD.cons (by simp only[At]) (aD.cons #[kb,9,hk.1,λz=>?_] (aD.cons bw aD.nil)));let(o,eo,mo):=hA kb z;rw[hk.1] at eo;cases eo;cases mo
 rename_i k
 cases e;let(kb,rfl,hk):=a;refine#[kb,9,hk.1,λz=>?_];let(o,eo,mo):=hA kb z;rw[hk.1] at eo;cases eo;cases mo;cases e
theorem EL{K:qaf}{H:Hp}{A:qah}(hA:∀b∈A,∃o,H b\o/\pP o=true):∀{ts us:Λ}{vs:qak},Hj ts\us->aD K H [] ts vs->aD K H A us vs
 |[],us,vs,e,a=>by cases e;exact a
 |t::ts,us,vs,e,a=>by
  simp only[Hj] at e;split at e
  rename_i u Kv e1 e2
  cases e;let(v,r,rfl,h1,h2):=a;exact aD.cons (WK hA e1 h1) (EL hA e2 h2);cases e
def LQ(M:MG)(f:FE)(h:FG)(g:rY):rY:=λd ρ s=>f (ρ.map (o8 M s)) λt=>match t with
 |.lst us=>∃ts,Hj us\ts/\LP ts h g d ρ s
 |_=>False
def QF{tg:Expr}{body:qaq}{f:FE}{is:qao}{h:FG}(hp:PassesOwn (model X.prog X.w) X.A X.env X.xe)(hc:X.calm=true)(hi:∀H0 Ox,VE X #[H0,[],Ox] iter f)(hg:∀H0 Ox,VG X #[H0,[],Ox] tg is h)(hb:QC X M body g)(hs:∀x,foldedSetIterable iter X.env x=pure x:=by intro _;rfl):GS X M (.For tg iter body [] pos) (LQ M f h g):=by
 refine .mk λtm ε s' σ H D J #[ρ,s,d,S,hq,F]=>?_;let(O2,pU,I2):=S.up;refine BD (g:=λv σ H Q=>∃bu H0,lG X #[H0,[],M.Ox] (bu++tm) is h v σ H Q) (tb:=λD σ H=>∃bu,lGS X M (bu++tm) g D σ H) hp hc (JI (hi H [] tm)) (λε s σ H v u Q I r #[bu,H0,z]=>hg H0 M.Ox (bu++tm) ε s σ H v u Q I r z) (λε s σ H D I #[bu,z]=>hb.h (bu++tm) ε s σ H D I z) hs ε s' σ H D J #[_,O2,_,I2,hq,λt ht v H' sm a=>?_];split at ht
 rename_i us
 let(ts,et,hl):=ht;rw[je pU] at a;let(l,vs,rfl,hls,hv):=a;have S':=S.jN sm;have at':At X.K H' M.Ox (.lst ts) (.ref l):=by
  refine#[l,vs,9,?_,EL S'.sd.here et hv];obtain z|z:=hls
  refine .inl #[z.1,λm=>?_];let(o,eo,mo):=S'.sd.here l m;obtain q|⟨o',q⟩:=z.1
  rw[eo] at q;cases q;let(_,_,e1,_):=S'.sd.d1;let(_,_,e2,_):=S'.sd.d2;rcases M.mem m with⟨zb,rfl⟩|rfl|rfl
  rw[S'.sd.ins zb] at eo;cases eo;rw[e1] at eo;cases eo;rw[e2] at eo;cases eo;rw[eo] at q;cases q;cases mo;exact .inr z
 exact .inl #[l,9,#[vs,hls.sq],vA 9 (S'.temps λp hp=>by rw[fE.mp hp];exact at') D4 F hl];exact ht.elim
end
section
variable{a:Expr}{fc:FE}{pos:Pos}
def Ta(g:FA):FP:=λρ Q=>g ρ λys=>match z_ ys with
 |some k=>ys.length<=sizeLine/\Q (.vw (.kt k))
 |none=>False
def dJ{x1}(h:VA X Z es g):VP X Z (.Tuple es x1 pos) (Ta g):=.mk λtm=>PE.weak (qD (h tm)) λσ H Q #[ρ,O,q,I,hf,k]=>#[ρ,O,_,I,hf,λys hy vs H1 s1 a1=>by
 split at hy
 rename_i kk ek
 refine#[by rw[a1.length];exact hy.1,λp hp=>?_];have s2:aW H1 (upd H1 p (.tup vs)):=aI hp;exact k _ hy.2 _ _ (s1.trans s2) #[(I.same s1).same s2,#[p,9,by rw[<- rV a1 ek];exact aK,λz=>(I.same s1).O0 p z hp]];exact hy.elim]
def QG:T->Option (List (List Key)×Λ)
 |.dt ks ts=>some (ks,ts)
 |.pin _ (.dt ks ts)=>some (ks,ts)
 |.df _ ks ts=>some (ks,ts)
 |_=>none
def Dfz(H:Hp)(a:Addr)(u:List (List Key×V)):Prop:=H a=some (.dT u)\/∃o,H a\.k7 o (.dT u)
def Dfz.same{a:Addr}{u:List (List Key×V)}(h:Dfz H a u)(sm:aW H H'):Dfz H' a u:=h.elim (λz=>.inl (sm _ _ z)) λ#[o,z]=>.inr #[o,sm _ _ z]
def EM{A:qah}{t:T}{ts:Λ}(h:hW K H A t v)(e:QG t\(ks,ts)):∃a vs,v=.ref a/\ks.length=vs.length/\Dfz H a (ks.zip vs)/\aD K H A ts vs:=by
 unfold QG at e;split at e;cases e;let(a,vs,h1,h2,h3,h4):=h.dt;exact#[a,vs,h1,h2,.inl h3,h4];cases e;obtain h|⟨_,_,r⟩:=h
 simp only[At] at h;let(_,h):=h;let(a,vs,h1,h2,h3,h4):=hW.dt (.inl (by simp only[At];exact h));exact#[a,vs,h1,h2,.inl h3,h4];exact r.elim;cases e;let(a,vs,h1,h2,h3,h4):=h.df;exact#[a,vs,h1,h2,.inr #[_,h3],h4];cases e
def WL(fa fb fc:FE):FP:=λρ Q=>fa ρ λx=>match QG x with
 |some (ks,ts)=>fb ρ λy=>fc ρ λz=>match y with
  |.kt k=>Q (.vw ((eA ks ts k).getD z))
  |_=>False
 |none=>False
def jO(hu:X.A.units+1<cLine)(ha:VR X Z a fa)(hb:VE X Z b fb)(hc:VE X Z c fc)(m:M2 X a "get" apos b c bM):VP X Z (.Call (.Attribute a "get" apos) [b,c] [] bM) (WL fa fb fc):=.mk λtm=>PE.weak (KJ hu (ha tm) (hb tm) (hc tm) m) λσ H Q #[ρ,O,q,I,hf,k] =>
 #[ρ,O,_,I,hf,λx hx v H1 s1 a1=>by
  split at hx
  rename_i ks ts ed
  let(l,vs,rfl,hl,hd,hv):=EM a1 ed;refine#[l,9,.inr #[_,hd],ρ,O,_,I.same s1,hx,λy hy w H2 s2 a2=>#[ρ,O,_,(I.same s1).same s2,hy,λz hz u H3 s3 a3=>?_]];split at hz
  rename_i kk
  let(b,rfl,hb,_):=a2;refine#[_,.inr #[_,kk,b,(hd.same s2).same s3,9,s3 _ _ hb,9],?_];rw[rW];exact k _ hz _ H3 ((s1.trans s2).trans s3) #[((I.same s1).same s2).same s3,QB ((hv.same s2).same s3) a3];exact hz.elim;exact hx.elim]
def LR(fa fb:FE):FP:=λρ Q=>fa ρ λx=>fb ρ λy=>match QG x,y with
 |some (ks,ts),.kt k=>∃t,eA ks ts k\t/\Q (.vw t)
 |_,_=>False
def QH(hu:X.A.units+1<cLine)(ha:VR X Z a fa)(hb:VE X Z b fb)(hs:PV b:=by intro _ _;rfl):VP X Z (.Subscript a b pos) (LR fa fb):=.mk λtm=>PE.weak (Er hu (ha tm) (hb tm) hs) λσ H Q #[ρ,O,q,I,hf,k] =>
 #[ρ,O,_,I,hf,λx hx v H1 s1 a1=>#[ρ,O,_,I.same s1,hx,λy hy w H2 s2 a2=>by
  split at hy
  rename_i ks ts kk ed
  let(t,e1,hq):=hy;let(l,vs,rfl,hl,hd,hv):=EM (a1.same s2) ed;let(u,e2,e3):=(qk hv).1 t e1;let(b,rfl,hb,_):=a2;exact#[l,u,9,.inr #[_,kk,b,hd,9,hb,by rw[rW,e2]],k _ hq _ H2 (s1.trans s2) #[(I.same s1).same s2,e3]];exact hy.elim]]
end
def spG(K:qaf)(C:Addr)(G:T->S2->(S2->T->Prop)->Prop):Sp:=λvs H Q _=>E5 λ(M:MG) (s:S2) (l:T) (v0:V) (q:S2->T->Prop)=>(M.C=C/\M.hb=true)/\vs=[v0,.ref M.a]/\At K H M.Ox l v0/\SD K {M with H0:=H} s H/\G l s q /\
 ∀s' t,q s' t->∀v H',SD K {M with H0:=H} s' H'->At K H' M.Ox t v->Q v H'
section
def fnG{st:Stmt}{N:χ}{k:Nat}{G:T->S2->(S2->T->Prop)->Prop}(F:Iq K x qual st f fd)(S:az N ps (ar st))(hn:2=ps.length)(hN:2<=N.length)(fG:∀(bL:Value) (A:Around) (outer:List Env) (s:Shared) (H:Hp) (E:XK) (M:MG),M.C=C->M.hb=true->bG k (A.deeper (envOfC qual (ar st) 8 f bL))->∀l s0 q,G l s0 q ->
    ∃g,QC (h7 iA P w K mg base N qual (ar st) f bL A outer s H E).vV M (bH st) g/\g {nx:=λ_ _=>False,rt:=q} (some (l,false)::some (.ob M.a,false)::List.replicate (N.length-2) none) s0) :
  eD P w K mg base iA (k+1) f fd ps (spG K C G):=by
 refine F.ok S (λvs H Q E h=>?_) (λbL A outer s H vs Q E hr h=>?_);let(M,s,l,v0,q,_,rfl,_):=h;exact hn;let(M,s0,l,v0,q,(hC,hB),rfl,a0,sd,hG,kk):=h;let(g,hg,hq):=fG bL A outer s H E {M with H0:=H} hC hB hr l s0 q hG;refine#[_,hg.h [],_,s0,_,#[#[List.replicate N.length none,iP _,?_],sd],hq,#[λ_ _ _ _ _ z=>z.elim,λs' H' t v sd' a z=>kk s' t z v H' sd' a,λ_ _ _ _ _ z=>z.elim,λ_ _ _ _ _ z=>z.elim]];have:=vg (ts:=[l,.ob M.a]) (vs:=[v0,.ref M.a]) (by simpa using hN) (λb hb=>by let(u,e,_):=sd.here b hb;rw[e];simp) (aD.cons a0 (aD.cons (by simp only[At]) aD.nil));exact this
end
end VT
namespace BS
open PySem PySem.Builtin PyProof.Rows
def ib(x:Int)(k:Nat):Bool:=decide (x / 2 ^ k % 2=1)
def two_pos(k:Nat):(0:Int)<2 ^ k:=Int.pow_pos 15
def iu(k:Nat):((2 ^ k:Nat):Int)=2 ^ k:=by rw[Int.natCast_pow];rfl
def dg(n k:Nat):ib (n:Int) k=n.testBit k:=by
 unfold ib;rw[Nat.testBit_eq_decide_div_mod_eq,<- iu];have:(n / ((2 ^ k:Nat):Int) % 2=1)↔(n / 2 ^ k % 2=1):=by rw[<- Int.natCast_ediv];lia
 exact aad.mpr this
def fQ(x:Int)(k:Nat):ib (bitNot x) k=!ib x k:=by
 unfold ib bitNot;have h:(-x-1) / 2 ^ k=-(x / 2 ^ k)-1:=by
  have hp:=two_pos k;have e1:=Int.mul_ediv_add_emod x (2 ^ k);refine (Int.ediv_emod_unique hp (r:=2 ^ k-1-x % 2 ^ k)).mpr #[?_,?_,?_] |>.1
  have:2 ^ k * (-(x / 2 ^ k)-1)=-(2 ^ k * (x / 2 ^ k))-2 ^ k:=by rw[Int.mul_sub,Int.mul_neg,Int.mul_one]
  rw[this];lia;omega;omega
 by_cases q:x / 2 ^ k % 2=1;rw[ο q,ς ()];rfl;rw[ς q,ο ()];rfl
def g_{x:Int}(h:∀k,ib x k=ib y k):x=y:=by
 have pos:∀(m n:Nat),(∀k,ib m k=ib n k)->m=n:=λm n q=>Nat.eq_of_testBit_eq λk=>by rw[<- dg,<- dg];exact q k
 have mix:∀(m:Nat) y,¬ 0<=y->¬ ∀k,ib m k=ib y k:=by intro m y hy q;have hn:=aaj.mpr hy;let(n,hn):=qv hn;have h1:=q (m+n);rw[<- aav y,fQ,hn,dg,dg] at h1;have a1:=Nat.testBit_lt_two_pow (Nat.lt_of_le_of_lt (Nat.le_add_right m n) Nat.lt_two_pow_self);have a2:=Nat.testBit_lt_two_pow (Nat.lt_of_le_of_lt (Nat.le_add_left n m) Nat.lt_two_pow_self);rw[a1,a2] at h1;cases h1
 by_cases hx:0<=x;let(m,rfl):=qv hx;by_cases hy:0<=y;let(n,rfl):=qv hy;exact aaa _ (pos m n h);exact (mix m y hy h).elim;by_cases hy:0<=y;let(n,rfl):=qv hy;exact (mix n x hx λk=>(h k).symm).elim;have a:=aaj.mpr hx;have b:=aaj.mpr hy;let(m,hm):=qv a;let(n,hn):=qv b;have:=pos m n λk=>by rw[<- hm,<- hn,fQ,fQ,h k]
 rw[<- aav x,<- aav y,hm,hn,this]
def Ae(x m:Nat):x-(x &&& m)=x ^^^ (x &&& m):=by
 have h:=nat_or_add_and (x ^^^ (x &&& m)) (x &&& m);have e1:(x ^^^ (x &&& m)) ||| (x &&& m)=x:=Nat.eq_of_testBit_eq λk=>by simp only[Nat.testBit_or,Nat.testBit_xor,Nat.testBit_and];cases x.testBit k<;>cases m.testBit k<;>rfl
 have e2:(x ^^^ (x &&& m)) &&& (x &&& m)=0:=Nat.eq_of_testBit_eq λk=>by simp only[Nat.testBit_xor,Nat.testBit_and,Nat.zero_testBit];cases x.testBit k<;>cases m.testBit k<;>rfl
 lia
def lM(x y:Int)(k:Nat):ib (bitAnd x y) k=(ib x k && ib y k):=by
 have pn:∀(m:Nat) y,¬ 0<=y->ib (m-((m &&& (bitNot y).toNat:Nat):Int)) k=(ib m k && ib y k):=by
  intro m y hy;let(n,hn):=qv (aaj.mpr hy);have e:ib y k=!n.testBit k:=by rw[<- aav y,fQ,hn,dg]
  rw[hn,i_,<- Int.ofNat_sub Nat.and_le_left,Ae,dg,dg,e];simp only[Nat.testBit_xor,Nat.testBit_and];cases m.testBit k<;>cases n.testBit k<;>rfl
 by_cases hx:0<=x;let(m,rfl):=qv hx;by_cases hy:0<=y;let(n,rfl):=qv hy;rw[bitAnd_pp hx hy,i_,i_,dg,dg,dg,Nat.testBit_and];rw[bitAnd_pn hx hy,i_];exact pn m y hy;by_cases hy:0<=y;let(n,rfl):=qv hy;rw[bitAnd_np hx hy,i_,pn n x hx,Bool.and_comm];let(m,hm):=qv (aaj.mpr hx);let(n,hn):=qv (aaj.mpr hy);rw[bitAnd_nn hx hy,hm,hn,i_,i_,fQ,dg,Nat.testBit_or,<- dg,<- dg,<- hm,<- hn,fQ,fQ];cases ib x k<;>cases ib y k<;>rfl
def dZ(x y:Int)(k:Nat):ib (bitOr x y) k=(ib x k || ib y k):=by unfold bitOr;rw[fQ,lM,fQ,fQ];cases ib x k<;>cases ib y k<;>rfl
def dm(k:Nat):ib 0 k=false:=by have:=dg 0 k;rw[Nat.zero_testBit] at this;exact this
def LS(x:Int)(j k:Nat):ib (x / 2 ^ j) k=ib x (j+k):=by unfold ib;rw[Int.ediv_ediv_of_nonneg (Int.le_of_lt (two_pos j)),<- Int.pow_add]
def CH(x:Int)(j k:Nat):ib (x % 2 ^ j) k=(decide (k<j) && ib x k):=by
 have pos:∀n:Nat,ib (n % 2 ^ j) k=(decide (k<j) && n.testBit k):=λn=>by rw[<- iu,<- Int.natCast_emod,dg,Nat.testBit_mod_two_pow]
 by_cases hx:0<=x;let(m,rfl):=qv hx;rw[pos,dg];let(m,hm):=qv (aaj.mpr hx);have e:x=-m-1:=by unfold bitNot at hm;lia
 have hp:=two_pos j;have e2:x % 2 ^ j=2 ^ j-1-m % 2 ^ j:=by
  have e1:=Int.mul_ediv_add_emod m (2 ^ j);refine (Int.ediv_emod_unique hp (q:=-(m / 2 ^ j)-1)).mpr #[?_,?_,?_] |>.2
  have:2 ^ j * (-(m / 2 ^ j)-1)=-(2 ^ j * ((m:Int) / 2 ^ j))-2 ^ j:=by rw[Int.mul_sub,Int.mul_neg,Int.mul_one]
  rw[this];lia;omega
  lia
 have e3:x % 2 ^ j=((2 ^ j-(m % 2 ^ j+1):Nat):Int):=by
  have di:m % 2 ^ j<2 ^ j:=Nat.mod_lt _ (Nat.two_pow_pos j);have a1:(m:Int) % 2 ^ j=((m % 2 ^ j:Nat):Int):=by rw[Int.natCast_emod,iu]
  have a2:=iu j
  lia
 have hb:ib x k=!m.testBit k:=by rw[<- aav x,fQ,hm,dg]
 rw[e3,dg,Nat.testBit_two_pow_sub_succ (Nat.mod_lt _ (Nat.two_pow_pos j)),Nat.testBit_mod_two_pow,hb];by_cases q:k<j;rw[ο q,yx,yx,yx];rw[ς q,Ig,Ig]
def WM(x:Int)(j k:Nat):ib (x * 2 ^ j) k=(decide (j<=k) && ib x (k-j)):=by by_cases h:j<=k;let(d,rfl):=Nat.exists_eq_add_of_le h;rw[ο h,yx,Nat.add_sub_cancel_left,<- LS,Int.mul_ediv_cancel _ (Int.ne_of_gt (two_pos j))];rw[ς h,Ig];have q:=CH (x * 2 ^ j) j k;rw[Int.mul_emod_left,dm,ο (),yx] at q;exact q.symm
def xF(k:Nat):ib 1 k=decide (k=0):=by
 cases k with
 |zero=>decide
 |succ k=>have h:(1:Int) / 2 ^ (k+1)=0:=Int.ediv_eq_zero_of_lt 15 (by rw[Int.pow_succ];have:=two_pos k;lia);unfold ib;rw[h];rfl
def xG(j k:Nat):ib (2 ^ j) k=decide (k=j):=by have h:=WM 1 j k;rw[Int.one_mul,xF] at h;rw[h];by_cases e:k=j;subst e;simp;rw[ς e];by_cases l:j<=k;rw[ς (by lia:¬ k-j=0),YW];rw[ς l,Ig]
def xH(j k:Nat):ib (1 * 2 ^ j) k=decide (k=j):=by rw[Int.one_mul,xG]
def WN{x:Int}(h:0<=x):0<=bitAnd x y:=by
 by_cases hy:0<=y;rw[bitAnd_pp h hy];exact Int.natCast_nonneg _;rw[bitAnd_pn h hy];have:x.toNat &&& (bitNot y).toNat<=x.toNat:=Nat.and_le_left
 lia
def Tc{x:Int}(h:0<=x)(h':0<=y):0<=bitOr x y:=by unfold bitOr;rw[bitAnd_nn (λq=>(aaj.mp q) h) (λq=>(aaj.mp q) h'),aav];exact Int.natCast_nonneg _
theorem QI(x:Int):bitAnd x 1=if ib x 0=true then 1 else 0:=g_ λk=>by
 rw[lM,xF];by_cases e:k=0;subst e;cases q:ib x 0 with
 |true=>rw[ι 9,xF];rfl
 |false=>rw[θ 15,dm];rfl
 rw[ς e,YW];split;rw[xF,ς e];rw[dm]
def CI(x:Int)(k:Nat):bitAnd (x / 2 ^ k) 1=if ib x k=true then 1 else 0:=by rw[QI,LS,Nat.add_zero]
def sub(y x:Int):Prop:=∀k,ib y k=true->ib x k=true
def dA(x:Int):sub x x:=λ_ h=>h
def cw{x z:Int}(h:sub x y)(h':sub y z):sub x z:=λk q=>h' k (h k q)
theorem iV{x:Int}(h:sub x y)(h':sub y x):x=y:=g_ λk=>by
 cases q:ib x k with
 |true=>rw[h k q]
 |false=>
  cases r:ib y k with
  |false=>rfl
  |true=>rw[h' k r] at q;cases q
def cZ(x y:Int):sub x (bitOr x y):=λk h=>by rw[dZ,h];rfl
def dO(x y:Int):sub y (bitOr x y):=λk h=>by rw[dZ,h,Bool.or_true]
def xI{x z:Int}(h:sub x z)(h':sub y z):sub (bitOr x y) z:=λk q=>by rw[dZ,N_] at q;exact q.elim (h k) (h' k)
def sub_zero(x:Int):sub 0 x:=λk h=>by rw[dm] at h;cases h
def below(m:Nat)(x:Int):Prop:=0<=x/\x<2 ^ m
def below.bit{x:Int}(h:below m x){k:Nat}(hk:ib x k=true):k<m:=by have e:=Int.emod_eq_of_lt h.1 h.2;rw[<- e,CH,pK] at hk;exact Θ hk.1
def r0{x:Int}(h0:0<=x)(h:∀k,ib x k=true->k<m):below m x:=by
 refine#[h0,?_];have e:x=x % 2 ^ m:=g_ λk=>by
  rw[CH];cases q:ib x k with
  |false=>rw[YW]
  |true=>rw[ο (h k q)];rfl
 rw[e];exact IJ _ (two_pos m)
def ou{x:Int}(h:below m x):below m (bitAnd x y):=r0 (WN h.1) λk hk=>by rw[lM,pK] at hk;exact h.bit hk.1
def d4{x:Int}(h:below m x)(h':below m y):below m (bitOr x y):=r0 (Tc h.1 h'.1) λk hk=>by rw[dZ,N_] at hk;exact hk.elim h.bit h'.bit
def cJ(m:Nat):below m 0:=#[Int.le_refl _,two_pos m]
def Hk(h:j<m):below m (2 ^ j):=r0 (Int.le_of_lt (two_pos j)) λk hk=>by rw[xG] at hk;rw[Θ hk];exact h
def iW(h:j<m):below m (1 * 2 ^ j):=by rw[Int.one_mul];exact Hk h
def closed(net:qan)(x:Int):Prop:=∀(k:Nat)(y:Int),net[k]?\y->ib x k=true->sub y x
structure pd(net:qan)(x r:Int):Prop where
 has:sub x r
 LU:closed net r
 out:∀c,sub x c->closed net c->sub r c
def pd.unique{x r r':Int}(h:pd net x r)(h':pd net x r'):r=r':=iV (h.out _ h'.has h'.LU) (h'.out _ h.has h.LU)
inductive Way(net:qan):Nat->Nat->Prop where
 |refl (a:Nat):Way net a a
 |step {a b c:Nat} {y:Int}:Way net a b->net[b]?\y->ib y c=true->Way net a c
def Way.trans{a b c:Nat}(h:Way net a b)(w:Way net b c):Way net a c:=by
 induction w with
 |refl=>exact h
 |step _ e q ih=>exact .step ih e q
def closed.way{x:Int}(h:closed net x){a b:Nat}(w:Way net a b)(ha:ib x a=true):ib x b=true:=by
 induction w with
 |refl=>exact ha
 |step _ e q ih=>exact h _ _ e ih _ q
def kS{x r:Int}(hx:sub x r)(hc:closed net r)(hw:∀b,ib r b=true->∃a,ib x a=true/\Way net a b):pd net x r :=
 #[hx,hc,λc h1 h2 b hb=>let #[a,ha,w]:=hw b hb;h2.way w (h1 a ha)]
def cnt(x:Int):Nat->Nat
 |0=>0
 |k+1=>cnt x k+(if ib x k=true then 1 else 0)
theorem ow(x:Int):∀k,cnt x k<=k
 |0=>cL _
 |k+1=>by have:=ow x k;simp only[cnt];split<;>lia
theorem Af{x y:Int}(h:sub x y):∀k,cnt x k<=cnt y k
 |0=>cL _
 |k+1=>by have:=Af h k;simp only[cnt];by_cases q:ib x k=true;rw[ι q,ι (h k q)];lia;rw[θ q];lia
theorem LV{x y:Int}(h:sub x y){j:Nat}(hy:ib y j=true)(hx:ib x j=false):∀k,j<k->cnt x k<cnt y k
 |0,q=>by lia
 |k+1,q=>by simp only[cnt];by_cases e:j=k;subst e;have:=Af h j;rw[ι hy,hx,θ 15];lia;have:=LV h hy hx k ();by_cases q:ib x k=true;rw[ι q,ι (h k q)];lia;rw[θ q];lia
theorem Ag{x:Int}:∀{k},cnt x k=k->∀j<k,ib x j=true
 |0,_,j,h=>by lia
 |k+1,e,j,h=>by simp only[cnt] at e;have:=ow x k;by_cases q:ib x k=true;rw[ι q] at e;by_cases ej:j=k;subst ej;exact q;exact Ag (k:=k) () j ();rw[θ q] at e;lia
def sw(net:qan):Nat->Int->Int
 |0,x=>x
 |k+1,x=>if ib (sw net k x) k=true then bitOr (sw net k x) (net.getD k 0) else sw net k x
def rounds(net:qan):Nat->Int->Int
 |0,x=>x
 |t+1,x=>sw net net.length (rounds net t x)
section
theorem r6(x:Int):∀k,sub x (sw net k x)
 |0=>dA x
 |k+1=>by simp only[sw];split;exact cw (r6 x k) (cZ _ _);exact r6 x k
def QJ(x:Int)(k:Nat):sub (sw net k x) (sw net (k+1) x):=by simp only[sw];split;exact cZ _ _;exact dA _
def ad8(x:Int){k:Nat}(h:j<=k):sub (sw net j x) (sw net k x):=by
 induction h with
 |refl=>exact dA _
 |step _ ih=>exact cw ih (QJ x _)
theorem xJ(x:Int):∀k b,ib (sw net k x) b=true->∃a,ib x a=true/\Way net a b
 |0,b,h=>#[b,h,.refl b]
 |k+1,b,h=>by
  simp only[sw] at h;by_cases q:ib (sw net k x) k=true;rw[ι q,dZ,N_] at h;obtain h|h:=h
  exact xJ x k b h;let(a,ha,w):=xJ x k k q;cases e:net[k]? with
  |none=>rw[vQ,e,acW,dm] at h;cases h
  |some y=>rw[vQ,e,N7] at h;exact#[a,ha,.step w e h]
  rw[θ q] at h;exact xJ x k b h
def WO{x:Int}(h:sw net net.length x=x):closed net x:=λk y e hk=>by
 have hl:k<net.length:=(c7.mp e).1;have h1:sub (sw net (k+1) x) x:=by have:=ad8 (net:=net) x (j:=k+1) (k:=net.length) hl;rw[h] at this;exact this
 have h2:ib (sw net k x) k=true:=r6 x k k hk;have h3:sw net (k+1) x=bitOr (sw net k x) (net.getD k 0):=by simp only[sw];rw[ι h2]
 rw[h3,vQ,e,N7] at h1;exact cw (dO _ _) h1
theorem m4{m:Nat}(hn:∀y∈net,below m y){x:Int}(hx:below m x):∀k,below m (sw net k x)
 |0=>hx
 |k+1=>by
  simp only[sw];split;refine d4 (m4 hn hx k) ?_;cases e:net[k]? with
  |none=>rw[vQ,e];exact cJ m
  |some y=>rw[vQ,e];exact hn y (fL e)
  exact m4 hn hx k
theorem r8(x:Int):∀t,sub x (rounds net t x)
 |0=>dA x
 |t+1=>cw (r8 x t) (r6 _ _)
theorem r9(x:Int):∀t b,ib (rounds net t x) b=true->∃a,ib x a=true/\Way net a b
 |0,b,h=>#[b,h,.refl b]
 |t+1,b,h=>by let(c,hc,w):=xJ _ _ b h;let(a,ha,w'):=r9 x t c hc;exact#[a,ha,w'.trans w]
theorem iX{m:Nat}(hn:∀y∈net,below m y){x:Int}(hx:below m x):∀t,below m (rounds net t x)
 |0=>hx
 |t+1=>m4 hn (iX hn hx t) _
theorem pe{m:Nat}(hn:∀y∈net,below m y){x:Int}(hx:below m x):∀t,sw net net.length (rounds net t x)=rounds net t x\/t<=cnt (rounds net t x) m
 |0=>.inr (fB _)
 |t+1=>by
  by_cases e:sw net net.length (rounds net t x)=rounds net t x;refine .inl ?_;simp only[rounds];rw[e,e];refine .inr ?_;have h1:t<=cnt (rounds net t x) m:=(pe hn hx t).resolve_left e;have hs:=r6 (net:=net) (rounds net t x) net.length;obtain⟨j,hj,hj'⟩:∃j,ib (sw net net.length (rounds net t x)) j=true/\ib (rounds net t x) j=false:=by
   refine acI λn=>e (iV (λk hk=>?_) hs);cases q:ib (rounds net t x) k with
   |true=>rfl
   |false=>exact (n #[k,hk,q]).elim
  have hb:=(m4 hn (iX hn hx t) net.length).bit hj;have:=LV hs hj hj' m hb;simp only[rounds]
  lia
def xK(hn:∀y∈net,below net.length y){x:Int}(hx:below net.length x):pd net x (rounds net net.length x):=by
 refine kS (r8 x _) ?_ (r9 x _);rcases pe hn hx net.length with h|h
 exact WO h;have hf:=Ag (Nat.le_antisymm (ow _ _) h);intro k y e _ j hj;exact hf j ((hn y (fL e)).bit hj)
def CJ:pd net 0 0:=by refine#[dA 0,λk y _ h=>?_,λ_ h _=>h];rw[dm] at h;cases h
end
end BS
namespace IB
open PySem L2 VT BS
open PySem.Builtin (bitOr)
abbrev Ent:=(Int×Str)×Int
def kK(k:Int×Str):List Key:=[.inl k.1,.inr k.2]
def lN{a b:Int×Str}:kK a=kK b↔a=b:=by
 constructor;intro h;unfold kK at h;injection h with h1 h2
 injection h2 with h2 h3
 injection h1 with h1
 injection h2 with h2
 exact Prod.ext h1 h2;rintro rfl;rfl
def eR(E:List Ent):List (List Key):=E.map λe=>kK e.1
def eQ(E:List Ent):Λ:=E.map λe=>.int e.2
def Cz(e:Ent):T:=.tup [.int e.1.1,.str e.1.2,.int e.2]
def jl(E:List Ent)(k:Int×Str):Bool:=E.any λe=>decide (e.1=k)
def eV(E:List Ent)(k:Int×Str)(v:Int):List Ent:=if jl E k=true then E.map (λe=>if e.1=k then (e.1,v) else e) else E++[(k,v)]
def LW(E:List Ent)(k:Int×Str):jM (eR E) (kK k)=jl E k:=by
 unfold jM eR jl;rw[List.any_map]
 congr 1
 funext e;exact aad.mpr lN
def CK(E:List Ent)(k:Int×Str)(v:Int):Hg (eR E) (kK k)=eR (eV E k v):=by unfold Hg eV;rw[LW];by_cases h:jl E k=true;rw[ι h,ι h];unfold eR;rw[yE];refine II λe _=>?_;show kK e.1=kK (if e.1=k then (e.1,v) else e).1;split<;>rfl;rw[θ h,θ h];unfold eR;rw[nD];rfl
def gk(E:List Ent)(k:Int×Str)(v:Int):Aa (eR E) (eQ E) (kK k) (.int v)=eQ (eV E k v):=by
 unfold Aa eV;rw[LW];by_cases h:jl E k=true;rw[ι h,ι h];clear h;unfold eR eQ;induction E with
 |nil=>rfl
 |cons e E ih=>
  simp only[kH,acV];rw[ih]
  congr 1
  by_cases z:e.1=k;rw[ι z,ι (lN.mpr z)];rw[θ z,θ (λq=>z (lN.mp q))]
 rw[θ h,θ h];unfold eQ;rw[nD];rfl
def WQ(p:Int×Str->Bool)(b:Int)(e:Ent):Int:=if p e.1=true then bitOr b e.2 else b
def QK(p:Int×Str->Bool)(E:List Ent):Int:=E.foldl (WQ p) 0
theorem CM(p:Int×Str->Bool)(k:Nat):∀(E:List Ent)(b:Int),ib (E.foldl (WQ p) b) k=(ib b k || E.any λe=>p e.1 && ib e.2 k)
 |[],b=>by simp
 |e::E,b=>by
  rw[YU,CM p k E,FN];unfold WQ;cases p e.1 with
  |true=>rw[ι 9,dZ,yx,Bool.or_assoc]
  |false=>rw[θ iC,Ig,Ih]
def QL{p:Int×Str->Bool}{E F:List Ent}(h:E.Perm F):QK p E=QK p F:=by
 refine g_ λk=>?_;unfold QK;rw[CM,CM]
 congr 1
 rw[YV,T8,T8];exact#[λ#[x,hx,e]=>#[x,h.mem_iff.mp hx,e],λ#[x,hx,e]=>#[x,h.mem_iff.mpr hx,e]]
def QM{p:Int×Str->Bool}{E:List Ent}{e:Ent}(h:E[i]?\e):QK p (E.take (i+1))=WQ p (QK p (E.take i)) e:=by unfold QK;rw[T7,h,R0];rfl
end IB
namespace BS
open PySem PySem.Builtin PyProof.Rows
def mem(x:Int):qao:=(List.range (Builtin.Int.intBits x)).filter (ib x)
def QN{x:Int}(h0:0<=x):x<2 ^ Builtin.Int.intBits x:=by
 unfold Builtin.Int.intBits;by_cases e:x=0;subst e;decide;rw[θ (by simpa using e)];let(n,rfl):=qv h0;have hn:n≠0:=by lia
 rw[Int.natAbs_natCast];have:=(Nat.log2_lt hn (k:=n.log2+1)).mp (qw _);rw[<- iu];exact Int.ofNat_lt.mpr this
def bits_le{x:Int}(h:below m x):Builtin.Int.intBits x<=m:=by
 unfold Builtin.Int.intBits;split;exact fB _
 rename_i e
 let(n,rfl):=qv h.1;have hn:n≠0:=by intro z;subst z;exact e 9
 rw[Int.natAbs_natCast];have h2:=h.2;rw[<- iu] at h2;have:=(Nat.log2_lt hn (k:=m)).mpr (Int.ofNat_lt.mp h2)
 lia
def LX{x:Int}(h0:0<=x){k:Nat}(hk:ib x k=true):k<Builtin.Int.intBits x:=below.bit #[h0,QN h0] hk
def mem_iff{x:Int}(h0:0<=x){k:Nat}:k∈mem x↔ib x k=true:=by unfold mem;rw[N9,Bm];exact#[λh=>h.2,λh=>#[LX h0 h,h]]
theorem r_(x:Int):∀n,((List.range n).filter (ib x)).length=cnt x n
 |0=>rfl
 |n+1=>by rw[T_,List.filter_append,fS,r_ x n];simp only[cnt];by_cases h:ib x n=true;rw[ι h,YI h];rfl;rw[θ h,YJ h];rfl
theorem Ah{x:Int}{n:Nat}:∀m,n<=m->(∀k,n<=k->ib x k=false)->cnt x m=cnt x n
 |0,h,_=>by
  have:n=0:=by lia
  subst this;rfl
 |m+1,h,q=>by by_cases e:n=m+1;subst e;rfl;simp only[cnt];rw[Ah m () q,q m (),θ 15];rfl
def EN{x:Int}(h:below m x):(mem x).length=cnt x m:=by
 unfold mem;rw[r_];refine (Ah m (bits_le h) λk hk=>?_).symm;cases q:ib x k with
 |false=>rfl
 |true=>have:=LX h.1 q;lia
theorem CN{x y:Int}(h:∀k,ib x k=true->ib y k=true->False):∀n,cnt (bitOr x y) n=cnt x n+cnt y n
 |0=>rfl
 |n+1=>by
  simp only[cnt];rw[CN h n,dZ];cases q:ib x n with
  |false=>cases r:ib y n<;>simp<;>lia
  |true=>cases r:ib y n with
   |false=>simp;lia
   |true=>exact (h n q r).elim
structure Bk(net:qan)(rows t:Int)(W:qao)(m:Nat):Prop where
 has:sub rows t
 WR:below net.length t
 wt:∀k∈W,ib t k=true
 LU:∀k y,net[k]?\y->ib t k=true->k∉W->sub y t
 way:∀b,ib t b=true->∃a,ib rows a=true/\Way net a b
 me:m=W.length+(net.length-cnt t net.length)
section
variable{rows t:Int}{W:qao}
theorem Bk.init(h:below net.length rows):Bk net rows rows (mem rows) net.length:=by
 refine#[dA _,h,λk hk=>(mem_iff h.1).mp hk,λk y _ h1 h2=>(h2 ((mem_iff h.1).mpr h1)).elim,λb hb=>#[b,hb,.refl b],?_];rw[EN h];have:=ow rows net.length
 lia
theorem Bk.step{k:Nat}(hn:∀y∈net,below net.length y)(B:Bk net rows t (W++[k]) m)(e:net[k]?\y) :
  below net.length (bitAnd y (bitNot t))/\∃m',m'<m/\Bk net rows (bitOr t (bitAnd y (bitNot t))) (W++mem (bitAnd y (bitNot t))) m':=by
 have hb:=ou (y:=bitNot t) (hn y (fL e));have hk:ib t k=true:=B.wt k 6;have WS:∀j,ib (bitAnd y (bitNot t)) j=(ib y j && !ib t j):=λj=>by rw[lM,fQ]
 have hor:∀j,ib (bitOr t (bitAnd y (bitNot t))) j=(ib t j || ib y j):=λj=>by rw[dZ,WS];cases ib t j<;>cases ib y j<;>rfl
 have hsy:sub y (bitOr t (bitAnd y (bitNot t))):=λj hj=>by rw[hor,hj,Bool.or_true]
 have yL:sub t (bitOr t (bitAnd y (bitNot t))):=cZ _ _;have hc:=CN (x:=t) (y:=bitAnd y (bitNot t)) (λj h1 h2=>by rw[WS,h1] at h2;simp at h2) net.length;have hl:=ow (bitOr t (bitAnd y (bitNot t))) net.length;refine#[hb,(W++mem (bitAnd y (bitNot t))).length+(net.length-cnt (bitOr t (bitAnd y (bitNot t))) net.length),?_,#[cw B.has yL,d4 B.WR hb,λj hj=>?_,λj z ej hj hw=>?_,λb hbb=>?_,9]];have:=B.me;rw[fS,NO] at this;rw[fS,EN hb,this,hc]
 lia
 rcases fM.mp hj with h|h
 exact yL j (B.wt j (by simp[h]));exact dO _ _ j ((mem_iff hb.1).mp h);by_cases hjk:j=k;subst hjk;rw[e] at ej;cases ej;exact hsy;by_cases hjt:ib t j=true;refine cw (B.LU j z ej hjt λq=>?_) yL;rcases fM.mp q with q|q
 exact hw (by simp[q]);exact hjk (fE.mp q);exfalso;refine hw (jZ _ ((mem_iff hb.1).mpr ?_));rw[dZ,N_] at hj;exact hj.resolve_left hjt;rw[dZ,N_] at hbb;obtain h|h:=hbb
 exact B.way b h;let(a,ha,w):=B.way k hk;refine#[a,ha,.step w e ?_];rw[WS,pK] at h;exact h.1
def Bk.fin(B:Bk net rows t [] m):pd net rows t:=kS B.has (λk y e h=>B.LU k y e h 6) B.way
theorem Bk.agn(B:Bk net rows t W m):W.length<=m:=by have:=B.me;lia
end
def lst(net:qan)(x:Int):Int:=rounds net net.length x
def c8{x:Int}(hn:∀y∈net,below net.length y)(hx:below net.length x):pd net x (lst net x):=xK hn hx
def oy{x:Int}(hn:∀y∈net,below net.length y)(hx:below net.length x):below net.length (lst net x):=iX hn hx _
def LY(hn:∀y∈net,below net.length y):lst net 0=0:=(c8 hn (cJ _)).unique CJ
def Bk.is{rows t:Int}(hn:∀y∈net,below net.length y)(hx:below net.length rows)(B:Bk net rows t [] m):t=lst net rows:=B.fin.unique (c8 hn hx)
def Turn(net out:qan):Prop:=out.length=net.length/\(∀y∈out,below net.length y)/\∀i j,ib (out.getD j 0) i=(decide (j<net.length) && ib (net.getD i 0) j)
def getD_some{l:qan}{i:Nat}{y:Int}(h:l[i]?\y):l.getD i 0=y:=by rw[vQ,h];rfl
end BS
namespace TS
open PySem PyProof.Rows
end TS
namespace TS
open PySem PySem.Spec PyProof.Rows L2 VT
section
variable(L:α->α->Bool)
variable{L}
theorem filter_lt{p q:α->Bool}:∀{l:List α},(∀x∈l,p x=true->q x=true)->∀{y},y∈l->p y=false->q y=true->(l.filter p).length<(l.filter q).length
 |x::l,h,y,hy,h1,h2=>by
  have le:∀{l:List α},(∀x∈l,p x=true->q x=true)->(l.filter p).length<=(l.filter q).length:=by
   intro l;induction l with
   |nil=>intro _;exact cL _
   |cons x l ih=>
    intro h;have:=ih λz hz=>h z (iB _ hz);rw[acX,acX];cases hp:p x with
    |true=>rw[h x 6 hp];simpa using this
    |false=>
     cases hq:q x with
     |true=>simp;lia
     |false=>simpa using this
  have hl:=λz hz=>h z (iB x hz);rw[acX,acX];rcases dQ.mp hy with rfl|hy
  rw[h1,h2];have:=le hl;simp;lia;have ih:=filter_lt hl hy h1 h2;cases hp:p x with
  |true=>rw[h x 6 hp];simpa using ih
  |false=>
   cases hq:q x with
   |true=>simp;lia
   |false=>simpa using ih
end
section
open Classical in
end
end TS
namespace MK
open PySem L2 VT Gen BS K5 IB
open PySem.Builtin (bitOr)
def eB(E:List Ent)(k:Int×Str):Int:=match E with
 |[]=>0
 |e::E=>if e.1=k then e.2 else eB E k
theorem kU(k:Int×Str):∀E:List Ent,(eA (eR E) (eQ E) (kK k)).getD (.int 0)=.int (eB E k)
 |[]=>rfl
 |e::E=>by show (if kK e.1=kK k then some (T.int e.2) else eA (eR E) (eQ E) (kK k)).getD (.int 0)=.int (if e.1=k then e.2 else eB E k);by_cases z:e.1=k;rw[ι z,ι (lN.mpr z)];rfl;rw[θ z,θ (λq=>z (lN.mp q))];exact kU k E
theorem m5(h n:Int):∀E:List Ent,eA (eR E) (eQ E) [.inl h,.inl n]=none
 |[]=>rfl
 |e::E=>by show (if kK e.1=[.inl h,.inl n] then some (T.int e.2) else eA (eR E) (eQ E) [.inl h,.inl n])=none;rw[θ (λz=>by unfold kK at z;injection z with _ z;injection z with z _;cases z)];exact m5 h n E
def Ai(k k':Int×Str)(v:Int)(E:List Ent):eB (eV E k v) k'=if k'=k then v else eB E k':=by
 unfold eV;by_cases h:jl E k=true;rw[ι h];induction E with
 |nil=>cases h
 |cons e E ih=>
  rw[kH];show (if (if e.1=k then (e.1,v) else e).1=k' then (if e.1=k then (e.1,v) else e).2 else eB (E.map _) k')=if k'=k then v else if e.1=k' then e.2 else eB E k'
  by_cases q:e.1=k;rw[ι q];by_cases q2:k'=k;rw[ι q2,ι (q.trans q2.symm)];rw[θ q2,θ (λz=>q2 (z.symm.trans q)),θ (λz=>q2 (z.symm.trans q))];by_cases h2:jl E k=true;rw[ih h2,θ q2];have:∀l:List Ent,¬ jl l k=true->(l.map λe=>if e.1=k then (e.1,v) else e)=l:=λl hl=>by
   conv=>rhs;rw[<- List.map_id l]
   refine II λx hx=>?_;rw[θ λz=>hl (T8.mpr #[x,hx,ο z])];rfl
  rw[this E h2];rw[θ q];have h2:jl E k=true:=by unfold jl at h ⊢;rw[FN,ς q,Ih] at h;exact h
  rw[ih h2];by_cases q3:e.1=k';rw[ι q3,ι q3,θ (λz=>q (q3.trans z))];rw[θ q3,θ q3]
 rw[θ h];induction E with
 |nil=>
  show (if k=k' then v else 0)=if k'=k then v else 0
  by_cases q:k'=k;rw[ι q,ι q.symm];rw[θ q,θ (λz=>q z.symm)]
 |cons e E ih=>
  have h1:¬ e.1=k:=λz=>h (by unfold jl;rw[FN,ο z];rfl);have h2:¬ jl E k=true:=λz=>h (by unfold jl at z ⊢;rw[FN,z,Bool.or_true]);show (if e.1=k' then e.2 else eB (E++[(k,v)]) k')=if k'=k then v else if e.1=k' then e.2 else eB E k'
  rw[ih h2];by_cases q3:e.1=k';rw[ι q3,ι q3,θ (λz=>h1 (q3.trans z))];rw[θ q3,θ q3]
def QO(k:Int×Str)(v:Int)(E:List Ent):eA (eR (eV E k v)) (eQ (eV E k v)) (kK k)\.int v:=by
 have h:jl (eV E k v) k=true:=by unfold eV;by_cases h:jl E k=true;rw[ι h];let(e,he,z):=T8.mp h;have z:e.1=k:=Θ z;exact T8.mpr #[(e.1,v),k6.mpr #[e,he,by rw[ι z]],ο z];rw[θ h];exact T8.mpr #[(k,v),jZ _ (fE.mpr 9),ο 9]
 have e1:=kU k (eV E k v);rw[Ai,ι 9] at e1;have:∀F:List Ent,jl F k=true->∃t,eA (eR F) (eQ F) (kK k)\t:=λF=>by
  induction F with
  |nil=>intro z;cases z
  |cons e F ih=>intro z;show ∃t,(if kK e.1=kK k then some (T.int e.2) else eA (eR F) (eQ F) (kK k))\t;by_cases q:e.1=k;exact#[_,ι (lN.mpr q)];rw[θ (λx=>q (lN.mp x))];unfold jl at z;rw[FN,ς q,Ih] at z;exact ih z
 let(t,ht):=this _ h;rw[ht] at e1 ⊢;exact aaa some e1
def eW(k:Ky):Str:=match Cd k with
 |.str x=>if y0.lg x=true then x else "#"
 |_=>"#"
def hJ(E:List Ent)(h:Nat):nH->Int
 |.nm y=>eB E ((h:Int),y)
 |.nu _=>0
def rdC(F:List Ent)(x:Int)(c:Str):Int:=(mem x).foldl (λt (j:Nat)=>bitOr t (eB F ((j:Int),c))) 0
abbrev Wt:=Bool×(Int×Str)×Int
def wOf(E F:List Ent)(i h:Nat):Rw->List Wt
 |.new x=>[(true,((h:Int),x),1 * 2 ^ ((i:Int)).toNat)]
 |.put x o=>[(true,((h:Int),x),hJ E h o)]
 |.get x y k=>[(true,((h:Int),x),rdC F (eB E ((h:Int),y)) (eW k))]
 |.set y k o=>(mem (eB E ((h:Int),y))).map λ(j:Nat)=>(false,((j:Int),eW k),hJ E h o)
 |_=>[]
def okR:Rw->Bool
 |.call _ _ _=>false
 |_=>true
def ago(a1 a2:Addr)(E F:List Ent)(b:Bool):T:=if b=true then .pin a1 (.dt (eR E) (eQ E)) else .pin a2 (.dt (eR F) (eQ F))
def wT(a1 a2:Addr)(E F:List Ent)(p:Wt):T:=.tup [ago a1 a2 E F p.1,.kt (kK p.2.1),.int p.2.2]
inductive Pl
 |nm (h:Nat) (x:Str)
 |cl (h:Nat) (x c:Str)
 |rw (i:Nat)
 |zr
abbrev Mv:=Pl×Pl
abbrev nk(h:Nat)(x:Str):Int×Str:=((h:Int),x)
def QP(h:Nat):nH->Pl
 |.nm y=>.nm h y
 |.nu _=>.zr
def fnOf(rs:qal)(g:Str):Option (Nat×List Str×nH):=match wU (bf rs 7) g with
 |some s=>match rs[s]?,endsAt (bh rs) 7 s with
  |some (.df _ ps),some e=>match rs[e]? with
   |some (.give o)=>some (s,ps,o)
   |_=>none
  |_,_=>none
 |none=>none
def CO(rs:qal)(i h:Nat):Rw->List Mv
 |.new x=>[(.nm h x,.rw i)]
 |.put x o=>[(.nm h x,QP h o)]
 |.get x y k=>[(.nm h x,.cl h y (eW k))]
 |.set y k o=>[(.cl h y (eW k),QP h o)]
 |.call x g as=>match fnOf rs g with
  |some (s,ps,o)=>(.nm h x,QP s o)::(ps.zip as).map λz=>(.nm s z.1,QP h z.2)
  |none=>[]
 |_=>[]
def WT(rs:qal)(i:Nat):List Mv:=match rs[i]?,gF (bh rs) i with
 |some r,some h=>CO rs i h r
 |_,_=>[]
def tW(rs:qal):List Mv:=(List.range 7).flatMap (WT rs)
def isNm:Pl->Bool
 |.nm _ _=>true
 |_=>false
def xM(E F:List Ent):Pl->Int
 |.nm h y=>eB E (nk h y)
 |.cl h y c=>rdC F (eB E (nk h y)) c
 |.rw i=>1 * 2 ^ ((i:Int)).toNat
 |.zr=>0
def goE(E:List Ent):Pl->List (Int×Str)
 |.nm h x=>[nk h x]
 |.cl h y c=>(mem (eB E (nk h y))).map λ(j:Nat)=>((j:Int),c)
 |_=>[]
def wM(E F:List Ent)(m:Mv):List Wt:=(goE E m.1).map λk=>(isNm m.1,k,xM E F m.2)
def wA(rs:qal)(E F:List Ent)(i:Nat):List Wt:=(WT rs i).flatMap (wM E F)
structure Tb where
 E:List Ent
 F:List Ent
 b:Bool
def Tb.get(p:Tb)(w:Bool)(k:Int×Str):Int:=if w=true then eB p.E k else eB p.F k
def Tb.put(p:Tb)(w:Bool)(k:Int×Str)(v:Int):Tb:=if w=true then {p with E:=eV p.E k v} else {p with F:=eV p.F k v}
def pZ(p:Tb)(w:Wt):Tb:={p.put w.1 w.2.1 (bitOr (p.get w.1 w.2.1) w.2.2) with b:=p.b || !decide (bitOr (p.get w.1 w.2.1) w.2.2=p.get w.1 w.2.1)}
def stp(rs:qal)(p:Tb)(i:Nat):Tb:=(wA rs p.E p.F i).foldl pZ p
def d9(rs:qal)(E F:List Ent)(n:Nat):Tb:=(List.range n).foldl (stp rs) #[E,F,false]
def oz(rs:qal)(E F:List Ent)(n:Nat):d9 rs E F (n+1)=stp rs (d9 rs E F n) n:=by unfold d9;rw[T_,R0];rfl
def qm(p:Tb)(w:Wt)(b:Bool)(k:Int×Str):(pZ p w).get b k=if b=w.1/\k=w.2.1 then bitOr (p.get w.1 w.2.1) w.2.2 else p.get b k:=by let(wb,wk,wv):=w;unfold pZ Tb.put Tb.get;cases wb<;>cases b<;>simp[Ai]
def ad9(n:Nat)(w:Bool)(m:Mv):List (Int×Str):=match w,m.1 with
 |true,.nm h x=>[nk h x]
 |false,.cl _ _ c=>(List.range n).map λ(j:Nat)=>((j:Int),c)
 |_,_=>[]
def jf(n:Nat)(M:List Mv)(w:Bool):List (Int×Str):=M.flatMap (ad9 n w)
structure Iv(n:Nat)(M:List Mv)(p:Tb):Prop where
 nE:(p.E.map (·.1)).Nodup
 nF:(p.F.map (·.1)).Nodup
 kE:∀e∈p.E,e.1∈jf n M true
 kF:∀e∈p.F,e.1∈jf n M false
 bl:∀w k,below n (p.get w k)
def Aj{E:List Ent}{k:Int×Str}{v:Int}(nd:(E.map (·.1)).Nodup):((eV E k v).map (·.1)).Nodup/\∀e∈eV E k v,e.1=k\/∃e'∈E,e'.1=e.1:=by
 unfold eV;by_cases h:jl E k=true;rw[ι h];have e:(E.map (λe=>if e.1=k then (e.1,v) else e)).map (·.1)=E.map (·.1):=by rw[yE];refine II λe _=>?_;show (if e.1=k then (e.1,v) else e).1=e.1;split<;>rfl
 refine#[by rw[e];exact nd,λx hx=>?_];let(y,hy,rfl):=k6.mp hx;exact .inr #[y,hy,by split<;>rfl];rw[θ h];refine#[?_,λx hx=>?_];rw[nD,List.nodup_append];refine#[nd,by simp,λa ha b hb e=>?_];have hb:b=k:=by simpa using hb
 subst e;subst hb;let(y,hy,e):=k6.mp ha;exact h (T8.mpr #[y,hy,ο e]);rcases fM.mp hx with z|z
 exact .inr #[x,z,9];rw[fE.mp z];exact .inl 9
theorem jP{α β:Type}{f:β->List α}{m:Nat}(h:∀i,(f i).length<=m):∀l:List β,(l.flatMap f).length<=l.length * m
 |[]=>by simp
 |i::l=>by
  have:=jP h l;have:=h i;rw[List.flatMap_cons,fS,vR,Nat.add_mul]
  lia
theorem sub_len{α:Type}[DecidableEq α]:∀{l U:List α},l.Nodup->(∀x∈l,x∈U)->l.length<=U.length
 |[],U,_,_=>fB _
 |x::l,U,nd,h=>by
  rw[qx] at nd;have hx:=h x iz;have:=sub_len (U:=U.erase x) nd.2 λy hy=>(List.mem_erase_of_ne (λe=>nd.1 (by rw[<- e];exact hy))).mpr (h y (iB _ hy));rw[List.length_erase_of_mem hx] at this;have:=List.length_pos_of_mem hx;rw[vR]
  lia
def Le(p p':Tb):Prop:=∀w k,sub (p.get w k) (p'.get w k)
def Le.refl(p:Tb):Le p p:=λ_ _=>dA _
def Le.trans{p q r:Tb}(h:Le p q)(g:Le q r):Le p r:=λw k=>cw (h w k) (g w k)
def CP{l:qao}{f:Nat->Int}(h:∀j,below n (f j)):∀x,below n x->below n (l.foldl (λt j=>bitOr t (f j)) x):=by
 induction l with
 |nil=>exact λx h=>h
 |cons j l ih=>exact λx hx=>ih _ (d4 hx (h j))
def QQ(n:Nat)(m:Mv):Prop:=match m.2 with
 |.rw i=>i<n
 |_=>True
section
variable{M:List Mv}{p q r:Tb}{m:Mv}
theorem vB(w:Bool):(jf n M w).length<=M.length * (n+1):=jP (λm=>by unfold ad9;split;simp;rw[bS,pJ];lia;simp) M
def Iv.aea(I:Iv n M p):p.E.length<=M.length * (n+1):=by
 have:=sub_len I.nE λk hk=>by let(e,he,rfl):=k6.mp hk;exact I.kE e he
 rw[bS] at this;exact kJ this (vB true)
def Iv.aeb(I:Iv n M p):p.F.length<=M.length * (n+1):=by
 have:=sub_len I.nF λk hk=>by let(e,he,rfl):=k6.mp hk;exact I.kF e he
 rw[bS] at this;exact kJ this (vB false)
def Iv.bool(I:Iv n M p)(b:Bool):Iv n M {p with b:=b}:=#[I.nE,I.nF,I.kE,I.kF,I.bl]
def Iv.step(I:Iv n M p){w:Wt}(hk:w.2.1∈jf n M w.1)(hb:below n w.2.2):Iv n M (pZ p w):=by
 have Yj:∀b k,below n ((pZ p w).get b k):=λb k=>by rw[qm];split;exact d4 (I.bl _ _) hb;exact I.bl b k
 let(wb,wk,wv):=w;cases wb with
 |true=>let(h1,h2):=Aj I.nE;exact#[h1,I.nF,λe he=>(h2 e he).elim (λz=>by rw[z];exact hk) λ#[e',Qf,z]=>by rw[<- z];exact I.kE e' Qf,I.kF,Yj]
 |false=>let(h1,h2):=Aj I.nF;exact#[I.nE,h1,I.kE,λe he=>(h2 e he).elim (λz=>by rw[z];exact hk) λ#[e',Qf,z]=>by rw[<- z];exact I.kF e' Qf,Yj]
def Hl(I:Iv n M p)(h:QQ n m):below n (xM p.E p.F m.2):=by
 let(g,o):=m;cases o with
 |nm h y=>exact I.bl true _
 |cl h y c=>exact CP (λj=>I.bl false _) 0 (cJ _)
 |rw i=>show below n (1 * 2 ^ ((i:Int)).toNat);rw[i_];exact iW h
 |zr=>exact cJ _
def QR(I:Iv n M p)(hm:m∈M){k:Int×Str}(hk:k∈goE p.E m.1):k∈jf n M (isNm m.1):=by
 refine X'.mpr #[m,hm,?_];let(g,o):=m;cases g with
 |nm h x=>exact hk
 |cl h y c=>let(j,hj,rfl):=k6.mp hk;have b:=I.bl true (nk h y);exact k6.mpr #[j,Bm.mpr (b.bit ((mem_iff b.1).mp hj)),9]
 |_=>cases hk
def agp(I:Iv n M p)(hm:m∈M)(h:QQ n m){w:Wt}(hw:w∈wM p.E p.F m):w.2.1∈jf n M w.1/\below n w.2.2:=by let(k,hk,rfl):=k6.mp hw;exact#[QR I hm hk,Hl I h]
def Nw(n:Nat)(M:List Mv)(p p':Tb):Prop:=E3 λw k b=>k∈jf n M w/\b<n/\ib (p.get w k) b=false/\ib (p'.get w k) b=true
def Nw.le(h:Nw n M p q)(g:Le q r):Nw n M p r:=let #[w,k,b,h1,h2,h3,h4]:=h;#[w,k,b,h1,h2,h3,g w k b h4]
def Nw.ge(g:Le p q)(h:Nw n M q r):Nw n M p r:=by
 let(w,k,b,h1,h2,h3,h4):=h;refine#[w,k,b,h1,h2,?_,h4];cases z:ib (p.get w k) b with
 |false=>rfl
 |true=>rw[g w k b z] at h3;cases h3
def LZ{w:Wt}:Le p (pZ p w):=λb k=>by
 rw[qm];split
 rename_i h
 rw[h.1,h.2];exact cZ _ _;exact dA _
def WU{w:Wt}(hk:w.2.1∈jf n M w.1)(hb:below n w.2.2)(h:(pZ p w).b=true):p.b=true\/Nw n M p (pZ p w):=by
 have h:(p.b || !decide (bitOr (p.get w.1 w.2.1) w.2.2=p.get w.1 w.2.1))=true:=h;cases hp:p.b with
 |true=>exact .inl 9
 |false=>
  rw[hp,Ih] at h;have fY:bitOr (p.get w.1 w.2.1) w.2.2≠p.get w.1 w.2.1:=λz=>by rw[ο z] at h;cases h
  right
  have hs:=λz=>fY (iV (xI (dA _) z) (cZ _ _));obtain⟨b,h1,h2⟩:∃b,ib w.2.2 b=true/\¬ ib (p.get w.1 w.2.1) b=true:=acI λz=>hs λb hb=>acI λy=>z #[b,hb,y];refine#[w.1,w.2.1,b,hk,hb.bit h1,by simpa using h2,?_];rw[qm,ι #[9,9]];exact dO _ _ b h1
theorem xN:∀{l:List Wt}{p:Tb},Iv n M p->(∀w∈l,w.2.1∈jf n M w.1/\below n w.2.2)->Iv n M (l.foldl pZ p)/\Le p (l.foldl pZ p)/\((l.foldl pZ p).b=true->p.b=true\/Nw n M p (l.foldl pZ p))
 |[],p,I,_=>#[I,Le.refl p,.inl]
 |w::l,p,I,h=>by
  have h0:=h w iz;let(h1,h2,h3):=xN (I.step h0.1 h0.2) λv hv=>h v (iB _ hv);refine#[h1,LZ.trans h2,λhb=>?_];rcases h3 hb with z|z
  rcases WU h0.1 h0.2 z with z|z
  exact .inl z;exact .inr (z.le h2);exact .inr (z.ge LZ)
def aec(n:Nat)(M:List Mv):List ((Bool×Int×Str)×Nat):=[true,false].flatMap λw=>(jf n M w).flatMap λk=>(List.range n).map λb=>((w,k),b)
def mu(n:Nat)(M:List Mv)(p:Tb):Nat:=((aec n M).filter λx=>!ib (p.get x.1.1 x.1.2) x.2).length
def aed(h:Le p q)(w:Nw n M p q):mu n M q<mu n M p:=by
 let(w,k,b,h1,h2,h3,h4):=w;refine TS.filter_lt (λx _ z=>?_) (y:=((w,k),b)) ?_ (by rw[h4];rfl) (by rw[h3];rfl);cases q:ib (p.get x.1.1 x.1.2) x.2 with
 |false=>rfl
 |true=>rw[h _ _ _ q] at z;cases z
 exact X'.mpr #[w,by cases w<;>simp,X'.mpr #[k,h1,k6.mpr #[b,Bm.mpr h2,9]]]
def WV(n:Nat)(M:List Mv):Iv n M #[[],[],false]:=#[NS,NS,λe h=>(nomatch h),λe h=>(nomatch h),λw k=>by cases w<;>exact cJ n]
end
abbrev Sf:=Bool->Int×Str->Int
def gS(S:Sf)(g:Pl)(w:Bool)(k:Int×Str):Prop:=match g with
 |.nm h x=>w=true/\k=nk h x
 |.cl h y c=>w=false/\∃j:Nat,ib (S true (nk h y)) j=true/\k=((j:Int),c)
 |_=>False
def hS(S:Sf)(o:Pl)(b:Nat):Prop:=match o with
 |.nm h y=>ib (S true (nk h y)) b=true
 |.cl h y c=>∃j:Nat,ib (S true (nk h y)) j=true/\ib (S false ((j:Int),c)) b=true
 |.rw i=>b=i
 |.zr=>False
def ClM(S:Sf)(m:Mv):Prop:=∀w k b,gS S m.1 w k->hS S m.2 b->ib (S w k) b=true
def Ls(M:List Mv)(p:Tb):Prop:=∀S,(∀m∈M,ClM S m)->∀w k,sub (p.get w k) (S w k)
def L0{l:qao}{f:Nat->Int}{b:Nat}:∀{x:Int},ib (l.foldl (λt j=>bitOr t (f j)) x) b=true↔ib x b=true\/∃j∈l,ib (f j) b=true:=by
 induction l with
 |nil=>intro x;simp
 |cons j l ih=>intro x;rw[YU,ih,dZ,N_,or_assoc];simp
section
variable{M:List Mv}{p q:Tb}{m:Mv}
def WW(I:Iv n M p){g:Pl}{w:Bool}{k:Int×Str}:gS p.get g w k↔w=isNm g/\k∈goE p.E g:=by
 cases g with
 |nm h x=>exact#[λh=>#[h.1,fE.mpr h.2],λh=>#[h.1,fE.mp h.2]]
 |cl h y c=>have b:=I.bl true (nk h y);refine#[λ#[h1,j,h2,h3]=>#[h1,k6.mpr #[j,(mem_iff b.1).mpr h2,h3.symm]],λ#[h1,h2]=>#[h1,?_]];let(j,hj,e):=k6.mp h2;exact#[j,(mem_iff b.1).mp hj,e.symm]
 |rw i=>exact#[False.elim,λh=>nomatch h.2]
 |zr=>exact#[False.elim,λh=>nomatch h.2]
def QS(I:Iv n M p){o:Pl}{b:Nat}:hS p.get o b↔ib (xM p.E p.F o) b=true:=by
 cases o with
 |nm h y=>exact Iff.rfl
 |cl h y c=>
  have e:=I.bl true (nk h y);show _↔ib (List.foldl _ 0 _) b=true;rw[L0,BS.dm];refine#[λ#[j,h1,h2]=>.inr #[j,(mem_iff e.1).mpr h1,h2],λh=>?_];obtain h|⟨j,h1,h2⟩:=h
  cases h;exact#[j,(mem_iff e.1).mp h1,h2]
 |rw i=>show b=i↔ib (1 * 2 ^ ((i:Int)).toNat) b=true;rw[i_,xH,aar]
 |zr=>exact#[False.elim,λh=>by rw[show xM p.E p.F .zr=0 from 9,BS.dm] at h;cases h]
def QT{S S':Sf}(h:∀w k,sub (S w k) (S' w k)){g:Pl}{w:Bool}{k:Int×Str}(x:gS S g w k):gS S' g w k:=by
 cases g with
 |cl a y c=>let(h1,j,h2,h3):=x;exact#[h1,j,h _ _ _ h2,h3]
 |_=>exact x
def QU{S S':Sf}(h:∀w k,sub (S w k) (S' w k)){o:Pl}{b:Nat}(x:hS S o b):hS S' o b:=by
 cases o with
 |nm a y=>exact h _ _ _ x
 |cl a y c=>let(j,h2,h3):=x;exact#[j,h _ _ _ h2,h _ _ _ h3]
 |_=>exact x
def L1(I:Iv n M p){S:Sf}(c:ClM S m)(hp:∀w k,sub (p.get w k) (S w k)){k:Int×Str}(hk:k∈goE p.E m.1):sub (xM p.E p.F m.2) (S (isNm m.1) k):=λb hb=>
 c _ _ b (QT hp ((WW I).mpr #[9,hk])) (QU hp ((QS I).mpr hb))
theorem Ls.pZ(h:Ls M p){w:Wt}(hw:∀S,(∀m∈M,ClM S m)->sub w.2.2 (S w.1 w.2.1)):Ls M (pZ p w):=λS hS b k=>by
 rw[qm];split
 rename_i z
 rw[z.1,z.2];exact xI (h S hS _ _) (hw S hS);exact h S hS b k
theorem EO:∀{l:List Wt}{p:Tb},Ls M p->(∀w∈l,∀S,(∀m∈M,ClM S m)->sub w.2.2 (S w.1 w.2.1))->Ls M (l.foldl MK.pZ p)
 |[],p,L,_=>L
 |w::l,p,L,h=>EO (l:=l) (L.pZ λS hS=>h w iz S hS) λv hv=>h v (iB _ hv)
def WX:Ls M #[[],[],false]:=λS hS w k=>by cases w<;>exact sub_zero _
end
section
theorem WY:∀m∈tW rs,QQ 7 m:=λm hm=>by
 let(i,hi,hm):=X'.mp hm;have hi:=Bm.mp hi;unfold WT at hm;have op:∀g a o,QQ 7 (g,QP a o):=λg a o=>by cases o<;>trivial
 split at hm
 rename_i r h _ _
 cases r with
 |new x=>rw[fE.mp hm];exact hi
 |put x o=>rw[fE.mp hm];exact op _ _ _
 |get x y k=>rw[fE.mp hm];trivial
 |set y k o=>rw[fE.mp hm];exact op _ _ _
 |call x g as=>
  simp only[CO] at hm;split at hm;rcases dQ.mp hm with rfl|hm
  exact op _ _ _;let(z,_,rfl):=k6.mp hm;exact op _ _ _;cases hm
 |_=>cases hm
 cases hm
def L3{p:Tb}(I:Iv 7 (tW rs) p)(hi:i<7){w:Wt}(hw:w∈wA rs p.E p.F i):∃m∈tW rs,w∈wM p.E p.F m/\w.2.1∈jf 7 (tW rs) w.1/\below 7 w.2.2:=by let(m,hm,hw):=X'.mp hw;have hm:=X'.mpr #[i,Bm.mpr hi,hm];exact#[m,hm,hw,agp I hm (WY m hm) hw]
theorem m6{E F:List Ent}{b:Bool}(I:Iv 7 (tW rs) #[E,F,b]):∀n≤rs.length,Iv 7 (tW rs) (d9 rs E F n)/\Le #[E,F,b] (d9 rs E F n)/\((d9 rs E F n).b=true->Nw 7 (tW rs) #[E,F,b] (d9 rs E F n))
 |0,_=>#[I.bool false,λ_ _=>dA _,λh=>nomatch h]
 |n+1,h=>by
  let(I',h1,h2):=m6 I n ();rw[oz];let(g1,g2,g3):=xN (l:=wA rs (d9 rs E F n).E (d9 rs E F n).F n) I' λw hw=>(L3 I' () hw).choose_spec.2.2;refine#[g1,h1.trans g2,λhb=>?_];rcases g3 hb with z|z
  exact (h2 z).le g2;exact z.ge h1
theorem ER{E F:List Ent}{b:Bool}(I:Iv 7 (tW rs) #[E,F,b])(L:Ls (tW rs) #[E,F,b]):∀n≤rs.length,Ls (tW rs) (d9 rs E F n)
 |0,_=>L
 |n+1,h=>by have L':=ER I L n ();have I':=(m6 I n ()).1;rw[oz];refine EO L' λw hw S hS=>?_;let(m,hm,hw,_):=L3 I' () hw;let(k,hk,rfl):=k6.mp hw;exact L1 I' (hS m hm) (λw k=>L' S hS w k) hk
def m7(rs:qal):Nat->Tb
 |0=>#[[],[],false]
 |m+1=>d9 rs (m7 rs m).E (m7 rs m).F 7
theorem L4(rs:qal):∀m,Iv 7 (tW rs) (m7 rs m)/\Ls (tW rs) (m7 rs m)
 |0=>#[WV _ _,WX]
 |m+1=>by let(I,L):=L4 rs m;exact#[(m6 I 7 (cL _)).1,ER I L 7 (cL _)]
end
def pC(x:Int)(c:Str)(k:Int×Str):Bool:=decide (k.2=c) && ib x k.1.toNat
def WZ(g:Pl)(h:Nat):nH->List Mv
 |.nm y=>[(g,.nm h y)]
 |.nu _=>[]
def mvW(rs:qal)(i h:Nat):Rw->List Mv
 |.new x=>[(.nm h x,.rw i)]
 |.put x o=>WZ (.nm h x) h o
 |.get x y k=>[(.nm h x,.cl h y (eW k))]
 |.set y k o=>WZ (.cl h y (eW k)) h o
 |.call x g as=>match fnOf rs g with
  |some (s,ps,o)=>(ps.zip as).flatMap (λz=>WZ (.nm s z.1) h z.2)++WZ (.nm h x) s o
  |none=>[]
 |_=>[]
def mvB(rs:qal)(i:Nat):List Mv:=match rs[i]?,gF (bh rs) i with
 |some r,some h=>mvW rs i h r
 |_,_=>[]
def mvs(rs:qal)(n:Nat):List Mv:=(List.range n).flatMap (mvB rs)
def aee{h:Nat}(hr:∀x g as,r=.call x g as->as.length<=04):(CO rs i h r).length<=05/\(mvW rs i h r).length<=05:=by
 have l1:∀g h o,(WZ g h o).length<=1:=λg h o=>by cases o<;>simp[WZ]
 cases r with
 |put x o=>exact#[by simp[CO],kJ (l1 _ _ _) 15]
 |set y k o=>exact#[by simp[CO],kJ (l1 _ _ _) 15]
 |call x g as=>
  simp only[CO,mvW];cases fnOf rs g with
  |none=>exact#[fB _,fB _]
  |some a=>
   let(s,ps,o):=a;have ha:=hr x g as 9;have z:(ps.zip as).length<=04:=by rw[NR];lia
   have f:=jP (f:=λz:Str×nH=>WZ (.nm s z.1) h z.2) (λz=>l1 _ _ _) (ps.zip as);have:=l1 (.nm h x) s o;exact#[by rw[vR,bS];lia,by rw[fS];lia]
 |_=>exact#[by simp[CO],by simp[mvW]]
def W0(hr:∀r∈rs,∀x g as,r=.call x g as->as.length<=04):(tW rs).length<=7 * 05/\∀n,(mvs rs n).length<=n * 05:=by
 have h:∀i,(WT rs i).length<=05/\(mvB rs i).length<=05:=λi=>by
  unfold WT mvB;cases e:rs[i]? with
  |none=>exact#[fB _,fB _]
  |some r=>
   cases gF (bh rs) i with
   |none=>exact#[fB _,fB _]
   |some h=>exact aee (hr r (fL e))
 refine#[?_,λn=>?_];have:=jP (λi=>(h i).1) (List.range 7)
 rwa [pJ] at this
 have:=jP (λi=>(h i).2) (List.range n)
 rwa [pJ] at this
end MK
namespace MK
open PySem L2 VT Gen BS K5 IB Lay
open PySem.Builtin (bitOr)
def ES(E F:List Ent)(h:Nat)(o:nH):xM E F (QP h o)=hJ E h o:=by cases o<;>rfl
def w_eq(rs:qal)(E F:List Ent)(i h:Nat)(hr:okR r=true):(CO rs i h r).flatMap (wM E F)=wOf E F i h r:=by
 cases r with
 |new x=>rfl
 |get x y k=>rfl
 |put x o=>show [(true,_,xM E F (QP h o))]++[]=[(true,_,hJ E h o)];rw[ES];rfl
 |set y k o=>show List.map _ (List.map _ _)++[]=List.map _ _;rw[Ie,yE,ES];rfl
 |call x g as=>cases hr
 |_=>rfl
theorem w_call{g:Str}{s:Nat}{o:nH}(e:fnOf rs g\(s,ps,o))(E F:List Ent)(i h:Nat)(x:Str)(as:List nH) :
  (CO rs i h (.call x g as)).flatMap (wM E F)=(true,nk h x,hJ E s o)::(ps.zip as).map λz=>(true,nk s z.1,hJ E h z.2):=by
 simp only[CO,e];rw[List.flatMap_cons,List.flatMap_map];show (true,nk h x,xM E F (QP s o))::([]++_)=_;rw[ES,List.nil_append]
 congr 1
 induction ps.zip as with
 |nil=>rfl
 |cons z l ih=>rw[List.flatMap_cons,ih];show (true,nk s z.1,xM E F (QP h z.2))::_=_;rw[ES];rfl
def xO{g:Str}{s:Nat}{o:nH}(h:fnOf rs g\(s,ps,o)):∃f e,wU (bf rs 7) g\s/\rs[s]?\.df f ps/\endsAt (bh rs) 7 s\e/\rs[e]?\.give o:=by
 unfold fnOf at h;cases h1:wU (bf rs rs.length) g with
 |none=>rw[h1] at h;cases h
 |some s'=>
  rw[h1] at h;dsimp only at h;cases h2:rs[s']? with
  |none=>rw[h2] at h;cases h
  |some r=>
   rw[h2] at h;cases r with
   |df f W2=>
    cases h3:endsAt (bh rs) rs.length s' with
    |none=>rw[h3] at h;cases h
    |some e=>
     rw[h3] at h;dsimp only at h;cases h4:rs[e]? with
     |none=>rw[h4] at h;cases h
     |some r=>
      rw[h4] at h;cases r with
      |give o'=>cases h;exact#[f,e,9,h2,h3,h4]
      |_=>cases h
   |_=>cases h
def QV(B:Bl rs){s:Nat}{f:Str}(hs:rs[s]?\.df f ps):∃e o,endsAt (bh rs) 7 s\e/\rs[e]?\.give o/\s<e/\∀m,s<=m->m<e->∀o,rs[m]?≠some (.give o):=by
 have hsl:=(c7.mp hs).1;have Bq:(bh rs s).op=true:=by rw[c_ hs];rfl
 have d0:dp (bh rs) s=0:=by unfold dp;rw[B.df hs];rfl
 let(e,h1,h2,h3,h4,h5):=end_is B.W hsl Bq;have he:endsAt (bh rs) 7 s\e:=by unfold endsAt;rw[ι Bq];exact h1
 have tT:=(qd B.W h3 he hsl).1;have NY:rs[e]?\rs[e]:=eZ h3;have hd:=rj B.W h3 tT;have hg:∃o,rs[e]=.give o:=by
  rw[c_ NY] at tT;generalize rs[e]=r at NY tT;cases r with
  |give o=>exact#[o,9]
  |fin=>have:=(B.fin NY).1;lia
  |_=>cases tT
 let(o,ho):=hg;rw[ho] at NY;refine#[e,o,he,NY,h2,λm a b o' hm=>?_];by_cases z:m=s;subst z;rw[hs] at hm;cases hm;have Bp:m<7:=by lia
 have:=rj B.W Bp (by rw[c_ hm];rfl);have g:=B.give hm;have n:=h5 m () b;unfold dp at *
 lia
def DQ(B:Bl rs){g:Str}(hi:rs[i]?\.df g ps):∃a,fnOf rs g\a:=by let(j,hj):=vf hi 7 (c7.mp hi).1;let(_,qs,hq):=zu 7 hj;let(e,o,h1,h2,_):=QV B hq;refine#[(j,qs,o),?_];unfold fnOf;simp only[hj,hq,h1,h2]
end MK
namespace VT
open PySem PySem.Spec PyProof.Rows L2
theorem gw{α:Type}{f u:α->T}{h:FG}{fe:FE}{ρ:En}:∀{xs:List α}{Q:Λ->Prop},(∀x∈xs,∀r:T->Prop,r (u x)->h (f x) ρ λρ2=>fe ρ2 r)->Q (xs.map u)->cU h JK fe ρ (xs.map f) Q
 |[],Q,_,hq=>hq
 |x::xs,Q,step,hq=>by simp only[kH,cU];exact step x iz (λy=>cU h JK fe ρ (xs.map f) λus=>Q (y::us)) (gw (Q:=λus=>Q (u x::us)) (λy hy=>step y (iB _ hy)) hq)
def Ak{lo:Int}{u:Nat->T}{h:FG}{Q:Λ->Prop}(step:∀i<n,∀r:T->Prop,r (u i)->h (.int (lo+(i:Int))) ρ λρ2=>fe ρ2 r)(hq:Q ((List.range n).map u)):cU h JK fe ρ (rangeT lo n) Q :=
 gw (f:=λi:Nat=>T.int (lo+(i:Int))) (u:=u) (λi hi=>step i (Bm.mp hi)) hq
theorem gx{α:Type}{f u:α->T}{p:α->Bool}{h:FG}{fc:FB}{fe:FE}{ρ:En}:∀{xs:List α}{Q:Λ->Prop},(∀x∈xs,∀r s:Prop,(if p x=true then ∀k:T->Prop,(k (u x)->r)->r else s)->True)->(∀x∈xs,∀(k:T->Prop)(s:Prop),(if p x=true then k (u x) else s)->h (f x) ρ λρ2=>fc ρ2 λb=>if b=true then fe ρ2 k else s)->Q ((xs.filter p).map u)->cU h fc fe ρ (xs.map f) Q
 |[],Q,_,_,hq=>hq
 |x::xs,Q,t0,step,hq=>by simp only[kH,cU];refine step x iz _ _ ?_;by_cases hp:p x=true;rw[ι hp];rw[YI hp] at hq;exact gx (Q:=λus=>Q (u x::us)) (λ_ _ _ _ _=>trivial) (λy hy=>step y (iB _ hy)) hq;rw[θ hp];rw[YJ hp] at hq;exact gx (λ_ _ _ _ _=>trivial) (λy hy=>step y (iB _ hy)) hq
end VT
namespace iY
open PySem L2 VT Gen K5 Lay BS IB MK
open PySem.Builtin (bitOr bitAnd)
def top(i:Nat):Stmt:=PySem.Challenge.pw_slicewise_k44_slices_of_several_sets.main.body.getD i (.Pass #[0,0,0,0])
abbrev L5:Stmt:=top 2
abbrev oA:Stmt:=top 3
abbrev lQ:Stmt:=top 13
abbrev se:Stmt:=top 35
abbrev oB:Stmt:=top 37
abbrev xP:Stmt:=top 38
abbrev xQ:Stmt:=top 39
abbrev iZ:Stmt:=top 40
abbrev i0:Stmt:=top 41
abbrev sf:Stmt:=inClass (top 34) 0
structure MgP(mg:qae):Prop where
 enumerate:mg "enumerate"=none
 sorted:mg "sorted"=none
 range:mg "range"=none
 zip:mg "zip"=none
structure StC(K:qaf)(C:Addr):Prop where
 cl:Im K C
 xR:cN K C "names"
 qo:cN K C "cells"
def bW(h:n<=1000):n<=sizeLine:=Gen.small h
def sg:bootBuiltins "sorted"\.builtin "sorted":=by decide +kernel
abbrev fK(l:qao):Λ:=l.map λ(k:Nat)=>T.int (k:Int)
def jM(ts:Λ)(q:qam):Prop:=E2 λ(x:Int) (k:Nat)=>ts=[.int x,.int (k:Int)]/\q (.vw (.bl (ib x k)))
def iw(ts:Λ)(q:qam):Prop:=∃x:Int,ts=[.int x]/\Builtin.Int.intBits x<=64/\q (.fr (.lst (fK (mem x))))
def L6:T->Str
 |.str x=>if y0.lg x=true then x else "#"
 |_=>"#"
def xS(ts:Λ)(q:qam):Prop:=∃t,ts=[t]/\Nm.kB t/\q (.vw (.str (L6 t)))
def Td(C:Addr)(ts:Λ)(q:T->Prop):Prop:=E2 λt1 t2=>ts=[t1,t2]/\q (.ins C fN [t1,t2])
def so(CS a1 a2:Addr)(E F:List Ent):T:=.ins CS fN [.pin a1 (.dt (eR E) (eQ E)),.pin a2 (.dt (eR F) (eQ F))]
def Te(CS:Addr)(ts:Λ)(q:qam):Prop:=E6 λ(a1 a2:Addr) (E F:List Ent) (x:Int) (c:Str)=>ts=[so CS a1 a2 E F,.int x,.str c]/\Builtin.Int.intBits x<=64/\q (.vw (.int (rdC F x c)))
def Yy:Rw->Prop
 |.get _ _ k=>Nm.kB (Cd k)
 |.set _ k _=>Nm.kB (Cd k)
 |_=>True
def clR(rs:qal):Rw->Prop
 |.call _ g as=>as.length<=04/\∃a,fnOf rs g\a
 |_=>True
def wN(a1:Addr)(E:List Ent)(p:(Int×Str)×Int):T:=.tup [.pin a1 (.dt (eR E) (eQ E)),.kt (kK p.1),.int p.2]
def L7(C:Addr)(ts:Λ)(q:qam):Prop:=E11 λ(rs:qal) (a1:Addr) (E:List Ent) (i:Nat) (x g:Str) (as:List nH) (h s:Nat) (ps:χ) (o:nH)=>ts=[c5 C rs,.pin a1 (.dt (eR E) (eQ E)),.int (i:Int)]/\rs[i]?\.call x g as/\as.length<=04/\gF (bh rs) i\h/\fnOf rs g\(s,ps,o)/\q (.fr (.lst (wN a1 E (nk h x,hJ E s o)::(ps.zip as).map λz=>wN a1 E (nk s z.1,hJ E h z.2))))
def CQ(C CS:Addr)(ts:Λ)(q:qam):Prop:=E8 λ(rs:qal) (a1 a2:Addr) (E F:List Ent) (i:Nat) (r:Rw) (h:Nat)=>ts=[c5 C rs,so CS a1 a2 E F,.int (i:Int)]/\rs[i]?\r/\clR rs r/\Yy r/\gF (bh rs) i\h/\i<=1000/\(∀k,Builtin.Int.intBits (eB E k)<=64)/\q (.fr (.lst (((CO rs i h r).flatMap (wM E F)).map (wT a1 a2 E F))))
def IC(E:List Ent):List Ent:=E.filter λe=>!decide (e.2=0)
def Am{f:α->β}:∀{l:List α}{zs:List β},zs.Perm (l.map f)->∃bs:List α,bs.Perm l/\zs=bs.map f:=by
 intro l zs p;generalize e:l.map f=m at p;induction p generalizing l with
 |nil=>exact#[[],by cases l<;>simp_all,9]
 |cons x _ ih=>
  cases l with
  |nil=>cases e
  |cons a l=>cases e;let(bs,h,rfl):=ih 9;exact#[a::bs,h.cons a,9]
 |swap x y l'=>
  cases l with
  |nil=>cases e
  |cons a l=>cases l with
   |nil=>cases e
   |cons b l=>cases e;exact#[b::a::l,.swap _ _ _,9]
 |trans _ _ ih1 ih2=>let(bs,h1,rfl):=ih2 e;let(cs,h2,rfl):=ih1 9;exact#[cs,h2.trans h1,9]
def ET(ts:Λ)(q:qam):Prop:=E2 λ(E:List Ent) (o:Obj)=>ts=[.df o (eR E) (eQ E)]/\E.length<=100000/\∀bs:List Ent,bs.Perm (IC E)->q (.fr (.lst (bs.map Cz)))
def aef(C:Addr)(q:qam):FS:=λd ρ=>E12 λ(rs:qal) (a1:Addr) (E:List Ent) (i:Nat) (x g:Str) (as:List nH) (h s:Nat) (ps:χ) (o:nH) (f:Str)=>ρ=[aP (c5 C rs),aP (.pin a1 (.dt (eR E) (eQ E))),aP (.int (i:Int)),aP (aZ (.call x g as)),aP (.int (h:Int)),aP (.int (s:Int)),aP (mD o),some (.lst [wN a1 E (nk h x,hJ E s o)],true),none,none] /\
 rs[s]?\.df f ps/\as.length<=04/\q (.fr (.lst (wN a1 E (nk h x,hJ E s o)::(ps.zip as).map λz=>wN a1 E (nk s z.1,hJ E h z.2))))/\∀ρ r,q r->d.rt ρ r
def zip_map(f:α->T)(g:β->T)(l:List α)(m:List β):zg (l.map f) (m.map g)=(l.zip m).map λz=>.tup [f z.1,g z.2]:=by unfold zg;rw[List.zipWith_map,List.zip,List.map_zipWith]
def W3(x:Int)(k:Nat):decide (bitAnd (x / 2 ^ ((k:Int)).toNat) 1=1)=ib x k:=by rw[i_,CI];cases ib x k<;>decide
def W4(x:Int):((rangeT 0 (Builtin.Int.intBits x)).filter λt=>match t with | .int i=>ib x i.toNat|_=>false).map (λt=>t)=fK (mem x):=by
 unfold rangeT mem;rw[List.map_id',List.filter_map];have e:((λt:T=>match t with | .int i=>ib x i.toNat|_=>false) ∘ λ(i:Nat)=>T.int (0+i))=ib x:=by funext i;show ib x (0+(i:Int)).toNat=ib x i;rw[Ii,i_]
 rw[e];refine II λi _=>?_;rw[Ii]
def CT(k:Ky):L6 (Cd k)=eW k:=by unfold eW L6;cases Cd k<;>rfl
section
variable{dB:Addr}
abbrev aeg:χ:=qaA
def L8:az aeg qaA (ar L5):=L2.eU
theorem W5(D:Df K mg "has" L5 qaA f fd):bP P w K mg base "has" qaA 1 (bQ K 2 jM):=by refine D.fm (gf D.F L8 9 λbL A outer s H E Ox hr ts q hG=>?_);have nd:=L8.nd;have hu:=bG.dW hr;refine#[_,(aq (aA (Ψ (DZ hu (ν (j3 (ν (Vh (ae 0) (ae 1))) 4)) 4)))),λ_=>?_];let(x,k,rfl,hq):=hG;refine#[(),?_];show q (.vw (.bl (decide (bitAnd (x / 2 ^ ((k:Int)).toNat) 1=1))));rw[W3];exact hq
abbrev vC:χ:=qaB
def sr:az vC qaB (ar oA):=L2.eU
def uC:(vC++(["row"]:χ)).Nodup:=by decide +kernel
theorem CU(D:Df K mg "members" oA qaB f fd)(M:MgP mg)(An:bP P w K mg base "has" qaA 1 (bQ K 2 jM)):bP P w K mg base "members" qaB 2 (bQ K 1 iw):=by refine D.fm (gf D.F sr 9 λbL A outer s H E Ox hr ts q hG=>?_);have nd:=sr.nd;have np:∀{i:Nat},aY #[H,[],Ox] i:=gX;refine#[_,(aq (aA (Ψ (eI (ts:=qaC) 9 (by rfl) (cX (by rfl) M.range (ν (Ha (ae 0)))) (λ_ _ _ _ _ _=>(aM (i:=1) uC 9 5 np)) (λ_ _ _ _ _ _=>(j6 (fO (aw An hr (aa (ah 0) (aa (ah 1) ak)))))) (λ_ _ _ _ _ _=>(ah 1)))))),λ_=>?_];let(x,rfl,hb,hq):=hG;refine#[9,(),(),?_,?_];rw[iN];exact bW ();refine ie (λt=>match t with | .int i=>ib x i.toNat|_=>false) (λt=>t) (λt ht k r h=>?_) ?_;let(i,hi):=T4.mp ht;let(_,rfl):=lC hi;have e:0+i=(i:Int):=Ii _;rw[e] at h ⊢;exact#[9,x,i,9,h];show q (.fr (.lst (((rangeT 0 (Builtin.Int.intBits x)).filter λt=>match t with | .int i=>ib x i.toNat|_=>false).map (λt=>t))));rw[W4];exact hq
abbrev CV:χ:=["key"]
def pf:az CV ["key"] (ar lQ):=L2.eU
def Ao(D:Df K mg "class_of" lQ ["key"] f fd)(lT:bP P w K mg base "is_field" qaz 2 (bQ K 1 Nm.Cm)):bP P w K mg base "class_of" ["key"] 3 (bQ K 1 xS):=by
 refine D.fm (gf D.F pf 9 λbL A outer s H E Ox hr ts q hG=>?_);have nd:=pf.nd;refine#[_,(aq (aA (Ψ (Ju (fO (aw lT hr (aa (ah 0) ak))) (VE.vp (ah 0)) aC)))),λ_=>?_];let(t,rfl,ht,hq):=hG;refine#[9,t,9,ht,?_];obtain⟨x,rfl,_⟩|⟨i,rfl⟩:=ht
 have hq:q (.vw (.str (if y0.lg x=true then x else "#"))):=hq;show if y0.lg x=true then _ else _
 by_cases z:y0.lg x=true;rw[ι z] at hq ⊢;exact hq;rw[θ z] at hq ⊢;exact hq;exact hq
abbrev W6:χ:=qaD
def EU:az W6 qaD (ar sf):=L2.eU
def QW(D:Dc K mg "Sets" "Sets.__init__" sf qaD dB f fd)(M:StC K dB):zM P w K mg base "Sets" dB qaD 1 2 (Td dB):=by
 refine D.fm (fnI D.F EU 9 λbL A outer s H E as Ox hr us q hl hG=>?_);have nd:=EU.nd;have dC:=M;refine#[_,(af (fP 0 dC.cl dC.xR (ah 1))
  (aq (fP 0 dC.cl dC.qo (ah 2)))),?_]
 let(t1,t2,rfl,hq):=hG;exact#[9,by decide,9,by show 1<1000;decide,hq]
abbrev xT:χ:=["sets","rows","kind","told","row"]
def kW:az xT qaE (ar iZ):=L2.eU
def uD(D:Df K mg "read_cells" iZ qaE f fd)(M:StC K dB)(d_:bP P w K mg base "members" qaB 2 (bQ K 1 iw)):bP P w K mg base "read_cells" qaE 3 (bQ K 3 (Te dB)):=by
 refine D.fm (gf D.F kW 9 λbL A outer s H E Ox hr ts q hG=>?_);have nd:=kW.nd;have hu:=bG.dW hr;have np:∀{i:Nat},aY #[H,[],Ox] i:=gX;have dC:=M;have yC:=vk hu;refine#[_,(af (aJ (i:=3) nd 9 5 (Ψ ag) np)
  (af (cQ nG 9 (eG (ω (aw d_ hr (aa (ah 1) ak)))) (aM (i:=04) nd 9 5 np)
   (aq (lr (i:=3) nd 9 5 (ν (jO yC (ν (aQ dC.cl dC.qo (ae 0))) (ω (dJ (aa (ah 04) (aa (ah 2) ak)))) (ω ag) #[9,9,9,9])) k8 gH np)))
  (aq (aA (Ψ (VE.vp (ah 3))))))),λ_=>?_]
 let(a1,a2,E,F,x,c,rfl,hb,hq):=hG;refine#[9,x,9,hb,eJ (λn ρ=>E2 λv b4=>ρ=[aP (so dB a1 a2 E F),aP (.int x),aP (.str c),aP (.int v),b4]/\v=((mem x).take n).foldl (λt (j:Nat)=>bitOr t (eB F (j,c))) 0) #[_,none,9,9] ?_ ?_];rintro n j ρ hj ⟨v,b4,rfl,hv⟩;refine#[9,_,9,bW 6,?_];show Ph (.int v) ((eA (eR F) (eQ F) (kK (j,c))).getD (.int 0)) (λr=>E2 λv b4=>[aP (so dB a1 a2 E F),aP (.int x),aP (.str c),aP r.t,aP (.int j)]=[aP (so dB a1 a2 E F),aP (.int x),aP (.str c),aP (.int v),b4]/\v=((mem x).take (n+1)).foldl (λt (j:Nat)=>bitOr t (eB F (j,c))) 0);rw[kU];refine#[_,_,9,?_];rw[T7,hj,R0,<- hv];rfl;rintro ρ ⟨_,b4,rfl,rfl⟩;rw[N8];exact hq
abbrev vD:χ:=["held"]
def su:az vD ["held"] (ar oB):=L2.eU
def kX:(vD++(["key","told"]:χ)).Nodup:=by decide +kernel
theorem CW(D:Df K mg "list_of" oB ["held"] f fd)(M:MgP mg):bP P w K mg base "list_of" ["held"] 1 (bQ K 1 ET):=by
 refine D.fm (gf D.F su 9 λbL A outer s H E Ox hr ts q hG=>?_);have nd:=su.nd;have hu:=bG.dW hr;have np:∀{i:Nat},aY #[H,[],Ox] i:=gX;refine#[_,(aq (aA (Ψ (aS (TP.mZ false) (TP.o7 false) (by rfl) M.sorted sg (aO (ν (eI (ts:=["key","told"]) 9 (by rfl) (Ab (ah 0)) (λ_ _ _ _ _ _=>(ff (n:=2) 9 (bq (aM (i:=1) kX 9 5 np) (bq (aM (i:=2) kX 9 5 np) dI)))) (λ_ _ _ _ _ _=>(j6 (h_ hu (ae 2) 4))) (λ_ _ _ _ _ _=>(ω (bB (aa (ω (ay (ae 1) 4)) (aa (ω (ay (ae 1) 4)) (aa (ah 2) ak)))))))) aX))))),λ_=>?_];let(E,o,rfl,hlen,hq):=hG;have ez:((eR E).zip (eQ E)).map WE=E.map λe=>.tup [ktT (kK e.1),.int e.2]:=by unfold eR eQ;rw[List.zip_map',yE];rfl
 refine#[9,by unfold eR eQ;rw[bS,bS],?_];rw[ez];refine#[by rw[bS,π];lia,gx (u:=Cz) (p:=λe=>!decide (e.2=0)) (λ_ _ _ _ _=>trivial) (λe he k s hk=>?_) ?_];refine#[9,9,?_];show if (!decide (e.2=0))=true then _ else _
 by_cases z:(!decide (e.2=0))=true;rw[ι z] at hk ⊢;exact#[_,ai 9,_,ai 9,bW 6,hk];rw[θ z] at hk ⊢;exact hk;have hl:=RW (λe:Ent=>!decide (e.2=0)) E;refine#[_,9,by rw[bS];lia,λt ht=>?_,λzs p=>?_];let(e,_,rfl):=k6.mp ht;exact#[_,_,_,9,_,9];let(bs,p1,rfl):=Am p;exact hq bs p1
abbrev xU:χ:=["layout","names","place","row","home","start","given","told","name","operand"]
def kY:az xU qaF (ar i0):=L2.eU
theorem uE(D:Df K mg "call_wants" i0 qaF f fd)(M:MgP mg)(M1:uw K au):bP P w K mg base "call_wants" qaF 1 (bQ K 3 (L7 au)):=by
 refine D.fm (gf D.F kY 9 λbL A outer s H E Ox hr ts q hG=>?_);have nd:=kY.nd;have hu:=bG.dW hr;have np:∀{i:Nat},aY #[H,[],Ox] i:=gX;have aj:=M1;have yC:=vk hu;refine#[_,(af (aJ (i:=3) nd 9 5 (Ψ (ay (ν (aQ aj.cl aj.bt (ae 0))) (ae 2))) np)
  (af (aJ (i:=04) nd 9 5 (Ψ (ay (ν (aQ aj.cl aj.f9 (ae 0))) (ae 2))) np)
  (af (aJ (i:=05) nd 9 5 (Ψ (KL yC (ν (aQ aj.cl aj.rD (ae 0))) (ν (ay (ae 3) 4)))) np)
  (af (aJ (i:=06) nd 9 5 (Ψ (ay (ν (ay (ν (aQ aj.cl aj.bt (ae 0))) (ν (ay (ν (aQ aj.cl aj.n5 (ae 0))) (ae 05))))) 4)) np)
  (af (cP (i:=07) nd 9 5 (Ψ (bJ (aa (ω (bB (aa (ah 1) (aa (ω (dJ (aa (ah 04) (aa (ω (ay (ae 3) 4)) ak)))) (aa (ω (jO yC (ae 1) (ω (dJ (aa (ah 05) (aa (ah 06) ak)))) (ω ag) #[9,9,9,9])) ak))))) ak))) np)
  (ku.weak (u:=(aef au q)) (af (cQ nG 9 (VF (by rfl) M.zip (ω (ay (ν (ay (ν (aQ aj.cl aj.bt (ae 0))) (ae 05))) 4)) (ω (ay (ae 3) 4))) (ff (n:=2) 9 (bq (aM (i:=08) nd 9 5 np) (bq (aM (i:=09) nd 9 5 np) dI)))
   (aq (bA (dy 07 qt qu bo ba (aa (ω (bB (aa (ah 1) (aa (ω (dJ (aa (ah 05) (aa (ah 08) ak)))) (aa (ω (jO yC (ae 1) (ω (dJ (aa (ah 04) (aa (ah 09) ak)))) (ω ag) #[9,9,9,9])) ak))))) ak)))))
  (aq (aA (eF 07 np)))) ?w1)))))),λ_=>?main]
 case w1=>
  rintro d ρ ⟨rs,a1,E,i,x,g,as,h,st,ps,o,f',rfl,h2,ha,hq,fin⟩;refine#[9,_,9,_,dc h2,_,aaW,_,aaX,?_];show oX (zg (ps.map T.str) (as.map mD)) _ _ _ _;rw[zip_map];refine eJ (λn ρ=>E3 λts b8 b9=>ρ=[aP (c5 au rs),aP (.pin a1 (.dt (eR E) (eQ E))),aP (.int (i:Int)),aP (aZ (.call x g as)),aP (.int (h:Int)),aP (.int (st:Int)),aP (mD o),some (.lst ts,true),b8,b9]/\ts=wN a1 E (nk h x,hJ E st o)::((ps.zip as).take n).map λz=>wN a1 E (nk st z.1,hJ E h z.2)) #[_,none,none,9,9] ?_ ?_;rintro n z ρ hz ⟨ts,b8,b9,rfl,ets⟩;have hn:=(c7.mp hz).1;have hs:ts.length<sizeLine:=by
   rw[ets,vR,bS,N5,π];rw[NR] at hn
   lia
  have es:ts++[wN a1 E (nk st z.1,hJ E h z.2)]=wN a1 E (nk h x,hJ E st o)::((ps.zip as).take (n+1)).map λz=>wN a1 E (nk st z.1,hJ E h z.2):=by rw[ets,T7,hz,nD];rfl
  let(z1,z2):=z;have fin2:∀v:T,v=.int (hJ E h z2)->E3 λj5 b8 b9=>[aP (c5 au rs),aP (T.pin a1 (.dt (eR E) (eQ E))),aP (.int (i:Int)),aP (aZ (.call x g as)),aP (.int (h:Int)),aP (.int (st:Int)),aP (mD o),some (.lst (ts++[.tup [.pin a1 (.dt (eR E) (eQ E)),.kt (kK (nk st z1)),v]]),true),aP (.str z1),aP (mD z2)]=[aP (c5 au rs),aP (.pin a1 (.dt (eR E) (eQ E))),aP (.int (i:Int)),aP (aZ (.call x g as)),aP (.int (h:Int)),aP (.int (st:Int)),aP (mD o),some (.lst j5,true),b8,b9]/\j5=wN a1 E (nk h x,hJ E st o)::((ps.zip as).take (n+1)).map λz=>wN a1 E (nk st z.1,hJ E h z.2):=λv e=>by subst e;exact#[_,_,_,9,es]
  refine#[9,9,bW 6,?_];cases z2 with
  |nm y=>exact#[bW 6,bW 6,hs,fin2 _ (kU ((h:Int),y) E)]
  |nu m=>exact#[bW 6,bW 6,hs,fin2 _ (by rw[m5];rfl)]
  rintro ρ ⟨ts,b8,b9,rfl,rfl⟩;rw[N8];exact fin _ _ hq
 case main=>
  let(rs,a1,E,i,x,g,as,h,st,ps,o,rfl,bV,ha,hh,hf,hq):=hG;let(f',e,h1,h2,h3,h4):=xO hf;have Wi:i<7:=(c7.mp bV).1;have yL:st<7:=(c7.mp h2).1;have hdg:g7 ((bf rs 7).map λp=>(Sum.inr p.1:Key)) ((bf rs 7).map λp=>T.int (p.2:Int)) (Sum.inr g)\.int (st:Int):=by rw[Co,h1];rfl
  refine#[9,_,9,_,dc bV,9,_,9,.int (h:Int),(lF Wi).trans (by rw[hh];rfl),9,_,9,_,aaW,_,hdg,9,_,9,9,_,9,.int (e:Int),(qh yL).trans (by rw[h3];rfl),_,dc h4,_,aaV,_,aaV,bW 6,?_];cases o with
  |nm y=>refine#[bW 6,bW 6,bW 6,?_];show aef au q _ [aP (c5 au rs),aP (.pin a1 (.dt (eR E) (eQ E))),aP (.int (i:Int)),aP (aZ (.call x g as)),aP (.int (h:Int)),aP (.int (st:Int)),aP (mD (.nm y)),some (.lst [.tup [.pin a1 (.dt (eR E) (eQ E)),.kt (kK (nk h x)),(eA (eR E) (eQ E) (kK (nk st y))).getD (.int 0)]],true),none,none];rw[kU];exact#[rs,a1,E,i,x,g,as,h,st,ps,.nm y,f',9,h2,ha,hq,λ_ _ h=>h]
  |nu n=>refine#[bW 6,bW 6,bW 6,?_];rw[m5];exact#[rs,a1,E,i,x,g,as,h,st,ps,.nu n,f',9,h2,ha,hq,λ_ _ h=>h]
abbrev EV:χ:=["layout","sets","place","row","home","names","given"]
def Ap:az EV qaG (ar xQ):=L2.eU
def Aq:(EV++(["one"]:χ)).Nodup:=by decide +kernel
theorem L9(D:Df K mg "wants" xQ qaG f fd)(M:uw K au)(M1:StC K dB)(xV:bP P w K mg base "read_cells" qaE 3 (bQ K 3 (Te dB)))(gy:bP P w K mg base "class_of" ["key"] 3 (bQ K 1 xS))(d_:bP P w K mg base "members" qaB 2 (bQ K 1 iw))(xW:bP P w K mg base "call_wants" qaF 1 (bQ K 3 (L7 au))):bP P w K mg base "wants" qaG 04 (bQ K 3 (CQ au dB)):=by
 refine D.fm (gf D.F Ap 9 λbL A outer s H E Ox hr ts q hG=>?_);have nd:=Ap.nd;have hu:=bG.dW hr;have np:∀{i:Nat},aY #[H,[],Ox] i:=gX;have aj:=M;have dC:=M1;have yC:=vk hu;refine#[_,(af (aJ (i:=3) nd 9 (.inr 9) (Ψ (ay (ν (aQ aj.cl aj.bt (ae 0))) (ae 2))) np)
  (af (aJ (i:=04) nd 9 5 (Ψ (ay (ν (aQ aj.cl aj.f9 (ae 0))) (ae 2))) np)
  (af (aJ (i:=05) nd 9 5 (Ψ (aQ dC.cl dC.xR (ae 1))) np)
  (af (bb (bF hu (ν (ay (ae 3) 4)) (ν aC))
   (aq (aA (Ψ (bJ (aa (ω (bB (aa (ah 05) (aa (ω (dJ (aa (ah 04) (aa (ω (ay (ae 3) 4)) ak)))) (aa (ω (qP 4 (ae 2))) ak))))) ak)))))
   aE)
  (af (bb (bF hu (ν (ay (ae 3) 4)) (ν aC))
   (aq (aA (Ψ (bJ (aa (ω (bB (aa (ah 05) (aa (ω (dJ (aa (ah 04) (aa (ω (ay (ae 3) 4)) ak)))) (aa (ω (jO yC (ae 05) (ω (dJ (aa (ah 04) (aa (ω (ay (ae 3) 4)) ak)))) (ω ag) #[9,9,9,9])) ak))))) ak)))))
   aE)
  (af (bb (bF hu (ν (ay (ae 3) 4)) (ν aC))
   (aq (aA (Ψ (bJ (aa (ω (bB (aa (ah 05) (aa (ω (dJ (aa (ah 04) (aa (ω (ay (ae 3) 4)) ak)))) (aa (ω (aw xV hr (aa (ah 1) (aa (ω (jO yC (ae 05) (ω (dJ (aa (ah 04) (aa (ω (ay (ae 3) 4)) ak)))) (ω ag) #[9,9,9,9])) (aa (ω (aw gy hr (aa (ω (ay (ae 3) 4)) ak))) ak))))) ak))))) ak)))))
   aE)
  (af (bb (bF hu (ν (ay (ae 3) 4)) (ν aC))
   (af (aJ (i:=06) nd 9 (.inr 9) (Ψ (jO yC (ae 05) (ω (dJ (aa (ah 04) (aa (ω (ay (ae 3) 4)) ak)))) (ω ag) #[9,9,9,9])) np)
   (aq (aA (Ψ (eI (ts:=["one"]) 9 (by rfl) (eG (ω (aw d_ hr (aa (ω (jO yC (ae 05) (ω (dJ (aa (ah 04) (aa (ω (ay (ae 3) 4)) ak)))) (ω ag) #[9,9,9,9])) ak)))) (λ_ _ _ _ _ _=>(aM (i:=07) Aq 9 5 np)) (λ_ _ _ _ _ _=>iL) (λ_ _ _ _ _ _=>(ω (bB (aa (ω (aQ dC.cl dC.qo (ae 1))) (aa (ω (dJ (aa (ah 07) (aa (ω (aw gy hr (aa (ω (ay (ae 3) 4)) ak))) ak)))) (aa (ah 06) ak)))))))))))
   aE)
  (af (bb (bF hu (ν (ay (ae 3) 4)) (ν aC))
   (aq (aA (Ψ (aw xW hr (aa (ah 0) (aa (ah 05) (aa (ah 2) ak)))))))
   aE)
  (aq (aA (Ψ (bJ ak)))))))))))),λ_=>?_]
 let(rs,a1,a2,E,F,i,r,h,rfl,bV,bZ,Wf,hh,hi,hbt,hq):=hG;have Wi:i<7:=(c7.mp bV).1;refine#[9,_,9,_,dc bV,9,_,9,.int (h:Int),(lF Wi).trans (by rw[hh];rfl),9,_,9,?_];have sh:(0:Int)<=(i:Int)/\(i:Int)<=1000000/\(1:Int).natAbs<2 ^ 64:=#[(),(),by decide];have hq0:=hq;have hq:=λz=>by rw[w_eq rs E F i h z] at hq;exact hq
 cases r with
 |new x=>
  replace hq:=hq 9
  exact#[_,aaU,_,aaV,bW 6,sh,bW 6,bW 6,hq]
 |put x o=>
  replace hq:=hq 9
  refine#[_,aaU,_,aaU,_,aaV,bW 6,_,aaW,?_];cases o with
  |nm y=>refine#[bW 6,bW 6,bW 6,?_];show q (.fr (.lst [.tup [.pin a1 (.dt (eR E) (eQ E)),.kt (kK ((h:Int),x)),(eA (eR E) (eQ E) (kK ((h:Int),y))).getD (.int 0)]]));rw[kU];exact hq
  |nu n=>refine#[bW 6,bW 6,bW 6,?_];rw[m5];exact hq
 |get x y k=>
  replace hq:=hq 9
  refine#[_,aaU,_,aaU,_,aaU,_,aaV,bW 6,?_];refine#[_,aaW,bW 6,_,aaX,9,_,9,Wf,9,a1,a2,E,F,eB E ((h:Int),y),eW k,?_,hbt _,bW 6,bW 6,hq];show [so dB a1 a2 E F,(eA (eR E) (eQ E) (kK ((h:Int),y))).getD (.int 0),.str (L6 (Cd k))]=_;rw[kU,CT]
 |set y k a=>
  replace hq:=hq 9
  refine#[_,aaU,_,aaU,_,aaU,_,aaU,_,aaX,?_];have fin:∀g:T,g=.int (hJ E h a)->cU (hName 07) JK (fT (ZZ (gj (fT (adC dB "cells" (ju 1))) (gj (fT (Ta (gj (ll 07) (gj (fT (qV 1 (gj (fT (f2 (ju 3) (fT (fC (.int 2))) Z3)) ui) xS)) ui)))) (gj (ll 06) ui))))) [aP (c5 au rs),aP (so dB a1 a2 E F),aP (.int (i:Int)),aP (aZ (.set y k a)),aP (.int (h:Int)),aP (.pin a1 (.dt (eR E) (eQ E))),aP g,none] (fK (mem (eB E ((h:Int),y)))) λus=>q (.fr (.lst us)):=λg eg=>by subst eg;refine gw (f:=λ(j:Nat)=>T.int (j:Int)) (λj hj r hr=>?_) (by have SE:=hq;unfold wOf at SE;rw[yE] at SE;exact SE);refine#[9,_,9,_,aaW,9,_,9,Wf,?_];refine#[bW 6,bW 6,?_];show r (.tup [.pin a2 (.dt (eR F) (eQ F)),.kt [.inl (j:Int),.inr (L6 (Cd k))],.int (hJ E h a)]);rw[CT];exact hr
  have Bp:(fK (mem (eB E ((h:Int),y)))).length<=sizeLine:=by rw[bS];have h1:=RW (ib (eB E ((h:Int),y))) (List.range (Builtin.Int.intBits (eB E ((h:Int),y))));rw[pJ] at h1;have:=hbt ((h:Int),y);exact bW (by show (List.filter _ _).length<=_;lia)
  have e1:[(eA (eR E) (eQ E) (kK ((h:Int),y))).getD (.int 0)]=[.int (eB E ((h:Int),y))]:=by rw[kU]
  cases a with
  |nm z=>exact#[bW 6,9,_,aaV,bW 6,9,eB E ((h:Int),y),e1,hbt _,Bp,fin _ (kU ((h:Int),z) E)]
  |nu n=>exact#[bW 6,9,_,aaV,bW 6,9,eB E ((h:Int),y),e1,hbt _,Bp,fin ((eA (eR E) (eQ E) [.inl (h:Int),.inl n]).getD (.int 0)) (by rw[m5];rfl)]
 |call x g as=>let(ha,(st,ps,o),hf):=bZ;rw[w_call hf] at hq0;refine#[_,aaU,_,aaU,_,aaU,_,aaU,_,aaU,9,rs,a1,E,i,x,g,as,h,st,ps,o,9,bV,ha,hh,hf,?_];rw[kH,yE] at hq0;exact hq0
 |_=>exact#[_,aaU,_,aaU,_,aaU,_,aaU,_,aaU,fB _,hq 9]
end
end iY
namespace BS
open PySem PySem.Builtin
theorem EW{p:Nat}:∀n,cnt (2 ^ p) n=if p<n then 1 else 0
 |0=>rfl
 |n+1=>by
  have ih:=EW (p:=p) n;simp only[cnt,ih,xG];by_cases e:n=p;subst e;simp;by_cases h:p<n;simp[h,e,Bj h];have:¬ p<n+1:=by lia
  simp[h,e,this]
def QX{b:Int}{p:Nat}(h:ib b p=false)(hp:p<n):cnt (bitOr b (2 ^ p)) n=cnt b n+1:=by
 rw[CN (λk h1 h2=>by rw[xG] at h2;have:=Θ h2;subst this;rw[h] at h1;cases h1),EW,ι hp]
end BS
namespace Lay
open PySem L2 VT Gen K5 BS
open PySem.Builtin (bitOr)
def ID(F:Nat->qao)(mk:Nat->Bool):Nat->Int->qao->Int
 |0,b,_=>b
 |f+1,b,t=>match t.getLast? with
  |none=>b
  |some p=>if ib b p=true then ID F mk f b t.dropLast else ID F mk f (bitOr b (2 ^ p)) (if mk p=true then t.dropLast else t.dropLast++F p)
def Yz(n:Nat)(b:Int)(t:qao):Nat:=3 * (n-cnt b n)+t.length
theorem QY(F:Nat->qao)(mk:Nat->Bool)(b:Int):∀f,ID F mk f b []=b
 |0=>rfl
 |f+1=>rfl
def QZ{F:Nat->qao}{mk:Nat->Bool}{f p:Nat}{b:Int}{t:qao}(h:ib b p=true):ID F mk (f+1) b (t++[p])=ID F mk f b t:=by simp only[ID,RX,h,aaT,X5]
def Q0{F:Nat->qao}{mk:Nat->Bool}{f p:Nat}{b:Int}{t:qao}(h:ib b p=false):ID F mk (f+1) b (t++[p])=ID F mk f (bitOr b (2 ^ p)) (if mk p=true then t else t++F p):=by simp only[ID,RX,h,NQ,aau,X5]
structure Dg(F:Nat->qao)(mk:Nat->Bool)(n:Nat)(R:Int)(m:Nat)(b:Int)(t:qao):Prop where
 is:ID F mk m b t=R
 me:Yz n b t<=m
 lt:∀p∈t,p<n
 nn:0<=b
def Dg.fin{F mk n R m b}(D:Dg F mk n R m b []):b=R:=by rw[<- D.is,QY]
def Dg.pos{F mk n R m b t p}(D:Dg F mk n R m b (t++[p])):∃m',m=m'+1:=by have:=D.me;unfold Yz at this;rw[fS,NO] at this;exact#[m-1,()]
def Dg.has{F mk n R m b t p}(D:Dg F mk n R (m+1) b (t++[p]))(h:ib b p=true):Dg F mk n R m b t :=
 #[by rw[<- D.is,QZ h],by have:=D.me;unfold Yz at this ⊢;rw[fS,NO] at this;lia,λq hq=>D.lt q (hY _ hq),D.nn]
def Dg.new{F mk n R m b t p}(D:Dg F mk n R (m+1) b (t++[p]))(h:ib b p=false)(hF:(F p).length<=2/\∀q∈F p,q<n):Dg F mk n R m (bitOr b (2 ^ p)) (if mk p=true then t else t++F p):=by
 have hp:p<n:=D.lt p 6;have hc:=QX h hp;have hle:=ow (bitOr b (2 ^ p)) n;refine#[by rw[<- D.is,Q0 h],?_,?_,Tc D.nn (Int.le_of_lt (two_pos p))];have:=D.me;unfold Yz at this ⊢;rw[fS,NO] at this;rw[hc] at hle ⊢;split
 lia
 rw[fS];lia;intro q hq;split at hq;exact D.lt q (hY _ hq);rcases fM.mp hq with z|z
 exact D.lt q (hY _ z);exact hF.2 q z
def Dg.init{F:Nat->qao}{mk:Nat->Bool}{t:qao}(h:t.length<=2/\∀q∈t,q<n):Dg F mk n (ID F mk (3 * n+2) 0 t) (3 * n+2) 0 t :=
 #[9,by unfold Yz;lia,h.2,Int.le_refl _]
def Bl.Tf(B:Bl rs)(hr:rs[j]?\r):∀x∈Ql rs j r,0<=x/\x<(7:Int):=by
 intro x hx;have hj:=(c7.mp hr).1;have nxt:∀{k:Nat},k<7->st (bh rs) (k+1)≠[]->((k:Int)+1)<(7:Int):=λ{k} hk h=>by
  have:k+1≠7:=λz=>by rw[z] at h;exact h B.W.fin
  lia
 unfold Ql at hx;split at hx;cases hx
 rename_i hg
 have hh:gF (bh rs) j≠none:=λz=>hg (.inl z);have hng:wd r≠"give":=λz=>by cases r<;>first|exact hg (.inr 9)|exact absurd z (by show ¬ ((_:Str)="give");simp only[wd];decide +kernel)
 have h1:st (bh rs) (j+1)≠[]:=λz=>by have:=B.head hr;rw[z,θ hng] at this;exact hh this.symm
 have e1:=nxt hj h1;split at hx
 rename_i hi
 have two:∀{a b:Int},x∈Qj a b->x=a\/x=b:=λ{a b} h=>by
  unfold Qj at h;split at h;exact .inl (fE.mp h);split at h;simpa using h;rcases (by simpa using h:x=b\/x=a) with z|z
  exact .inr z;exact .inl z
 have hno:0<=Qi rs j/\Qi rs j<(7:Int):=by
  unfold Qi zR;rw[hr];cases r with
  |nZ a=>
   let(e,b):=B.Ys hr (.inr 9);have tT:=rj B.W b.el (by rw[c_ b.re];rfl);have:=nxt b.el (λz=>by unfold dp at tT;rw[z] at tT;have:=b.de;have:=b.d1;unfold dp at *;simp at tT;lia);rw[b.en];dsimp only
   lia
  |wL a=>
   let(e,b):=B.Ys hr 5;dsimp only;cases hv:Qh rs j with
   |none=>rw[b.en];have:=b.el;dsimp only;lia
   |some y=>
    let(x1,x2,x3):=zQ hv;have x4:=Wa x2;have fY:st (bh rs) (y+1)≠[]:=by rw[fZ (by rw[c_ x4];rfl) (by rw[c_ x4];rfl)];intro z;unfold gE at x3;rw[z] at x3;cases x3
    have:=nxt x1 fY;dsimp only
    lia
  |_=>cases hi
 rcases two hx with z|z
 lia
 rw[z];exact hno
 rename_i hi
 rw[fE] at hx;rw[hx];unfold Wc;rw[hr];cases r with
 |pS=>
  let(_,o,a,k1,k2,_):=B.pS hr;let(e,b):=B.Ys k2 5;unfold zR Wb;rw[k1];simp only[N7];rw[b.en];have:=b.el;dsimp only
  lia
 |fin=>let(_,o,r2,k1,k2,_):=B.fin hr;have ho:=(c7.mp k2).1;unfold Wb;rw[k1];simp only[N7];rw[k2];cases r2<;>dsimp only<;>lia
 |_=>dsimp only;lia
def Hm(rs:qal)(j:Nat):qao:=match rs[j]? with
 |some r=>(Ql rs j r).map Int.toNat
 |none=>[]
def Bl.W7(B:Bl rs)(hr:rs[j]?\r):(Ql rs j r).map T.int=(Hm rs j).map λk:Nat=>T.int (k:Int):=by unfold Hm;rw[hr];dsimp only;rw[yE];refine II λx hx=>?_;have:=B.Tf hr x hx;show T.int x=T.int ((x.toNat:Nat):Int);rw[Int.toNat_of_nonneg this.1]
def Q1(rs:qal)(j:Nat)(r:Rw):(Ql rs j r).length<=2:=by unfold Ql Qj;split;simp;split;split;simp;split<;>simp;simp
def Bl.CY(B:Bl rs)(j:Nat):(Hm rs j).length<=2/\∀q∈Hm rs j,q<7:=by
 unfold Hm;cases hr:rs[j]? with
 |none=>exact#[by simp,λq hq=>nomatch hq]
 |some r=>
  dsimp only;refine#[by rw[bS];exact Q1 rs j r,λq hq=>?_];let(x,hx,rfl):=k6.mp hq;have:=B.Tf hr x hx
  lia
end Lay
namespace PySem.AutoSeq1
def p5(l:Addr)(items:Array Value)(n:Nat)(b:Addr)(sx:Array Value)(n2:Nat)(sl:Array (Option Value))(hc0:¬(!items.isEmpty && Builtin.List.listTooLong (items.size+sx.size))=true)(hc1:items.size<=sizeLine)(BH:items.size+sx.size<=sizeLine+1) :
  Meets (Builtin.«list.extend» #[[.ref l,.ref b],[]]) (λ_ R s=>s.heap.get? l=some {cls:=.type "list",dict:=none,data:=.seq items n,slots:=([].toArray)}/\s.heap.get? b=some {cls:=.type "list",dict:=none,data:=.seq sx n2,slots:=sl}/\R (.ok (.ret Value.none)) {s with heap:=s.heap.update l (Obj.mapSeq λx=>x++sx),toks:=s.toks}) :=
 .of_wp λprog w A R s h=>by
  let(hp,g,d,tk,os):=s;let(hl,hb,h):=h;have f1:=idx_int;have f2:=sub_tuple_tuple;have f3:=sub_list_list;have f4:=sub_tuple_list;have f5:=sub_list_tuple;have hz':(items++sx).size<=sizeLine+1:=by rw[Array.size_append];exact BH
  wp_walk using (wpAny_updateSeq hl 9 (hz:=hc1) (_hz':=hz')),wpAny_loadPart' hl,wpAny_loadPart' hb;exact#[_,9,h]
end PySem.AutoSeq1
namespace VT
open PySem PySem.Spec PyProof.Rows L2
section
def L_(K:qaf):V->qak->Hp->VK->Prop:=λx vs H Q=>E4 λl b xs zs=>x=.ref l/\vs=[.ref b]/\H l\.lst xs/\f_ K H b zs/\xs.length+zs.length<=sizeLine/\Q .bY (upd H l (.lst (xs++zs)))
def CZ:MtM X "list.extend" (L_ X.K):=by
 intro ε s σ H x vs v us Q I rx rv h;let(l,b,xs,zs,rfl,rfl,hH,hB,hz,q):=h;cases rx;let(u,rfl,ru):=rv.one;cases ru;let(z,aR,n,r,hl,e):=I.F8 hH;let(kq,r2,(ob,n2,e2,c1,c2,c3),Yi):=I.list hB;let(af5,SY,adP,BP):=ob;simp only at c1 c2 c3;subst c1 c2 c3;have agL:=r2.length;have hsz:aR.toArray.size+kq.toArray.size<=sizeLine:=by rw[iD,iD];lia
 have yS:¬ (!aR.toArray.isEmpty && Builtin.List.listTooLong (aR.toArray.size+kq.toArray.size))=true:=by rw[qI hsz,YW];exact iC
 refine aaI F.slot_list_extend #[_,e,9] F.entry_list_extend (F.args_list_extend_2 _ _)
  (AutoSeq1.p5 l aR.toArray n b kq.toArray n2 BP yS (by rw[iD];lia) ()) #[e,e2,?_]
 refine#[.bY,_,I.OR (its':=aR++kq) hH e 6 (r.append r2) ?_,9,q];rw[fS]
 lia
end
section
def Tg(k:Nat)(f:FE):FX:=λρ Q=>match ρ[k]? with
 |some (some (.lst ts,true))=>f ρ λr=>match r with
  |.lst us=>ts.length+us.length<=sizeLine/\Q (ρ.set k (some (.lst (ts++us),true))) (.vw .bY)
  |_=>False
 |_=>False
def Q2(k:Nat){f:FE}(he:VE X Z e f)(hN:X.N[k]?\x:=by rfl)(hv:nJ X.env.scope x:=by exact jvv 9)(hd:gG x:=by decide)(fW:tQ x:=by decide)(du:attributeBase (.Name x p) "extend" X.env (eval (.Name x p) X.env)=eval (.Name x p) X.env:=by rfl)(qH:((backTo bM (starEach [e] X.env)).all (λx=>!x.1) && (backToKw bM (keywordEach [] X.env)).all (λx=>x.1.isSome)
    && decide (([e]:qap).length+([]:List Keyword).length+(if ([]:List Keyword).isEmpty then 0 else 1)<30))=true:=by rfl)(dw:(apos.endLine==bM.line)=true:=by rfl)(hs:starEach [e] X.env=(false,eval e X.env)::starEach [] X.env:=by rfl)(gi:(backTo bM (starEach [] X.env)).any (·.1)=false:=by rfl) :
  VX X Z (.Call (.Attribute (.Name x p) "extend" apos) [e] [] bM) (Tg k f):=.mk λtm=>
 PE.weak (yR aco PySem.F.slot_list_extend PySem.F.type_list_extend CZ (cM hN hv hd fW) (bD (he tm) cV hs) du qH dw hs gi) λσ H Q #[ρ,O,q,I,hf,kk]=>by
  unfold Tg at hf;split at hf
  rename_i ts e0
  let(l,h1,h2,xs,h3,h4):=I.root e0;have ha:l∈av Z O:=hY _ (aH.mpr (fL h1));refine#[.ref l,h2,.inl #[9,xs,f_.of h3],ρ,O,_,I,hf,λr hr v H1 s1 z=>?_];split at hr;let(hz,hq):=hr;have J:=I.same s1;simp only[At] at z;let(b,zs,rfl,hb,aL):=z;refine#[l,b,xs,zs,9,9,s1 _ _ h3,hb.sq,by rw[h4.length,aL.length];exact hz,kk _ _ hq O _ _ #[J.wrote e0 h1 #[xs++zs,aK,?_],qM]];exact ((h4.same s1).append aL).wrote ha (s1 _ _ h3) 9;exact hr.elim;exact hf.elim
end
end VT
namespace Nt
open PySem L2 VT Gen K5 Lay BS IB MK
open Nx (Cv)
open iY (jM)
abbrev sy:Stmt:=top 1
abbrev qp:Stmt:=top 16
abbrev jQ:Stmt:=top 31
abbrev sA:Stmt:=top 32
abbrev hU:Stmt:=top 44
structure S6(K:qaf)(mg:qae):Prop where
 list:mg "list"=none
 len:mg "len"=none
 range:mg "range"=none
 enumerate:mg "enumerate"=none
 NM:∃a,mg "NAME_MAKERS"\.ref a/\∀H,e_ K H a [.str "put",.str "do",.str "new",.str "get",.str "call"]
def bW(h:n<=1000):n<=sizeLine:=Gen.small h
abbrev nT(ks:qao):Λ:=ks.map λk:Nat=>T.int (k:Int)
def Bs(ks:qao):Int:=ks.foldl (λt (k:Nat)=>Builtin.bitOr t (1 * 2 ^ ((k:Int)).toNat)) 0
def cR:Rw->χ
 |.df _ ps=>ps
 |.put x _=>[x]
 |.uo x _ _ _=>[x]
 |.new x=>[x]
 |.get x _ _=>[x]
 |.call x _ _=>[x]
 |_=>[]
def YA:χ:=["put","do","new","get","call"]
def noW:χ:=["give","set","fail","if","else","while","end","skip"]
def aeh:∀x∈YA,x≠"def":=by decide +kernel
def Ti:∀x∈noW,x≠"def"/\x∉YA:=by decide +kernel
def mkc(r:Rw):(E2 λf ps=>r=.df f ps)\/(E2 λx l=>aZ r=.tup (.str (wd r)::.str x::l)/\wd r∈YA/\cR r=[x])\/(cR r=[]/\wd r∈noW):=by
 cases r<;>first
  |exact .inl #[_,_,9]
  |exact .inr (.inl #[_,_,9,by simp[YA,wd],9])
  |exact .inr (.inr #[9,by simp[noW,wd]])
def mkN(rs:qal)(x:Str)(k:Nat):Bool:=match rs[k]? with
 |some r=>decide (x∈cR r)
 |none=>false
def C0(rs:qal):Λ:=(List.range 7).map λj=>.lst ((Hm rs j).map λk:Nat=>T.int (k:Int))
def Ma(h:j<7):h9 (C0 rs) (j:Int)\.lst ((Hm rs j).map λk:Nat=>T.int (k:Int)):=ai (by unfold C0;rw[fU,RU h];rfl)
def W8(rs:qal)(x:Str)(j:Nat):Int:=ID (Hm rs) (mkN rs x) (3 * 7+2) 0 (Hm rs j)
def sC(rs:qal)(i:Nat)(E:List Ent)(xs:χ):List Ent:=xs.foldl (λE x=>eV E ((i:Int),x) (W8 rs x i)) E
def Mb(rs:qal)(E:List Ent)(i:Nat):List Ent:=match rs[i]? with
 |some r=>sC rs i E (cR r)
 |none=>E
def fz(rs:qal)(k:Nat):List Ent:=(List.range k).foldl (Mb rs) []
def sD(rs:qal)(k:Nat):fz rs (k+1)=Mb rs (fz rs k) k:=by unfold fz;rw[T_,R0];rfl
def Q3(E:List Ent)(k:Int×Str)(v:Int):(eV E k v).length<=E.length+1:=by unfold eV;split;rw[bS];lia;rw[fS];simp
theorem m8(rs:qal)(i:Nat):∀(xs:χ)(E:List Ent),(sC rs i E xs).length<=E.length+xs.length
 |[],E=>by simp[sC]
 |x::xs,E=>by
  have h:=m8 rs i xs (eV E ((i:Int),x) (W8 rs x i));have g:=Q3 E ((i:Int),x) (W8 rs x i);rw[vR];show (sC rs i (eV E _ _) xs).length<=_
  lia
def EX(ts:Λ)(q:qam):Prop:=∃ks:qao,ts=[.lst (nT ks)]/\(∀k∈ks,k<=1000)/\q (.vw (.int (Bs ks)))
def C1(ts:Λ)(q:qam):Prop:=∃r:Rw,ts=[aZ r]/\q (.fr (.lst ((cR r).map .str)))
def aei(C:Addr)(ts:Λ)(q:qam):Prop:=∃rs:qal,ts=[c5 C rs]/\Bl rs/\7<=100/\q (.fr (.lst (C0 rs)))
def EY(ts:Λ)(q:qam):Prop:=E3 λ(rs:qal) (j:Nat) (x:Str)=>ts=[.lst (rs.map aZ),.lst (C0 rs),.int (j:Int),.str x]/\Bl rs/\7<=100/\j<7/\q (.vw (.int (W8 rs x j)))
def aej(C:Addr)(ts:Λ)(q:qam):Prop:=∃rs:qal,ts=[c5 C rs]/\Bl rs/\7<=100/\(∀r∈rs,(cR r).length<=10)/\∀o,q (.vw (.df o (eR (fz rs 7)) (eQ (fz rs 7))))
def aek{c:Bool}{A:Prop}(h:c=true)(a:A):if c=true then A else B:=by rw[h];exact a
theorem lU:∀l:χ,mz (l.map T.str)=true
 |[]=>rfl
 |x::l=>by simp only[kH,mz,lU l];rfl
section
abbrev Mc:χ:=["rows","told","row"]
def vE:az Mc qaB (ar sy):=L2.eU
def Hn(D:Df K mg "set_of" sy qaB f fd):bP P w K mg base "set_of" qaB 1 (bQ K 1 EX):=by
 refine D.fm (gf D.F vE 9 λbL A outer s H E Ox hr ts q hG=>?_);have nd:=vE.nd;have np:∀{i:Nat},aY #[H,[],Ox] i:=gX;refine#[_,(af (aJ (i:=1) nd 9 5 (Ψ ag) np)
  (af (cQ nG 9 (eG (ah 0)) (aM (i:=2) nd 9 5 np)
   (aq (lr (i:=1) nd 9 5 (ν (qP 4 (ae 2))) k8 gH np)))
  (aq (aA (Ψ (VE.vp (ah 1))))))),λ_=>?_]
 let(ks,rfl,hk,hq):=hG;refine eJ (f:=λk:Nat=>T.int (k:Int)) (xs:=ks) (λi ρ=>E2 λb2 v=>ρ=[aP (.lst (nT ks)),aP (.int v),b2]/\v=Bs (ks.take i)) #[none,_,9,9] ?_ ?_;rintro i k ρ hx ⟨b2,_,rfl,rfl⟩;have yA:=hk k (fL hx);refine#[#[(),(),by decide],_,_,9,?_];unfold Bs;rw[T7,hx,R0];rfl;rintro ρ ⟨b2,_,rfl,rfl⟩;rw[N8];exact hq
abbrev EZ:χ:=qaC
def Ar:az EZ qaC (ar qp):=L2.eU
def Md(D:Df K mg "makes" qp qaC f fd)(M:S6 K mg):bP P w K mg base "makes" qaC 1 (bQ K 1 C1):=by
 refine D.fm (gf D.F Ar 9 λbL A outer s H E Ox hr ts q hG=>?_);have nd:=Ar.nd;have hu:=bG.dW hr;let(ac,mc,V8):=M.NM;have uF:∀{pos},VP (h7 iA P w K mg base EZ "makes" (ar qp) f bL A outer s H E).vV #[H,[],Ox] (.Name "NAME_MAKERS" pos) (fC (.tup [.str "put",.str "do",.str "new",.str "get",.str "call"])):=iJ (by rfl) mc (v:=.ref ac) 9 λH A=>cj (V8 H) (aD.cons cO (aD.cons cO (aD.cons cO (aD.cons cO (aD.cons cO aD.nil)))));refine#[_,(af (bb (bF hu (ν (ay (ae 0) 4)) (ν aC))
    (aq (aA (Ψ (ic iG lq (by rfl) M.list B4 (aO (ν (ay (ae 0) 4)) aX)))))
    aE)
   (aq (aA (Ψ (Ju (u_ (ν (ay (ae 0) 4)) (ν uF)) (bJ (aa (ω (ay (ae 0) 4)) ak)) (bJ ak)))))),λ_=>?_]
 let(r,rfl,hq):=hG;rcases mkc r with⟨f,ps,rfl⟩|⟨x,l,el,hw,hm⟩|⟨hm,hw⟩
 exact#[_,aaU,_,aaW,hq];rw[hm] at hq;rw[el];refine#[_,aaU,cH (λz=>absurd z (aeh _ hw)) (λ_=>#[_,aaU,9,9,?_])];show if mB (.str (wd r)) (YA.map T.str)=true then _ else _
 rw[gL];exact cH (λ_=>#[_,aaV,bW 6,hq]) (λz=>absurd hw z);let(l,el):=j8 r;rw[hm] at hq;rw[el];refine#[_,aaU,cH (λz=>absurd z (Ti _ hw).1) (λ_=>#[_,aaU,9,9,?_])];show if mB (.str (wd r)) (YA.map T.str)=true then _ else _
 rw[gL];exact cH (λz=>absurd z (Ti _ hw).2) (λ_=>#[fB _,hq])
abbrev ph:χ:=qaH
def m9:az ph qaH (ar jQ):=L2.eU
def p6:(ph++(["place"]:χ)).Nodup:=by decide +kernel
def xX(D:Df K mg "all_nexts" jQ qaH f fd)(M:S6 K mg)(M1:uw K au)(As:bP P w K mg base "next_rows" qay 2 (bQ K 2 (Cv au))):bP P w K mg base "all_nexts" qaH 3 (bQ K 1 (aei au)):=by
 refine D.fm (gf D.F m9 9 λbL A outer s H E Ox hr ts q hG=>?_);have nd:=m9.nd;have np:∀{i:Nat},aY #[H,[],Ox] i:=gX;have aj:=M1;refine#[_,(aq (aA (Ψ (eI (ts:=qax) 9 (by rfl) (cX (by rfl) M.range (ν (aS aT aV (by rfl) M.len l0 (aO (ν (aQ aj.cl aj.bt (ae 0))) aX)))) (λ_ _ _ _ _ _=>(aM (i:=1) p6 9 5 np)) (λ_ _ _ _ _ _=>iL) (λ_ _ _ _ _ _=>(ω (aw As hr (aa (ah 0) (aa (ah 1) ak))))))))),λ_=>?_];let(rs,rfl,B,hn,hq):=hG;have eL:(rs.map aZ).length=7:=bS _;refine#[9,9,_,9,(by show -(2 ^ 62:Int)<=((rs.map aZ).length:Int);lia),(by show ((rs.map aZ).length:Int)<(2 ^ 62:Int);lia),?_];refine#[by rw[iN];exact Gen.small (by show (((rs.map aZ).length:Int)).toNat<=1000;lia),?_];have en:(((rs.map aZ).length:Int)).toNat=7:=by lia
 show cU _ _ _ _ (rangeT 0 (((rs.map aZ).length:Int)).toNat) _;rw[en];refine Ak (u:=λj=>.lst ((Hm rs j).map λk:Nat=>T.int (k:Int))) (λi hi r bV=>?_) hq;obtain⟨rw',pU⟩:∃r,rs[i]?\r:=#[_,eZ hi];refine#[9,rs,i,rw',by rw[Ii],B,pU,?_];show r (.lst ((Ql rs i rw').map .int));rw[B.W7 pU];exact bV
abbrev Me:χ:=["program","followers","row","name","told","waiting","place"]
def vF:az Me qaI (ar sA):=L2.eU
def Ho(D:Df K mg "spread" sA qaI f fd)(M:S6 K mg)(An:bP P w K mg base "has" qaA 1 (bQ K 2 jM))(jR:bP P w K mg base "set_of" qaB 1 (bQ K 1 EX))(xY:bP P w K mg base "makes" qaC 1 (bQ K 1 C1)):bP P w K mg base "spread" qaI 2 (bQ K 04 EY):=by
 refine D.fm (gf D.F vF 9 λbL A outer s H E Ox hr ts q hG=>?_);have nd:=vF.nd;have np:∀{i:Nat},aY #[H,[],Ox] i:=gX;refine#[_,(af (aJ (i:=04) nd 9 5 (Ψ ag) np)
  (af (cP (i:=05) nd 9 5 (Ψ (ic iG lq (by rfl) M.list B4 (aO (ν (ay (ae 1) (ae 2))) aX))) np)
  (af (qT nG (y3 (ν (aS aT aV (by rfl) M.len l0 (aO (ae 05) aX))) 4)
   (af (aJ (i:=06) nd 9 5 (wu 05 acz acA we p_) np)
   (aq (bb (wo (fO (aw An hr (aa (ah 04) (aa (ah 06) ak)))))
    (af (lr (i:=04) nd 9 5 (ν (aw jR hr (aa (ω (bJ (aa (ah 06) ak))) ak))) k8 gH np)
    (aq (bb (JV (ae 3) (ν (aw xY hr (aa (ω (ay (ae 0) (ae 06))) ak))))
     (aq (bA (Q2 05 (ω (ay (ae 1) (ae 06))))))
     aE)))
    aE))))
  (aq (aA (Ψ (VE.vp (ah 04)))))))),λ_=>?_]
 let(rs,j,x,rfl,B,hn,hj,hq):=hG;have nTl:∀t:qao,(t.map λk:Nat=>T.int (k:Int)).length=t.length:=λt=>bS _;refine#[_,Ma hj,?_];refine#[λm ρ=>E4 λ(b:Int) (t:qao) (b6:Option (T×Bool)) (tt:Λ)=>ρ=[aP (.lst (rs.map aZ)),aP (.lst (C0 rs)),aP (.int (j:Int)),aP (.str x),aP (.int b),some (.lst tt,true),b6]/\tt=t.map (λk:Nat=>T.int (k:Int))/\Dg (Hm rs) (mkN rs x) 7 (W8 rs x j) m b t/\m<=1000,#[_,0,Hm rs j,none,_,9,9,Dg.init (B.CY j),()],?_];rintro m ρ ⟨b,t,b6,_,rfl,rfl,D,N1⟩;refine cH (λh=>?_) (λh=>?_);have h':((t.map λk:Nat=>T.int (k:Int)).length:Int) > 0:=h;rw[nTl] at h';have fY:t≠[]:=λz=>by rw[z] at h';simp at h'
 obtain⟨t0,p,rfl⟩:E2 λt0 p=>t=t0++[p]:=#[t.dropLast,t.getLast fY,(acw fY).symm];let(m',rfl):=D.pos;have hp:p<7:=D.lt p 6;obtain⟨r,bV⟩:∃r,rs[p]?\r:=#[_,eZ hp];have e1:((t0++[p]).map λk:Nat=>T.int (k:Int))=(t0.map λk:Nat=>T.int (k:Int))++[T.int (p:Int)]:=by rw[nD];rfl
 have hD:=D.me;have di:t0.length<=m':=by
  unfold Yz at hD;rw[fS,NO] at hD
  lia
 rw[e1];refine#[9,T.int (p:Int),?_,?_];rw[fS,NO,Nat.add_sub_cancel,uN (cL _),Nat.sub_self];rfl;rw[X5];refine#[9,b,p,9,?_];cases hb:ib b p with
 |true=>refine gY 9 ?_;exact#[m',qw _,b,t0,_,_,9,9,D.has hb,()]
 |false=>
  refine aek 9 ?_;have D':=D.new hb (B.CY p);have o1:Bs [p]=2 ^ p:=g_ λi=>by show ib (Builtin.bitOr 0 (1 * 2 ^ ((p:Int)).toNat)) i=_;rw[dZ,BS.dm,Ih,Int.one_mul,i_]
  rw[<- o1] at D';refine#[bW 6,9,[p],9,λk hk=>by rw[fE.mp hk];lia,_,dc bV,9,r,9,9,lU _,?_];have ein:mB (.str x) ((cR r).map T.str)=decide (x∈cR r):=gL x _;have emk:mkN rs x p=decide (x∈cR r):=by unfold mkN;rw[bV]
  show if (!mB (.str x) ((cR r).map T.str))=true then _ else _
  rw[ein,<- emk];cases hm:mkN rs x p with
  |true=>rw[hm,ι 9] at D';refine gY 9 ?_;exact#[m',qw _,_,t0,_,_,9,9,D',()]
  |false=>rw[hm,θ iC] at D';refine aek 9 ?_;have hlen:=(B.CY p).1;refine#[_,Ma hp,?_,m',qw _,_,t0++Hm rs p,_,_,9,?_,D',()];rw[nTl,nTl,π];lia;rw[nD]
 have h':¬ ((t.map λk:Nat=>T.int (k:Int)).length:Int) > 0:=h;rw[nTl] at h';have hz:t=[]:=NL.mp ();subst hz;have:=D.fin;subst this;exact hq
abbrev uG:χ:=["layout","followers","told","place","row","name"]
def jS:az uG qaH (ar hU):=L2.eU
def sF(D:Df K mg "arrivals_of" hU qaH f fd)(M:S6 K mg)(M1:uw K au)(Au:bP P w K mg base "all_nexts" qaH 3 (bQ K 1 (aei au)))(xY:bP P w K mg base "makes" qaC 1 (bQ K 1 C1))(Mf:bP P w K mg base "spread" qaI 2 (bQ K 04 EY)):bP P w K mg base "arrivals_of" qaH 04 (bQ K 1 (aej au)):=by
 refine D.fm (gf D.F jS 9 λbL A outer s H E Ox hr ts q hG=>?_);have nd:=jS.nd;have hu:=bG.dW hr;have np:∀{i:Nat},aY #[H,[],Ox] i:=gX;have aj:=M1;have yC:=vk hu;refine#[_,(af (aJ (i:=1) nd 9 5 (Ψ (aw Au hr (aa (ah 0) ak))) np)
  (af (cP (i:=2) nd 9 5 (Ψ LD) np)
  (af (cQ nG 9 (gK (by rfl) M.enumerate (ω (aQ aj.cl aj.bt (ae 0)))) (ff (n:=2) 9 (bq (aM (i:=3) nd 9 5 np) (bq (aM (i:=04) nd 9 5 np) dI)))
   (aq (cQ nG 9 (eG (ω (aw xY hr (aa (ah 04) ak)))) (aM (i:=05) nd 9 5 np)
    (aq (LG 2 yC (ω (aw Mf hr (aa (ω (aQ aj.cl aj.bt (ae 0))) (aa (ah 1) (aa (ah 3) (aa (ah 05) ak)))))) (aa (ah 3) (aa (ah 05) ak)))))))
  (QA 2 np (aq (aA (Ψ (VE.vp (ah 2))))))))),λ_=>?_]
 let(rs,rfl,B,hn,hm,hq):=hG;refine#[9,rs,9,B,hn,9,_,9,?_];refine j9 (λk ρ=>E5 λks vs b3 b4 b5=>ρ=[aP (c5 au rs),aP (.lst (C0 rs)),some (.dt ks vs,true),b3,b4,b5]/\ks=eR (fz rs k)/\vs=eQ (fz rs k)/\(fz rs k).length<=k * 10) #[_,_,none,none,none,9,9,9,by simp[fz]] ?_ ?_;rintro k r ρ bV ⟨_,_,b3,b4,b5,rfl,rfl,rfl,hl⟩;have hk:=(c7.mp bV).1;have h10:=hm r (fL bV);have es:fz rs (k+1)=sC rs k (fz rs k) (cR r):=by rw[sD];unfold Mb;rw[bV]
 have ln:=m8 rs k (cR r) (fz rs k);refine#[9,9,9,r,9,?_];show oX ((cR r).map T.str) _ _ _ _;refine eJ (λn ρ=>E3 λks vs b5=>ρ=[aP (c5 au rs),aP (.lst (C0 rs)),some (.dt ks vs,true),aP (.int (k:Int)),aP (aZ r),b5]/\ks=eR (sC rs k (fz rs k) ((cR r).take n))/\vs=eQ (sC rs k (fz rs k) ((cR r).take n))) #[_,_,_,9,9,9] ?_ ?_;rintro n x ρ hx ⟨_,_,b5,rfl,rfl,rfl⟩;have l2:=m8 rs k ((cR r).take n) (fz rs k);have l3:((cR r).take n).length<=10:=by rw[N5];lia
 have e2:sC rs k (fz rs k) ((cR r).take (n+1))=eV (sC rs k (fz rs k) ((cR r).take n)) ((k:Int),x) (W8 rs x k):=by unfold sC;rw[T7,hx,R0];rfl
 refine#[9,_,9,9,rs,k,x,9,B,hn,hk,#[bW 6,by unfold eQ;rw[bS];lia],_,_,_,9,?_,?_];rw[e2];exact CK _ ((k:Int),x) _;rw[e2];exact gk _ ((k:Int),x) _;rintro ρ ⟨_,_,b5,rfl,rfl,rfl⟩;rw[N8,<- es];exact#[_,_,_,_,_,9,9,9,by rw[es];lia];rintro ρ ⟨_,_,b3,b4,b5,rfl,rfl,rfl,hl⟩;exact λo=>hq o
end
end Nt
namespace Us
open PySem L2 VT Gen y0 Nm
abbrev lV:Stmt:=top 014
abbrev C2:Stmt:=top 015
abbrev qq:Stmt:=top 17
def ael:List (Str×T):=[("give",.tup [.int 1]),("put",.tup [.int 2]),("do",.tup [.int 2,.int 04]),("get",.tup [.int 2,.int 3]),("set",.tup [.int 1,.int 2,.int 3]),("if",.tup [.int 1]),("while",.tup [.int 1])]
structure MgU(w:World)(K:qaf)(mg:qae):Prop where
 list:mg "list"=none
 sorted:mg "sorted"=none
 set:mg "set"=none
 US:∃a,mg "USED_PLACES"\.ref a/\Es w K a ael
 DV:∃a,mg "DIVISIONS"\.ref a/\∀H,e_ K H a [.str "over",.str "rest"]
def oC:Rw->Λ
 |.give a=>[mD a]
 |.wL a=>[mD a]
 |.nZ a=>[mD a]
 |.put _ a=>[mD a]
 |.uo _ a _ b=>[mD a,mD b]
 |.get _ r k=>[.str r,Cd k]
 |.set r k a=>[.str r,Cd k,mD a]
 |.call _ _ as=>as.map mD
 |_=>[]
def zB:nH->Bool
 |.nm _=>true
 |.nu i=>decide (i=0)
def sG:Rw->Bool
 |.uo _ _ op b=>mB (.str op) [.str "over",.str "rest"] && zB b
 |.fail _=>true
 |.nZ _=>true
 |_=>false
def Av:Rw->Λ
 |.call _ _ as=>as.map mD
 |r=>(oC r).filter λt=>!Qs t
def Tj(ts:Λ)(q:qam):Prop:=∃r:Rw,ts=[aZ r]/\(∀t∈oC r,kB t)/\q (.fr (.lst (Av r)))
structure Aw(r:Rw):Prop where
 pt:∀t∈oC r,kB t
 n:(oC r).length<=10
 dn:∀x a op y,r=.uo x a op (.nm y)->cW y=true/\y.length<=1000
def nmT:T->Option Str
 |.str x=>if cW x=true then some x else none
 |_=>none
def Ax(r:Rw):χ:=(Av r).filterMap nmT
def To(ts:Λ)(q:qam):Prop:=∃r:Rw,ts=[aZ r]/\Aw r/\∀zs:χ,(∀x,x∈zs↔x∈Ax r)->q (.fr (.lst (zs.map .str)))
def Mh(ts:Λ)(q:qam):Prop:=∃r:Rw,ts=[aZ r]/\Aw r/\q (.vw (.bl (sG r)))
theorem E1:∀l:Λ,l.filter kR=(l.filterMap nmT).map .str
 |[]=>rfl
 |t::l=>by
  have ih:=E1 l;cases t with
  |str x=>by_cases h:cW x=true;rw[YI (show kR (.str x)=true from h),List.filterMap_cons_some (show nmT (.str x)\x from ι h),ih];rfl;rw[YJ (show ¬ kR (.str x)=true from h),List.filterMap_cons_none (show nmT (.str x)=none from θ h),ih]
  |_=>exact ih
theorem E_(ys:χ)(x:Str):∀k,k<=ys.length->(x∈met (λi=>ys.getD i Str.empty) k↔x∈ys.take k)
 |0,_=>by simp[met]
 |k+1,h=>by
  have ih:=E_ ys x k ();simp only[met,SW];rw[T7,vQ,eZ (show k<ys.length by lia)];simp only[N7,Option.toList_some,fM,fE,<- ih];split
  rename_i z
  exact#[.inl,λy=>y.elim id λe=>by rw[e];exact z];rw[fM,fE]
def Mi(ys:χ)(x:Str):x∈once ys↔x∈ys:=by
 have:=E_ ys x ys.length (cL _)
 rwa [N8] at this
section
abbrev lW:χ:=["row","parts"]
def pk:az lW qaC (ar lV):=L2.eU
def sI:(lW++(["place"]:χ)).Nodup:=by decide +kernel
def sJ:(lW++(["part"]:χ)).Nodup:=by decide +kernel
def Ay(D:Df K mg "operands" lV qaC f fd)(M:MgU w K mg)(lT:bP P w K mg base "is_field" qaz 2 (bQ K 1 Cm)):bP P w K mg base "operands" qaC 3 (bQ K 1 Tj):=by
 refine D.fm (gf D.F pk 9 λbL A outer s H E Ox hr ts q hG=>?_);have nd:=pk.nd;have hu:=bG.dW hr;have np:∀{i:Nat},aY #[H,[],Ox] i:=gX;let(aU,uH,sL):=M.US;refine#[_,(af (bb (bF hu (ν (ay (ae 0) 4)) (ν aC))
    (aq (aA (Ψ (ic iG lq (by rfl) M.list B4 (aO (ν (ay (ae 0) 4)) aX)))))
    aE)
   (af (D7 (i:=1) (ts:=qax) nd 9 5 9 (by rfl) (eG (ω (KO (by rfl) uH sL (ν (ay (ae 0) 4)) (ω (bB ak)) #[9,9,9,9]))) (λ_ _ _ _ _ _=>(aM (i:=2) sI 9 5 np)) (λ_ _ _ _ _ _=>iL) (λ_ _ _ _ _ _=>(ω (ay (ae 0) (ae 2)))) np)
   (aq (aA (Ψ (eI (ts:=["part"]) 9 (by rfl) (eG (ah 1)) (λ_ _ _ _ _ _=>(aM (i:=2) sJ 9 5 np)) (λ_ _ _ _ _ _=>(j6 (wo (fO (aw lT hr (aa (ah 2) ak)))))) (λ_ _ _ _ _ _=>(ah 2)))))))),λ_=>?_]
 let(r,rfl,hl,hq):=hG;have fin:∀(ps:Λ),(∀t∈ps,kB t)->q (.fr (.lst (ps.filter λt=>!Qs t)))->cU (hName 2) (ZX (mq (qV 1 (gj (ll 2) ui) Cm))) (ll 2) [aP (aZ r),aP (.lst ps),none] ps λus=>q (.fr (.lst us)):=λps NZ hq=>by refine ie (λt=>!Qs t) (λt=>t) (λt ht k r h=>?_) (by rw[List.map_id'];exact hq);refine#[9,t,9,NZ t ht,?_];exact h
 cases r with
 |call x f as=>exact#[_,aaU,_,aaX,hq]
 |give a=>refine#[_,aaU,9,_,aaU,fB _,?_];show ([T.int 1]:Λ).length<=sizeLine/\cU _ _ _ _ [T.int 1] _;exact#[bW 6,_,aaV,9,bW 6,fin _ hl hq]
 |wL a=>refine#[_,aaU,9,_,aaU,fB _,?_];show ([T.int 1]:Λ).length<=sizeLine/\cU _ _ _ _ [T.int 1] _;exact#[bW 6,_,aaV,9,bW 6,fin _ hl hq]
 |nZ a=>refine#[_,aaU,9,_,aaU,fB _,?_];show ([T.int 1]:Λ).length<=sizeLine/\cU _ _ _ _ [T.int 1] _;exact#[bW 6,_,aaV,9,bW 6,fin _ hl hq]
 |put x a=>refine#[_,aaU,9,_,aaU,fB _,?_];show ([T.int 2]:Λ).length<=sizeLine/\cU _ _ _ _ [T.int 2] _;exact#[bW 6,_,aaW,9,bW 6,fin _ hl hq]
 |uo x a op b=>refine#[_,aaU,9,_,aaU,fB _,?_];show ([T.int 2,T.int 04]:Λ).length<=sizeLine/\cU _ _ _ _ [T.int 2,T.int 04] _;exact#[bW 6,_,aaW,_,aaY,9,bW 6,fin _ hl hq]
 |get x y k=>refine#[_,aaU,9,_,aaU,fB _,?_];show ([T.int 2,T.int 3]:Λ).length<=sizeLine/\cU _ _ _ _ [T.int 2,T.int 3] _;exact#[bW 6,_,aaW,_,aaX,9,bW 6,fin _ hl hq]
 |set y k a=>refine#[_,aaU,9,_,aaU,fB _,?_];show ([T.int 1,T.int 2,T.int 3]:Λ).length<=sizeLine/\cU _ _ _ _ [T.int 1,T.int 2,T.int 3] _;exact#[bW 6,_,aaV,_,aaW,_,aaX,9,bW 6,fin _ hl hq]
 |_=>refine#[_,aaU,9,_,aaU,fB _,?_];show ([]:Λ).length<=sizeLine/\cU _ _ _ _ [] _;exact#[fB _,9,fB _,fin _ hl hq]
abbrev Mj:χ:=qaC
def Fb:az Mj qaC (ar C2):=L2.eU
def C3:(Mj++(["part"]:χ)).Nodup:=by decide +kernel
def Q5(D:Df K mg "uses" C2 qaC f fd)(M:MgU w K mg)(C4:bP P w K mg base "operands" qaC 3 (bQ K 1 Tj))(ir:bP P w K mg base "is_name" qaz 1 (bQ K 1 l9)):bP P w K mg base "uses" qaC 04 (bQ K 1 To):=by
 refine D.fm (gf D.F Fb 9 λbL A outer s H E Ox hr ts q hG=>?_);have nd:=Fb.nd;have np:∀{i:Nat},aY #[H,[],Ox] i:=gX;refine#[_,(aq (aA (Ψ (Cu 9 (by rfl) M.sorted (by rfl) M.set (ν (eI (ts:=["part"]) 9 (by rfl) (eG (ω (aw C4 hr (aa (ah 0) ak)))) (λ_ _ _ _ _ _=>(aM (i:=1) C3 9 5 np)) (λ_ _ _ _ _ _=>(j6 (fO (aw ir hr (aa (ah 1) ak))))) (λ_ _ _ _ _ _=>(ah 1)))))))),λ_=>?_];let(r,rfl,R,hq):=hG;have Bq:∀t∈Av r,kB t:=λt ht=>R.pt t (by cases r<;>first|exact ht|exact (N9.mp ht).1);have Pw:(Av r).length<=10:=by refine kJ ?_ R.n;cases r<;>first|exact cL _|exact RW _ _
 refine#[9,9,r,9,R.pt,bW (),?_];refine ie kR (λt=>t) (λt ht k r h=>?_) ?_;exact#[9,t,9,(Bq t ht).flat,(Bq t ht).short,h];rw[List.map_id',E1];refine#[_,9,?_,λzs h1 h2=>hq zs λx=>h1.mem_iff.trans (Mi _ _)];have:=List.length_filterMap_le nmT (Av r)
 lia
abbrev Fc:χ:=qaC
def Az:az Fc qaC (ar qq):=L2.eU
def Ml(D:Df K mg "risky" qq qaC f fd)(M:MgU w K mg)(ir:bP P w K mg base "is_name" qaz 1 (bQ K 1 l9)):bP P w K mg base "risky" qaC 2 (bQ K 1 Mh):=by
 refine D.fm (gf D.F Az 9 λbL A outer s H E Ox hr ts q hG=>?_);have nd:=Az.nd;have hu:=bG.dW hr;let(ac,mc,V8):=M.DV;have AA:∀{pos},VP (h7 iA P w K mg base Fc "risky" (ar qq) f bL A outer s H E).vV #[H,[],Ox] (.Name "DIVISIONS" pos) (fC (.tup [.str "over",.str "rest"])):=iJ (by rfl) mc (v:=.ref ac) 9 λH A=>cj (V8 H) (aD.cons cO (aD.cons cO aD.nil));refine#[_,(af (bb (bF hu (ν (ay (ae 0) 4)) (ν aC))
    (aq (aA (Ψ (B0 (JU (ν (ay (ae 0) 4)) (ν AA)) (wq (Sj (aw ir hr (aa (ω (ay (ae 0) 4)) ak)) (wq (DZ hu (ν (ay (ae 0) 4)) 4))))))))
    aE)
   (aq (aA (Ψ (JU (ν (ay (ae 0) 4)) (ν (bB (aa (ω aC) (aa (ω aC) ak))))))))),λ_=>?_]
 let(r,rfl,R,hq):=hG;have hn:∀x a op b,r=.uo x a op b->∀y,b=.nm y->cW y=true:=λx a op b e y e2=>(R.dn x a op y (by rw[e,e2])).1;have hs:∀x a op b,r=.uo x a op b->∀y,b=.nm y->y.length<=1000:=λx a op b e y e2=>(R.dn x a op y (by rw[e,e2])).2;cases r with
 |uo x a op b=>
   have tS:q (.vw (.bl (mB (.str op) [.str "over",.str "rest"] && zB b))):=hq;refine#[_,aaU,_,aaX,9,9,?_];refine z0 (c:=mB (.str op) [.str "over",.str "rest"]) (λh=>?_) (λh=>?_);rw[h,yx] at tS;cases b with
   |nm y=>refine#[_,aaY,9,_,9,9,λz e=>?_,?_];cases e;exact hs _ _ _ _ 9 y 9;show Ll (.vw (.bl (cW y))) _ _;rw[hn _ _ _ _ 9 y 9];exact tS
   |nu i=>exact#[_,aaY,9,_,9,9,λz e=>(nomatch e),_,aaY,tS]
   rw[h,Ig] at tS;exact tS
 |_=>exact#[_,aaU,_,aaU,bW 6,9,9,hq]
end
end Us
namespace VT
open PySem PySem.Spec PyProof.Rows L2
section
variable{A:qah}
def At.frame{t:T}(here:∀b∈A,∃u,H b\u/\pP u=true)(fr:∀b o,H b\o->b∉A->H' b\o)(h:At K H A t v):At K H' A t v:=by
 have rd:∀{a:Addr}{u:HO},a∉A->Rd H a u->Rd H' a u:=λn q=>q.elim (λz=>.inl (fr _ _ z n)) λ#[o,z]=>.inr #[o,fr _ _ z n];refine At.map (λa vs q=>q.elim (λz=>.inl #[rd z.2 z.1,z.2]) .inr) (λa vs q=>q.elim (λz=>.inl (rd (λm=>?_) z)) .inr) (λa u q=>#[fr _ _ q.1 q.2,q.2]) h;let(u,e,mu):=here a m;obtain z|⟨o,z⟩:=z
 rw[e] at z;cases z;cases mu;rw[e] at z;cases z;cases mu
end
def aem:S2:=#[[],[],[],[]]
def gMk(i j:Nat)(Gg:T->S2->(S2->T->Prop)->Prop)(W9:Λ->(qam)->Prop):SN:=λ_ dp ρ=>i<ρ.length/\match ρ[j]? with
 |some (some (l,false))=>∃W:Nat->S2->Prop,(∃m,W m aem)/\∀m s,W m s->Gg l s λs' t=>∃b,t=.bl b/\if b=true then ∃m',m'<m/\W m' s' else
  ∀o1 o2,W9 [.df o1 s'.k1 s'.t1] λr1=>∃ts1,r1=.fr (.lst ts1)/\uh ts1=true/\W9 [.df o2 s'.k2 s'.t2] λr2=>∃ts2,r2=.fr (.lst ts2)/\uh ts2=true/\dp [.lst ts1,.lst ts2]
 |_=>False
section
variable{Gg:T->S2->(S2->T->Prop)->Prop}{W9:Λ->(qam)->Prop}
def Mm(K:qaf)(H:Hp):aB K #[H,[],[]] [] [] [] [] H:=#[9,9,λi e h=>by simp at h,NS,λa h=>absurd h gR,λp hp=>absurd hp gR,λa h=>absurd h gR,λb o e _=>e,λp hp=>absurd hp gR]
def vG{t:T}{q:Λ->Prop}{Q:VK}(a:At X.K H [] t v)(hG:W9 [t] λr=>∃ts,r=.fr (.lst ts)/\uh ts=true/\q ts)(k:∀ts,q ts->uh ts=true->∀l vs H',aW H H'->H l=none->H' l\.lst vs->(∀A,aD X.K H' A ts vs)->Q (.ref l) H'):bQ X.K 1 W9 ([v]++[]) H Q E0 :=
 D8 (Mm X.K H) (aD.cons a aD.nil) 9 hG λr #[ts,er,hi,hq] w H' sm z=>by subst er;let(l,rfl,_,(vs,e,av),n,_):=z;exact k ts hq hi l vs H' sm n e λA=>aD.Bn hi av
def W_{M:MG}(hB:M.hb=true){s:S2}{H0:Hp}{Ox:qah}{o1 o2:Obj}{Xa LO:qak}{dp:Λ->Prop}(sd:SD K M s H)(l1:s.k1.length=Xa.length)(e1:H M.a1\.dT (s.k1.zip Xa))(q1:aD K H M.Ox s.t1 Xa)(l2:s.k2.length=LO.length)(e2:H M.a2\.dT (s.k2.zip LO))(q2:aD K H M.Ox s.t2 LO):∃H2,H2=upd (upd H M.a1 (.k7 o1 (.dT (s.k1.zip Xa)))) M.a2 (.k7 o2 (.dT (s.k2.zip LO))) /\
  At K H2 [] (.df o1 s.k1 s.t1) (.ref M.a1)/\At K H2 [] (.df o2 s.k2 s.t2) (.ref M.a2)/\H2 M.a\.ins M.C M.dx (fN.zip [.ref M.a1,.ref M.a2])/\∀b o,H b\o->b∉M.Ox->H2 b\o:=by
 have m1:=M.m1;have m2:=M.m2;have Ge:upd H M.a1 (.k7 o1 (.dT (s.k1.zip Xa))) M.a2\.dT (s.k2.zip LO):=by rw[aG (Ne.symm M.n3)];exact e2
 refine#[_,9,?_,?_,?_,λb o e n=>?_];simp only[At];exact#[M.a1,Xa,9,l1,#[by rw[aG M.n3,aK],λz=>nomatch z],((q1.wrote m1 e1 9).wrote m2 Ge 9).bC λb hb=>nomatch hb];simp only[At];exact#[M.a2,LO,9,l2,#[aK,λz=>nomatch z],((q2.wrote m1 e1 9).wrote m2 Ge 9).bC λb hb=>nomatch hb];rw[aG M.n2,aG M.n1];exact sd.ins hB;rw[aG (λz=>n (by rw[z];exact m2)),aG (λz=>n (by rw[z];exact m1))];exact e
structure Made(C:Addr)(H H3:Hp)(a dx p1 p2:Addr):Prop where
 same:aW H H3
 na:H a=none
 n1:H p1=none
 n2:H p2=none
 ne:p1≠p2
 ea:H3 a\.ins C dx (fN.zip [.ref p1,.ref p2])
 d1:H3 p1\.dT []
 d2:H3 p2\.dT []
def aen(C:Addr):TE:=λσ H Q=>∀a dx p1 p2 H3,Made C H H3 a dx p1 p2->Q (.ref a) H3
def Q6{xC:Str}{kC:Nat}{fI:Addr}{fdI:FuncData}{psI:χ}{GI:Λ->(T->Prop)->Prop}{pC Tp Fd pc:Pos}(MI:Mk X.K C fI)(FI:eD X.prog X.w X.K X.mg X.base iA kC fI fdI psI (V5 X.K C 2 GI))(hGI:∀t1 t2 q,q (.ins C fN [t1,t2])->GI [t1,t2] q)(rI:bG (kC+1) X.A)(gI:Gl X xC)(mI:X.mg xC\.ref C)(bI:Binds X.K fdI psI [])(db1:gG xC:=by decide)(s1:starEach [.Dict [] [] Tp,.Dict [] [] Fd] X.env=(false,eval (.Dict [] [] Tp) X.env)::starEach [.Dict [] [] Fd] X.env:=by rfl)(s2:starEach [.Dict [] [] Fd] X.env=(false,eval (.Dict [] [] Fd) X.env)::starEach [] X.env:=by rfl)(s3:(backTo pc (starEach [.Dict [] [] Fd] X.env)).any (·.1)=false:=by rfl):PE X (.Call (.Name xC pC) [.Dict [] [] Tp,.Dict [] [] Fd] [] pc) (aen C) :=
 PE.weak (DP MI FI rI gI mI bI .nil oU (bD rp (bD rp cV s2) s1) db1 s1 s3) λσ H Q h=>by
  intro p1 Yp p2 Gs;have sa:aW H (upd H p1 (.dT [])):=aI Yp;have sb:aW (upd H p1 (.dT [])) (upd (upd H p1 (.dT [])) p2 (.dT [])):=aI Gs;have Mn:p1≠p2:=λz=>by rw[<- z,aK] at Gs;cases Gs
  have Xb:H p2=none:=by rw[aG (Ne.symm Mn)] at Gs;exact Gs
  have d1:=sb _ _ aK;have d2:upd (upd H p1 (.dT [])) p2 (.dT []) p2\.dT []:=aK;refine Eu (q:=λr=>r=.fr (.ins C fN [.pin p1 (.dt [] []),.pin p2 (.dt [] [])])) (Mm X.K _) (aD.cons ?_ (aD.cons ?_ aD.nil)) 9 (hGI _ _ (λu=>Rt.fr u=.fr (.ins C fN [.pin p1 (.dt [] []),.pin p2 (.dt [] [])])) 9) (λr er v H3 sm z=>?_);exact#[9,#[p1,[],9,9,#[d1,λm=>nomatch m],aD.nil]];exact#[9,#[p2,[],9,9,#[d2,λm=>nomatch m],aD.nil]];subst er;let(a,rfl,_,(dx,vs,hl,ea,hv),n0,_):=z;let(_,_,rfl,h1,_,_,rfl,h2,rfl):=hv;let(rfl,_):=h1;let(rfl,_):=h2;refine h a dx p1 p2 H3 #[(sa.trans sb).trans sm,?_,Yp,Xb,Mn,ea,sm _ _ d1,sm _ _ d2];cases z:H a with
  |none=>rfl
  |some o=>have:=sb _ _ (sa _ _ z);rw[show upd (upd H p1 (.dT [])) p2 (.dT []) a=none from n0] at this;cases this
def C5{y xC xg xl:Str}{kC kg kl:Nat}{fI fg fl:Addr}{fdI fdg fdl:FuncData}{psI psg psl:χ}{GI:Λ->(T->Prop)->Prop}{px pC p1 Tp Fd pc pg pv1 Tq pgc pw pp Tr N3 pa1 Xc pl1 pl2 Q7 Hq pt pr:Pos}{kt}(hP:Z.P=[])(hij:i≠j)(hN:X.N.Nodup)(hi:X.N[i]?\x)(hj:X.N[j]?\y)(hx:Loc X.env.scope x)(vx:nJ X.env.scope x)(vy:nJ X.env.scope y)(hp:PassesOwn (model X.prog X.w) X.A X.env X.xe)(MI:Mk X.K C fI)(FI:eD X.prog X.w X.K X.mg X.base iA kC fI fdI psI (V5 X.K C 2 GI))(hGI:∀t1 t2 q,q (.ins C fN [t1,t2])->GI [t1,t2] q)(rI:bG (kC+1) X.A)(gI:Gl X xC)(mI:X.mg xC\.ref C)(bI:Binds X.K fdI psI [])(Fg:eD X.prog X.w X.K X.mg X.base iA kg fg fdg psg (spG X.K C Gg))(rg:bG kg X.A)(gg:Gl X xg)(mg:X.mg xg\.ref fg)(kgk:W.keepIn X.K (.ref fg)=true)(bg:Binds X.K fdg psg [])(Fl:eD X.prog X.w X.K X.mg X.base iA kl fl fdl psl (bQ X.K 1 W9))(rl:bG kl X.A)(gl:Gl X xl)(ml:X.mg xl\.ref fl)(klk:W.keepIn X.K (.ref fl)=true)(bl:Binds X.K fdl psl [])(cl:Im X.K C)(n1:cN X.K C "names")(n2:cN X.K C "cells")(hd:gG x:=by decide)(fW:tQ x:=by decide)(hd2:gG y:=by decide)(Ad:tQ y:=by decide)(db1:gG xC:=by decide)(db2:gG xg:=by decide)(db3:gG xl:=by decide)(s1:starEach [.Dict [] [] Tp,.Dict [] [] Fd] X.env=(false,eval (.Dict [] [] Tp) X.env)::starEach [.Dict [] [] Fd] X.env:=by rfl)(s2:starEach [.Dict [] [] Fd] X.env=(false,eval (.Dict [] [] Fd) X.env)::starEach [] X.env:=by rfl)(s3:(backTo pc (starEach [.Dict [] [] Fd] X.env)).any (·.1)=false:=by rfl)(g1:starEach [.Name y pv1,.Name x Tq] X.env=(false,eval (.Name y pv1) X.env)::starEach [.Name x Tq] X.env:=by rfl)(g2:starEach [.Name x Tq] X.env=(false,eval (.Name x Tq) X.env)::starEach [] X.env:=by rfl)(g3:(backTo pgc (starEach [.Name x Tq] X.env)).any (·.1)=false:=by rfl)(he:∀whole,isTrue (.Call (.Name xg pg) [.Name y pv1,.Name x Tq] [] pgc) X.env whole=(do let v <- whole;standAt (Expr.pos (.Call (.Name xg pg) [.Name y pv1,.Name x Tq] [] pgc));holding [v] (truthy v)):=by intro _;rfl)(b1:attributeBase (.Name x Tr) "names" X.env (eval (.Name x Tr) X.env)=eval (.Name x Tr) X.env:=by rfl)(b2:attributeBase (.Name x N3) "cells" X.env (eval (.Name x N3) X.env)=eval (.Name x N3) X.env:=by rfl)(a1:starEach [.Attribute (.Name x Tr) "names" pa1] X.env=(false,eval (.Attribute (.Name x Tr) "names" pa1) X.env)::starEach [] X.env:=by rfl)(a2:starEach [.Attribute (.Name x N3) "cells" Xc] X.env=(false,eval (.Attribute (.Name x N3) "cells" Xc) X.env)::starEach [] X.env:=by rfl)(a3:(backTo Q7 (starEach [] X.env)).any (·.1)=false:=by rfl)(a4:(backTo Hq (starEach [] X.env)).any (·.1)=false:=by rfl)(t1:starEach [.Call (.Name xl pl1) [.Attribute (.Name x Tr) "names" pa1] [] Q7,.Call (.Name xl pl2) [.Attribute (.Name x N3) "cells" Xc] [] Hq] X.env=(false,eval (.Call (.Name xl pl1) [.Attribute (.Name x Tr) "names" pa1] [] Q7) X.env)::starEach [.Call (.Name xl pl2) [.Attribute (.Name x N3) "cells" Xc] [] Hq] X.env:=by rfl)(t2:starEach [.Call (.Name xl pl2) [.Attribute (.Name x N3) "cells" Xc] [] Hq] X.env=(false,eval (.Call (.Name xl pl2) [.Attribute (.Name x N3) "cells" Xc] [] Hq) X.env)::starEach [] X.env:=by rfl)(hs:swapsWith (.Call (.Name xC pC) [.Dict [] [] Tp,.Dict [] [] Fd] [] pc) (some (.Name x px)) p1.line X.env=pure false:=by rfl)(hf:X.fn x=true\/X.env.scope.names.lookup x\.local:=by first|exact .inl rfl|exact .inr rfl|assumption) :
  GF X Z [.Assign [.Name x px] (.Call (.Name xC pC) [.Dict [] [] Tp,.Dict [] [] Fd] [] pc) p1,.While (.Call (.Name xg pg) [.Name y pv1,.Name x Tq] [] pgc) [.Pass pp] [] pw,
   .Return (some (.Tuple [.Call (.Name xl pl1) [.Attribute (.Name x Tr) "names" pa1] [] Q7,.Call (.Name xl pl2) [.Attribute (.Name x N3) "cells" Xc] [] Hq] kt pt)) pr] (gMk i j Gg W9):=.mk λtm=>
 ko.mj (jm (vW hN hi hx (Q6 MI FI hGI rI gI mI bI db1 s1 s2 s3) hs hf)
  (jm (yM hp (IT (j1 Fg rg gg mg kgk bg .nil oU (bD (cM hj vy hd2 Ad) (bD (cM hi vx hd fW) cV g2) g1) db2 g1 g3) he) (l8 Oh))
    (xD (xD (l8 (BA (qD (bD (j1 Fl rl gl ml klk bl .nil oU (bD (BK (cM hi vx hd fW) b1) cV a1) db3 a1 a3) (bD (j1 Fl rl gl ml klk bl .nil oU (bD (BK (cM hi vx hd fW) b2) cV a2) db3 a2 a4) cV t2) t1)))))))) λD σ H #[ρ,O,d,dp,I,q,F]=>by
  let(hil,q):=q;split at q
  rename_i l el
  let(W,w0,step):=q;intro a dx p1 p2 H3 #[sH,na,Yp,Xb,Mn,ea,d1',d2']
  let M:MG:=#[a,dx,p1,p2,C,H3,(λz=>by rw[z,d1'] at ea;cases ea),(λz=>by rw[z,d2'] at ea;cases ea),Mn,true]
  have nO:∀b∈M.Ox,H b=none:=λb hb=>by
   rcases M.mem hb with⟨_,rfl⟩|rfl|rfl
   exact na;exact Yp;exact Xb
  have aeo:=λb o e=>I.keep b o e (by rw[hP];exact λz=>nomatch z);have sd0:SD X.K M aem H3:=#[λ_=>ea,#[[],9,d1',aD.nil],#[[],9,d2',aD.nil],λb o e _=>e];let(_,_,o1,o2,rfl,v0,rfl,av0):=I.sl j _ el;have at0:=(av0.more λb hb=>.inr (nO b hb)).same sH;have sj:(σ.set i (some (.ref a)))[j]?\some v0:=by rw[uO hij];exact o2
  have si:(σ.set i (some (.ref a)))[i]?\some (.ref a):=DE (by rw[I.lσ];exact hil);refine#[λm σ' H'=>σ'=σ.set i (some (.ref a))/\∃s,W m s/\SD X.K M s H'/\At X.K H' M.Ox l v0,?_,?_];let(m,hm):=w0;exact#[m,9,_,hm,sd0,at0];rintro m _ H4 ⟨rfl,s,hw,sd,at4⟩;refine#[v0,sj,.ref a,si,#[M,s,l,v0,_,#[9,9],9,at4,#[sd.ins,sd.d1,sd.d2,λb o e _=>e],step m s hw,λs' t ht v H5 sd5 a5=>?_]];let(b,rfl,hb):=ht;refine#[b,a5,?_];have sd6:SD X.K M s' H5:=#[sd5.ins,sd5.d1,sd5.d2,λb o e n=>sd5.fr b o (sd.fr b o e n) n];cases b with
  |true=>
    show if true=true then _ else _
    let(m',lt,hw'):=hb;exact#[λσ' H'=>σ'=σ.set i (some (.ref a))/\∃s,W m' s/\SD X.K M s H'/\At X.K H' M.Ox l v0,λσ' H' h=>#[m',lt,h],9,s',hw',sd6,at4.frame sd.here λb o e n=>sd5.fr b o e n]
  |false=>
    show if false=true then _ else _
    let(Xa,l1,e1,q1):=sd6.d1;let(LO,l2,e2,q2):=sd6.d2;refine#[p1,_,e1,λo1=>#[p2,_,(by rw[aG (Ne.symm Mn)];exact e2),λo2=>?_]];let(H6,eH,A1,A2,ea6,fr6):=W_ (hB:=rfl) (H0:=H) (Ox:=[]) (dp:=dp) sd6 l1 e1 q1 l2 e2 q2;have fr:=λb o e=>by
     have e':=aeo b o e;have n:b∉M.Ox:=λz=>by rw[nO b z] at e';cases e'
     exact fr6 b o (sd6.fr b o (sH _ _ e') n) n
    rw[<- show _=_ from eH];refine#[.ref a,si,a,C,dx,_,.ref p1,9,ea6,cl,n1,9,vG A1 (hb o1 o2) λts1 h1 i1 b1 us1 H7 s7 n7 e7 at7=>#[.ref a,si,a,C,dx,_,.ref p2,9,s7 _ _ ea6,cl,n2,9,vG (A2.same s7) h1 λts2 h2 i2 b2 us2 H8 s8 n8 e8 at8=>#[by rw[π];simp,λp hp=>?_]]];have sp:aW H8 (upd H8 p (.tup [.ref b1,.ref b2])):=aI hp;have ne:b1≠b2:=λz=>by rw[<- z,e7] at n8;cases n8
    refine F.dp [.lst ts1,.lst ts2] h2 p [b1,b2] _ #[λb o e=>sp _ _ (s8 _ _ (s7 _ _ (fr b o e))),aK,?_,?_,?_];simp[ne];intro b Qn;simp only[dQ,gR,aah] at Qn;cases z:Z.H0 b with
    |none=>rfl
    |some o=>
      exfalso;have e6:=fr b o z;obtain rfl|rfl:=Qn
      rw[n7] at e6;cases e6;rw[s7 _ _ e6] at n8;cases n8
    refine .cons #[us1,sp _ _ (s8 _ _ e7),((at7 _).same s8).same sp] (.cons #[us2,sp _ _ e8,(at8 _).same sp] .nil)
  exact q.elim
end
section
variable{M:MG}{st:Stmt}{g u:rY}{pos:Pos}
def S2.put2(s:S2)(k:List Key)(t:T):S2:={s with k2:=Hg s.k2 k,t2:=Aa s.k2 s.t2 k t}
def Ts(M:MG)(n m:Nat)(f:FE):rY:=λd ρ s=>f (ρ.map (o8 M s)) λt=>o_ t/\ρ[n]?\some (.ob M.a2,false)/\s.t2.length<16777216/\∃k,ρ[m]?\some (.kt k,false)/\d.nx ρ (s.put2 k t)
theorem Hr{tm:qab}{s:S2}{H1:Hp}{A:qah}{D:Ends}{d:LK}{t:T}{k:List Key}(S1:SG X.K M tm ρ s σ H1)(F:LL X.K M tm d D)(WI:o_ t)(a:At X.K H' A t v)(hn:ρ[n]?\some (.ob M.a2,false))(hlen:s.t2.length<16777216)(hk:ρ[m]?\some (.kt k,false))(hq:d.nx ρ (s.put2 k t)) :
  IS n σ H1 λx H2=>IS m σ H2 λy H3=>∃a H4,x=.ref a/\wY H3 a y v H4/\D.nx σ H4:=by
 let(O1,EK,I1):=S1.env;let(_,_,_,z1,_,v1,rfl,b1):=I1.sl n _ hn;let(_,_,_,z2,_,v2,rfl,b2):=I1.sl m _ hk;subst b1;let(b,rfl,hb,_):=b2;let(vs,hl,h1,h2):=S1.sd.d2;have hz:(s.k2.zip vs).length<sizeLine:=by
  rw[π,NR,hl,R6,h2.length]
  lia
 have pq:=LC s.k2 vs k v hl;refine#[.ref M.a2,z1,.ref b,z2,M.a2,_,9,wY.t h1 hb hz,?_];rw[pq.1];have N1:=M.m2;have wr:∀{t:T}{v':V},At X.K H1 M.Ox t v'->At X.K (upd H1 M.a2 (.dT ((Hg s.k2 k).zip (Aa s.k2 vs k v)))) M.Ox t v':=λq=>At.wrote N1 h1 9 q;have wrL:∀{t:Λ}{v':qak},aD X.K H1 M.Ox t v'->aD X.K (upd H1 M.a2 (.dT ((Hg s.k2 k).zip (Aa s.k2 vs k v)))) M.Ox t v':=λq=>aD.wrote N1 h1 9 q;have na:=M.n2;refine F.nx ρ (s.put2 k t) σ _ #[#[O1,EK,I1.lσ,I1.lO,λi e he=>?_,I1.nd,λb hb=>(by rw[EK] at hb;exact absurd hb gR),λp hp=>absurd hp gR,λb hb=>?_,λb o e _=>e,λp hp=>?_],?_,?_,?_,λb o e n=>(by rw[aG (λz=>n (by rw[z];exact N1))];exact S1.sd.fr b o e n)] hq;let(o,sv,g1,g2,g3):=I1.sl i e he;refine#[o,sv,g1,g2,?_];rw[je EK] at g3 ⊢;refine g3.map (λt v z=>wr z) λb t' eo _=>?_;subst eo;have:=aH.mpr (fL g1);rw[EK] at this;exact absurd this gR;by_cases e:b=M.a2;rw[e,aK];simp;rw[aG e];let(u,eu,_):=S1.sd.here b hb;rw[eu];simp;have:=I1.lj p hp;rw[je EK] at this ⊢;exact wr this;exact λz=>by rw[aG na];exact S1.sd.ins z
 let(LO,l2,e2,q2):=S1.sd.d1;exact#[LO,l2,by rw[aG M.n3];exact e2,wrL q2];exact#[_,pq.2,aK,wrL (CB h2 (rZ WI a))]
def Q8(n m:Nat){y:Str}{f:FE}(hu:X.A.units+1<cLine)(he:∀H0 Ox,VE X #[H0,[],Ox] e f)(hN:X.N[n]?\x:=by rfl)(hv:nJ X.env.scope x:=by exact jvv 9)(hd:gG x:=by decide)(fW:tQ x:=by decide)(Yw:X.N[m]?\y:=by rfl)(Yx:nJ X.env.scope y:=by exact jvv 9)(hd2:gG y:=by decide)(Ad:tQ y:=by decide)(hs:swapsWith e (some (.Subscript (.Name x p) (.Name y p2) eC)) pos.line X.env=pure false:=by rfl):GS X M (.Assign [.Subscript (.Name x p) (.Name y p2) eC] e pos) (Ts M n m f):=.mk λtm ε s' σ H D J #[ρ,s,d,S,hg,F]=>by let(O2,pU,I2):=S.up;refine w6 hu (cM hN hv hd fW) (cM Yw Yx hd2 Ad) (he H [] tm) hs ε s' σ H D J #[_,O2,_,I2,hg,λt ht v H1 sm a=>?_];let(WI,hn,hlen,k,hk,hq):=ht;exact Hr (S.jN sm) F WI a hn hlen hk hq
def aep(M:MG)(n m:Nat)(f:FE):rY:=λd ρ s=>S_ M n m f d ρ s\/Ts M n m f d ρ s
def GS.or{g u:rY}{st:Stmt}(h1:GS X M st g)(h2:GS X M st u):GS X M st (λd ρ s=>g d ρ s\/u d ρ s):=.mk λtm ε s' σ H D J #[ρ,s,d,S,hg,F]=>by
 obtain hg|hg:=hg
 exact h1.h tm ε s' σ H D J #[ρ,s,d,S,hg,F];exact h2.h tm ε s' σ H D J #[ρ,s,d,S,hg,F]
def Xd(n m:Nat){y:Str}{f:FE}(hu:X.A.units+1<cLine)(he:∀H0 Ox,VE X #[H0,[],Ox] e f)(hN:X.N[n]?\x:=by rfl)(hv:nJ X.env.scope x:=by exact jvv 9)(hd:gG x:=by decide)(fW:tQ x:=by decide)(Yw:X.N[m]?\y:=by rfl)(Yx:nJ X.env.scope y:=by exact jvv 9)(hd2:gG y:=by decide)(Ad:tQ y:=by decide)(hs:swapsWith e (some (.Subscript (.Name x p) (.Name y p2) eC)) pos.line X.env=pure false:=by rfl):GS X M (.Assign [.Subscript (.Name x p) (.Name y p2) eC] e pos) (aep M n m f) :=
 GS.or (QE n m hu he hN hv hd fW Yw Yx hd2 Ad hs) (Q8 n m hu he hN hv hd fW Yw Yx hd2 Ad hs)
def agq(M:MG)(s:S2):o8 M s (some (.ob M.a2,false))\(.dt s.k2 s.t2,false):=by show (if M.a2=M.a1 then _ else _)=_;rw[θ (Ne.symm M.n3),ι 9]
end
end VT
namespace iY
open PySem L2 VT Gen K5 Lay BS IB MK
open PySem.Builtin (bitOr)
def sE(E F:List Ent):S2:=#[eR E,eQ E,eR F,eQ F]
def Mo(C:Addr)(l:T)(s:S2)(q:S2->T->Prop):Prop:=E3 λ(rs:qal) (E F:List Ent)=>l=c5 C rs/\s=sE E F/\(∀r∈rs,clR rs r/\Yy r)/\7<=64/\(tW rs).length<=400/\Iv 7 (tW rs) #[E,F,false]/\q (sE (d9 rs E F 7).E (d9 rs E F 7).F) (.bl (d9 rs E F 7).b)
abbrev rho(M:MG)(C:Addr)(rs:qal)(b:Bool)(b3 b4 b5 b6 b7 b8:Option T):En:=[aP (c5 C rs),aP (.ob M.a),aP (.bl b),o9 b3,o9 b4,o9 b5,o9 b6,o9 b7,o9 b8]
def Mp(rs:qal)(i:Nat){t:T}(h:(dR (zO rs))[i]?\t):i<7/\t=.tup [.int (i:Int),oT (gF (bh rs) i)]:=by unfold dR zO at h;rw[X4,fU] at h;by_cases hi:i<7;rw[RU hi] at h;cases h;exact#[hi,9];rw[IG (by rw[pJ];lia)] at h;cases h
def Mq(rs:qal):(dR (zO rs)).length=7:=by unfold dR zO;simp
def Q9{M:MG}{d:LK}{s:S2}{ts:Λ}{k:List Key}(h5:(ρ.map (o8 M s))[n]?\some (.dt ks ts,false))(h6:(ρ.map (o8 M s))[m]?\some (.kt k,false))(hq:o_ ((eA ks ts k).getD (.int 0))/\d.nx (ρ.set i (some ((eA ks ts k).getD (.int 0),false))) s):LM M i (fT (WL (ju n) (ll m) (fT (fC (.int 0))))) d ρ s:=by unfold LM fT WL ju;rw[h5];show ll m _ _;unfold ll;rw[h6];exact hq
theorem Mr{M:MG}{n2 n8:Nat}{d:LK}{s s0:S2}(es:s0=s){ts:Λ}{k:List Key}{b:Bool}{v before:Int}(h2:(ρ.map (o8 M s))[n2]?\some (.bl b,false))(h5:(ρ.map (o8 M s))[n]?\some (.dt ks ts,false))(h6:(ρ.map (o8 M s))[m]?\some (.kt k,false))(h8:(ρ.map (o8 M s))[n8]?\some (.int before,false))(hg:eA ks ts k\.int v)(hq:o_ (.bl (b || !decide (v=before)))/\d.nx (ρ.set i (some (.bl (b || !decide (v=before)),false))) s) :
  LM M i (fT (U7 (fV (ll n2)) (f2 (fT (LR (ju n) (ll m))) (ju n8) U8))) d ρ s0:=by
 rw[es];unfold LM fT U7 fV ll;rw[h2];cases b with
 |true=>exact hq
 |false=>show f2 _ _ _ _ _;unfold f2 LR ju;dsimp only;rw[h5];show (match (ρ.map (o8 M s))[m]? with|some (some (t,false))=>_|_=>False);rw[h6];refine#[_,hg,?_];show (match (ρ.map (o8 M s))[n8]? with|some (some (t,_))=>_|_=>False);rw[h8];exact hq
def Ms{g u:rY}{d:LK}{s:S2}{t:T}(h:ρ[n]?\some (t,false))(ht:zd t=false)(hg:g d ρ s):wIf (mq (f2 (ju n) (fT (fC .bY)) wG)) g u d ρ s:=by
 unfold wIf mq f2 ju;rw[h];show if (!zd t)=true then g d ρ s else u d ρ s
 rw[ht];exact hg
def wO(M:MG)(p:Wt):T:=.tup [.ob (if p.1=true then M.a1 else M.a2),.kt (kK p.2.1),.int p.2.2]
theorem Tw(M:MG)(E F:List Ent):∀l:List Wt,Hj (l.map (wT M.a1 M.a2 E F))\l.map (wO M)
 |[]=>rfl
 |p::l=>by rw[kH,kH];let(b,k,v):=p;unfold Hj;rw[Tw M E F l];cases b<;>rfl
def Xe(p:Tb)(w:Bool)(k:Int×Str)(v:Int):(if w=true then (sE p.E p.F).Hh (kK k) (.int v) else (sE p.E p.F).put2 (kK k) (.int v))=sE (p.put w k v).E (p.put w k v).F:=by
 cases w with
 |true=>show S2.Hh _ _ _=_;unfold S2.Hh sE Tb.put;dsimp only;rw[CK p.E k v,gk];rfl
 |false=>show S2.put2 _ _ _=_;unfold S2.put2 sE Tb.put;dsimp only;rw[CK p.F k v,gk];rfl
def dOf(p:Tb)(w:Bool):T:=if w=true then .dt (eR p.E) (eQ p.E) else .dt (eR p.F) (eQ p.F)
def aeq(M:MG)(p:Tb)(w:Bool):o8 M (sE p.E p.F) (some (.ob (if w=true then M.a1 else M.a2),false))\(dOf p w,false):=by
 cases w with
 |true=>exact agk M _
 |false=>exact agq M _
def aer{M:MG}{f:FE}{d:LK}{p:Tb}{ub:Bool}{k:Int×Str}{v:Int}(hf:∀Q:T->Prop,Q (.int v)->f (ρ.map (o8 M (sE p.E p.F))) Q)(h5:ρ[n]?\some (.ob (if ub=true then M.a1 else M.a2),false))(h6:ρ[m]?\some (.kt (kK k),false))(l1:p.E.length<16777216)(l2:p.F.length<16777216)(hq:d.nx ρ (sE (p.put ub k v).E (p.put ub k v).F)):aep M n m f d ρ (sE p.E p.F):=by
 rw[<- Xe] at hq;cases ub with
 |true=>exact .inl (hf _ #[.inl #[_,9],h5,by show (eQ p.E).length<_;unfold eQ;rw[bS];exact l1,kK k,h6,hq])
 |false=>exact .inr (hf _ #[.inl #[_,9],h5,by show (eQ p.F).length<_;unfold eQ;rw[bS];exact l2,kK k,h6,hq])
def agr(p:Tb)(ub:Bool):∃EE:List Ent,dOf p ub=.dt (eR EE) (eQ EE)/\(∀k,p.get ub k=eB EE k)/\∀k v,dOf (p.put ub k v) ub=.dt (eR (eV EE k v)) (eQ (eV EE k v)):=by
 cases ub with
 |true=>exact#[p.E,9,λ_=>rfl,λ_ _=>rfl]
 |false=>exact#[p.F,9,λ_=>rfl,λ_ _=>rfl]
section
variable{dB:Addr}
abbrev Q_:χ:=["layout","sets","lacking","place","home","held","key","wanted","before"]
def AB:az Q_ ["layout","sets"] (ar xP):=L2.eU
theorem Mt(D:Df K mg "grown" xP ["layout","sets"] f fd)(aj:uw K au)(Mg:MgP mg)(Ra:bP P w K mg base "wants" qaG 04 (bQ K 3 (CQ au dB))):bP P w K mg base "grown" ["layout","sets"] (04+1) (spG K dB (Mo au)):=by
 refine D.fm (fnG D.F AB 9 15 λbL A outer s H E M hC hB hr l s0 q hG=>?_);have nd:=AB.nd;have hu:=bG.dW hr;have yC:=vk hu;subst hC;refine#[_,(m3 (Ac λ_ _=>aJ (i:=2) nd 9 5 (Ψ mm) gX)
  (m3 (WJ nG 9 (λ_ _=>gK (by rfl) Mg.enumerate (ω (aQ aj.cl aj.f9 (ae 0)))) (λ_ _=>ff (n:=2) 9 (bq (aM (i:=3) nd 9 5 gX) (bq (aM (i:=04) nd 9 5 gX) dI)))
   (ql (ad7 (λ_ _=>zf (ae 04) (ν gT))
    (ql (QF nG 9 (λ_ _=>ω (aw Ra hr (aa (ah 0) (aa (ah 1) (aa (ah 3) ak))))) (λ_ _=>ff (n:=3) 9 (bq (aM (i:=05) nd 9 5 gX) (bq (aM (i:=06) nd 9 5 gX) (bq (aM (i:=07) nd 9 5 gX) dI))))
     (m3 (LN (i:=08) nd 9 5 (λ_ _=>ω (jO yC (ae 05) (ah 06) (ω ag) #[9,9,9,9])))
     (m3 (Xd 05 06 yC (λ_ _=>ω (qQ (ae 08) (ae 07))))
     (ql (LN (i:=2) nd 9 5 (λ_ _=>ω (Sj (VE.vp (ah 2)) (wq (JD hu (ν (QH yC (ae 05) (ah 06))) (ae 08)))))))))))
    QD)))
  (ql (Ac λ_ _=>aA (Ψ (VE.vp (ah 2))))))),?_]
 let(rs,E0,F0,rfl,rfl,bZ,hn,Bp,I0,hq):=hG;refine#[9,9,_,9,?_];refine#[λi ρ s=>E6 λb3 b4 b5 b6 b7 b8=>ρ=rho M au rs (d9 rs E0 F0 i).b b3 b4 b5 b6 b7 b8/\s=sE (d9 rs E0 F0 i).E (d9 rs E0 F0 i).F,#[none,none,none,none,none,none,9,9],?_,?_];rintro i t ρ s ht ⟨b3,b4,b5,b6,b7,b8,rfl,rfl⟩;let(hi,rfl):=Mp rs i ht;obtain⟨r,bV⟩:∃r,rs[i]?\r:=#[_,eZ hi];have I:=(m6 I0 i ()).1;have gs:=oz rs E0 F0 i;generalize hp:d9 rs E0 F0 i=p at I gs ⊢;refine#[9,9,(by show lL [aP (c5 au rs),aP (.ob M.a),aP (.bl p.b),aP (.int (i:Int)),aP (oT _),o9 b5,o9 b6,o9 b7,o9 b8]=true;simp only[CG,CD,rX]),?_];cases hh:gF (bh rs) i with
 |none=>
  have wn:wA rs p.E p.F i=[]:=by unfold wA WT;rw[bV,hh];rfl
  have gs:d9 rs E0 F0 (i+1)=p:=by rw[gs];unfold stp;rw[wn];rfl
  exact#[some (.int (i:Int)),some .bY,b5,b6,b7,b8,by rw[gs];rfl,by rw[gs]]
 |some h=>
  have wa:wA rs p.E p.F i=(CO rs i h r).flatMap (wM p.E p.F):=by unfold wA WT;rw[bV,hh]
  have gs:d9 rs E0 F0 (i+1)=((CO rs i h r).flatMap (wM p.E p.F)).foldl pZ p:=by rw[gs];unfold stp;rw[wa]
  refine Ms (t:=.int (h:Int)) 9 9 ?_;show LQ M _ _ _ _ [aP (c5 au rs),aP (.ob M.a),aP (.bl p.b),aP (.int (i:Int)),aP (.int (h:Int)),o9 b5,o9 b6,o9 b7,o9 b8] (sE p.E p.F);unfold LQ;show (fT (qV 3 (gj (ll 0) (gj (ll 1) (gj (ll 3) ui))) (CQ au M.C))) [some (c5 au rs,false),o8 M (sE p.E p.F) (some (.ob M.a,false)),some (.bl p.b,false),some (.int (i:Int),false),some (.int (h:Int),false),o8 M (sE p.E p.F) (o9 b5),o8 M (sE p.E p.F) (o9 b6),o8 M (sE p.E p.F) (o9 b7),o8 M (sE p.E p.F) (o9 b8)] _;rw[agj _ _ hB];have hro:=bZ r (fL bV);refine#[9,rs,M.a1,M.a2,p.E,p.F,i,r,h,9,bV,hro.1,hro.2,hh,(),λk=>kJ (bits_le (I.bl true k)) hn,?_];have hwk:∀w∈(CO rs i h r).flatMap (wM p.E p.F),w.2.1∈jf 7 (tW rs) w.1/\below 7 w.2.2:=λw hw=>(L3 I hi (by rw[wa];exact hw)).choose_spec.2.2;generalize (CO rs i h r).flatMap (wM p.E p.F)=L at gs hwk;refine#[L.map (wO M),Tw M p.E p.F L,λj ρ s=>E4 λb5 b6 b7 b8=>ρ=rho M au rs ((L.take j).foldl pZ p).b (some (.int (i:Int))) (some (.int (h:Int))) b5 b6 b7 b8/\s=sE ((L.take j).foldl pZ p).E ((L.take j).foldl pZ p).F,#[b5,b6,b7,b8,9,9],?_,?_];rintro j t ρ s hj ⟨b5,b6,b7,b8,rfl,rfl⟩;rw[fU] at hj;let(u,hw,rfl):=X2.mp hj;have es:(L.take (j+1)).foldl pZ p=pZ ((L.take j).foldl pZ p) u:=by rw[T7,hw,R0];rfl
  have Ij:Iv 7 (tW rs) ((L.take j).foldl pZ p):=(xN I λv hv=>hwk v (List.mem_of_mem_take hv)).1;have l1:=Ij.aea;have l2:=Ij.aeb;have l3:(tW rs).length * (7+1)<=400 * 65:=Nat.mul_le_mul Bp ();generalize (L.take j).foldl pZ p=pj at es Ij l1 l2 ⊢;let(ub,uk,uv):=u;let(EE,hd,hg,ags):=agr pj ub;refine#[9,9,(by show lL [aP (c5 au rs),aP (.ob M.a),aP (.bl pj.b),aP (.int (i:Int)),aP (.int (h:Int)),aP (.ob _),aP (.kt (kK uk)),aP (.int uv),o9 b8]=true;simp only[CG,CD,rX]),?_];refine Q9 (ks:=eR EE) (ts:=eQ EE) (k:=kK uk) (by show some (o8 M (sE pj.E pj.F) (some (.ob (if ub=true then M.a1 else M.a2),false)))=_;rw[aeq,hd]) 9 ?_;rw[kU,<- hg];refine#[.inl #[_,9],aer (v:=bitOr (pj.get ub uk) uv) (k:=uk) (ub:=ub) (λQ hQ=>hQ) 9 9 () () ?_];refine Mr (M:=M) (i:=2) (n:=05) (m:=06) (n2:=2) (n8:=08) (ρ:=[some (c5 au rs,false),some (.ob M.a,false),some (.bl pj.b,false),some (.int (i:Int),false),some (.int (h:Int),false),some (.ob (if ub=true then M.a1 else M.a2),false),some (.kt (kK uk),false),some (.int uv,false),some (.int (pj.get ub uk),false)]) 9 (ks:=eR (eV EE uk (bitOr (pj.get ub uk) uv))) (ts:=eQ (eV EE uk (bitOr (pj.get ub uk) uv))) (k:=kK uk) (b:=pj.b) (v:=bitOr (pj.get ub uk) uv) (before:=pj.get ub uk) 9 (by show some (o8 M (sE (pj.put ub uk (bitOr (pj.get ub uk) uv)).E (pj.put ub uk (bitOr (pj.get ub uk) uv)).F) (some (.ob (if ub=true then M.a1 else M.a2),false)))=_;rw[aeq,ags]) 9 9 (QO uk _ EE) ?_;exact#[.inr #[_,9],some (.ob (if ub=true then M.a1 else M.a2)),some (.kt (kK uk)),some (.int uv),some (.int (pj.get ub uk)),by rw[es];rfl,by rw[es];rfl];rintro ρ s ⟨b5',b6',b7',b8',rfl,rfl⟩;rw[bS,N8];exact#[_,_,_,_,_,_,by rw[gs],by rw[gs]]
 rintro ρ s ⟨b3,b4,b5,b6,b7,b8,rfl,rfl⟩;rw[Mq] at *;refine#[(by show lL [aP (c5 au rs),aP (.ob M.a),aP (.bl _),o9 b3,o9 b4,o9 b5,o9 b6,o9 b7,o9 b8]=true;simp only[CG,CD,rX]),hq]
end
def Fe(ts:Λ)(q:Λ->Prop):Prop:=∃rs:qal,ts=[.lst (rs.map aZ)]/\GG rs/\7<=64/\(tW rs).length<=400/\(∀r∈rs,clR rs r/\Yy r) /\
 ∀m,(∀j<m,(m7 rs (j+1)).b=true)->(m7 rs (m+1)).b=false->∀bs cs:List Ent,bs.Perm (IC (m7 rs (m+1)).E)->cs.Perm (IC (m7 rs (m+1)).F)->q [.lst (bs.map Cz),.lst (cs.map Cz)]
theorem xZ:∀bs:List Ent,uh (bs.map Cz)=true
 |[]=>rfl
 |b::bs=>by rw[kH,uh,xZ bs];rfl
section
variable{dB:Addr}
abbrev Mu:χ:=["program","layout","sets"]
def vH:az Mu qav (ar se):=L2.eU
theorem Hs(D:Df K mg "makers" se qav f fd)(M:uw K au)(M1:StC K dB)(sM:zM P w K mg base "Layout" au qaw 2 1 (xm au))(Xf:zM P w K mg base "Sets" dB qaD 1 2 (Td dB))(Rb:bP P w K mg base "grown" ["layout","sets"] 05 (spG K dB (Mo au)))(Ht:bP P w K mg base "list_of" ["held"] 1 (bQ K 1 ET)):bP P w K mg base "makers" qav 06 (VM K 1 Fe):=by
 let(Mw,Hu,sN,sO,sP,sQ):=sM;let(agt,aeT,Xg,Xh,Xi,Xj):=Xf;let(aeU,aes,Rc,Rf,Rg,Rh):=Rb;let(YB,Xk,Hv,Hw,Hx,Hy):=Ht;refine D.fm (fnD D.F vH 9 15 λbL A outer s H E Ox hr ts q hG=>?_);have nd:=vH.nd;have np:∀{i:Nat},aY #[H,[],Ox] i:=gX;refine#[_,gr (aJ (i:=1) nd 9 5 (Ψ (xa sN sQ (hr.mono 15) (by rfl) sO sP (aa (ah 0) ak))) np)
  (C5 (i:=2) (j:=1) 9 15 nd 9 9 5 5 5 nG Xg Xj (λt1 t2 q hq=>#[t1,t2,9,hq]) (hr.mono 15) (by rfl) Xh Xi Rh (hr.mono 15) (by rfl) Rc Rf Rg Hy (hr.mono 15) (by rfl) Hv Hw Hx M1.cl M1.xR M1.qo),λ_=>?_]
 let(rs,rfl,W,hn,Bp,bZ,hq):=hG;refine#[9,rs,9,W,(),?_];refine#[by show 2<3;decide,?_];refine#[λm s=>∃j,s=sE (m7 rs j).E (m7 rs j).F/\(∀i<j,(m7 rs (i+1)).b=true)/\m=mu 7 (tW rs) (m7 rs j),#[_,0,9,λi hi=>absurd hi (Nat.not_lt_zero i),9],?_];rintro m s ⟨j,rfl,hb,rfl⟩;have I:=(L4 rs j).1;have I':=(L4 rs (j+1)).1;have l1:=I'.aea;have l2:=I'.aeb;have l3:(tW rs).length * (7+1)<=400 * 65:=Nat.mul_le_mul Bp ();refine#[rs,(m7 rs j).E,(m7 rs j).F,9,9,bZ,hn,Bp,I.bool false,_,9,?_];split
 rename_i z
 have z:(m7 rs (j+1)).b=true:=z;have gn:=(m6 (b:=(m7 rs j).b) I 7 (cL _)).2;exact#[_,aed gn.1 (gn.2 z),j+1,9,λi hi=>by by_cases e:i=j;rw[e];exact z;exact hb i (),9]
 rename_i z
 have z:(m7 rs (j+1)).b=false:=by
  cases h:(m7 rs (j+1)).b with
  |false=>rfl
  |true=>exact absurd h z
 intro o1 o2;refine#[(m7 rs (j+1)).E,o1,9,(),λbs p=>#[_,9,xZ bs,?_]];refine#[(m7 rs (j+1)).F,o2,9,(),λcs p2=>#[_,9,xZ cs,?_]];exact hq j hb z bs cs p p2
end
end iY
namespace MK
open PySem L2 VT Gen BS K5 IB Lay
open y0 (cW lg)
def KOk:Ky->Prop
 |.fld x=>cW x=true
 |.op (.nm y)=>cW y=true
 |.op (.nu _)=>True
def kO:Rw->Prop
 |.get _ _ k=>KOk k
 |.set _ k _=>KOk k
 |_=>True
def inR(ys:χ)(pl:Plan):Rw->Prop
 |.get _ _ k=>wQ ys k
 |.set _ k _=>wQ ys k
 |.call _ f as=>∃ps,(f,ps)∈pl/\as.length=ps.length
 |_=>True
def Mx{ck body}(h:Body ys pl ck body):∀r∈body,inR ys pl r:=by
 induction h with
 |nil=>intro r hr;cases hr
 |step _ h2 ih=>
  intro r hr;rcases fM.mp hr with hr|hr
  exact ih r hr
  . obtain⟨o,ho,rfl,_⟩|⟨o,ho,rfl,_⟩|⟨y,hy,rfl,_⟩|⟨s0,_,rfl,_⟩|⟨s0,x,_,rfl,_⟩|⟨r',bV,rfl,_⟩:=h2
    all_goals simp only[dQ,gR,aah] at hr
    subst hr;trivial;subst hr;trivial;obtain rfl|rfl:=hr<;>trivial
    subst hr;trivial;subst hr;trivial;subst hr;cases r<;>first|trivial|exact bV.2.2|exact bV.2.1
def Ri(h:Pre ys pl n rs):(∀r∈rs,inR ys pl r)/\∀k<n,∀f ps,pl[k]?\(f,ps)->Rw.df f ps∈rs:=by
 induction h with
 |zero=>exact#[λr hr=>(nomatch hr),λk hk=>absurd hk (Nat.not_lt_zero k)]
 |@succ k rs f ps ck body o sk _ hk hb ho hs ih=>
  refine#[λr hr=>?_,λj hj f' W2 e=>?_];rcases List.mem_append.mp hr with hr|hr
  exact ih.1 r hr;rcases List.mem_cons.mp hr with rfl|hr
  trivial;rcases fM.mp hr with hr|hr
  have:=Mx hb r hr;cases r with
  |call x g as=>let(ps,h1,h2):=this;exact#[ps,acC h1,h2]
  |_=>exact this
  rcases fM.mp hr with hr|hr
  rw[(List.mem_replicate.mp hr).2];trivial;rcases dQ.mp hr with rfl|hr
  trivial;obtain rfl|rfl:=hs
  cases hr;rw[fE.mp hr];trivial;by_cases z:j=k;subst z;rw[hk] at e;cases e;exact jZ _ iz;exact hY _ (ih.2 j () f' W2 e)
structure Pg(rs:qal):Prop where
 B:Bl rs
 le:7<=60
 ky:∀r∈rs,kO r
 cl:∀x g as,Rw.call x g as∈rs->as.length<=04/\∃a,fnOf rs g\a
def Xl(h:Pre ys pl pl.length rs)(le:7<=60)(hn:∀y∈ys,cW y=true)(p4:∀p∈pl,p.2.length<=04):Pg rs:=by
 have B:Bl rs:=#[adv (VY h),PL h];let(h1,h2):=Ri h;have kk:∀k,wQ ys k->KOk k:=λk hk=>by
  cases k with
  |fld x=>exact hn x hk
  |op o=>cases o with
   |nm y=>exact hn y hk
   |nu _=>trivial
 refine#[B,le,λr hr=>?_,λx g as hr=>?_];have:=h1 r hr;cases r with
 |get x y k=>exact kk k this
 |set y k o=>exact kk k this
 |_=>trivial
 let(ps,a,b):=h1 _ hr;let(k,hk):=List.getElem?_of_mem a;let(i,hi):=List.getElem?_of_mem (h2 k (c7.mp hk).1 g ps hk);exact#[by rw[b];exact p4 _ a,DQ B hi]
def Pg.len(p:Pg rs):(tW rs).length<=300/\∀n≤60,(mvs rs n).length<=300:=by
 let(h1,h2):=W0 (rs:=rs) λr hr x g as e=>by subst e;exact (p.cl x g as hr).1
 have:=p.le;exact#[(),λn hn=>by have:=h2 n;lia]
end MK
namespace VT
open PySem PySem.Spec PyProof.Rows L2 PySem.MeetsSeq PySem.SeqAt
end VT
namespace VT
open PySem PySem.Spec PyProof.Rows L2
end VT
namespace Nt
open PySem L2 VT Gen K5 Lay BS IB MK
open PySem.Builtin (bitOr bitAnd)
open iY (jM IC)
open Us (sG Aw Ax)
abbrev lY:Stmt:=top 25
abbrev x6:Stmt:=top 36
abbrev i4:Stmt:=top 50
abbrev lZ:Stmt:=top 49
abbrev jT:Stmt:=top 48
abbrev i5:Stmt:=top 51
abbrev gz:Stmt:=top 54
abbrev fA:Stmt:=top 53
abbrev jU:Stmt:=top 52
structure MgB(mg:qae):Prop where
 enumerate:mg "enumerate"=none
structure YC(K:qaf)(C:Addr):Prop where
 cl:Im K C
 gA:cN K C "layout"
 Ff:cN K C "table"
 sR:cN K C "arrivals"
abbrev pH(i:Int)(x:Str):Int×Str->Bool:=λk=>decide (k=(i,x))
def f7(rs:qal):List Ent:=Classical.epsilon λE=>∃m,(∀j<m,(m7 rs (j+1)).b=true)/\(m7 rs (m+1)).b=false/\E=(m7 rs (m+1)).E
def Xm(h1:∀j<m,(m7 rs (j+1)).b=true)(h2:(m7 rs (m+1)).b=false):f7 rs=(m7 rs (m+1)).E:=by
 let(m',g1,g2,g3):=Classical.epsilon_spec (p:=λE=>∃m,(∀j<m,(m7 rs (j+1)).b=true)/\(m7 rs (m+1)).b=false/\E=(m7 rs (m+1)).E) #[_,m,h1,h2,9];have e:m'=m:=by
  rcases Nat.lt_trichotomy m' m with z|z|z
  rw[h1 m' z] at g2;cases g2;exact z;rw[g1 m z] at h2;cases h2
 subst e;exact g3
def hv(rs:qal)(h:Nat)(x:Str):Int:=QK (pH (h:Int) x) (IC (f7 rs))
def jg(CF C:Addr)(rs:qal)(bs cs:List Ent)(o:Obj):T:=.ins CF ["layout","table","arrivals"] [c5 C rs,.tup [.lst (bs.map Cz),.lst (cs.map Cz)],.df o (eR (fz rs 7)) (eQ (fz rs 7))]
abbrev x8:=Int×Str×Str
def i6(t:x8):T:=.tup [.int t.1,.str t.2.1,.str t.2.2]
def sS(rs:qal)(h:Nat)(y c:Str)(j:Nat):Bool:=match rs[j]?,gF (bh rs) j with
 |some (.set y' k _),some h'=>decide (eW k=c) && !decide (bitAnd (hv rs h y) (hv rs h' y')=0)
 |_,_=>false
def cellK(rs:qal)(h:Nat)(y c:Str)(n:Nat):List x8:=((List.range n).filter (sS rs h y c)).map λ(j:Nat)=>((j:Int),"cell",c)
def m_(rs:qal)(i:Nat):List x8:=match rs[i]?,gF (bh rs) i with
 |some (.get _ y k),some h=>cellK rs h y (eW k) 7
 |_,_=>[]
def Tx(rs:qal)(f:Str)(j:Nat):Bool:=match rs[j]? with
 |some (.call _ g _)=>decide (g=f)
 |_=>false
def x9(rs:qal)(f:Str):qao:=(List.range 7).filter (Tx rs f)
def Rj(rs:qal)(g:Str):Int:=match wU (bf rs 7) g with
 |some s=>((endsAt (bh rs) 7 s).getD 0:Nat)
 |none=>0
def gB(rs:qal)(i:Nat):List x8:=match rs[i]? with
 |some (.df f _)=>(x9 rs f).map λ(j:Nat)=>((j:Int),"call",f)
 |some (.call _ g _)=>[(((gE (bh rs) i).getD 0:Nat),"head",""),(Rj rs g,"give",g)]
 |some _=>[(((gE (bh rs) i).getD 0:Nat),"head","")]
 |none=>[]
def Xn(rs:qal)(i:Nat):Bool:=match rs[i]? with
 |some (.nZ _)=>true
 |_=>false
def YD(rs:qal):Nat->Option Nat->Int
 |0,_=>0
 |_,none=>0
 |n+1,some i=>bitOr (if Xn rs i=true then Bs [i] else 0) (YD rs n (gE (bh rs) i))
def Tz(rs:qal)(i:Nat):Int:=YD rs (i+1) (some i)
def x_(rs:qal)(j i:Nat):Bool:=!decide (gF (bh rs) j=il rs) || !decide (gF (bh rs) i=il rs) || decide (j<i) || !decide (bitAnd (Tz rs j) (Tz rs i)=0)
def vI(rs:qal)(i j:Nat):Bool:=match rs[j]? with
 |some r=>sG r && !decide (j=i) && x_ rs j i
 |none=>false
def pA(rs:qal)(i n:Nat):List x8:=((List.range n).filter (vI rs i)).map λ(j:Nat)=>((j:Int),"stop","")
def ng(p:Nat->Bool)(f:Nat->α)(n:Nat):((List.range (n+1)).filter p).map f=((List.range n).filter p).map f++if p n=true then [f n] else []:=by
 rw[T_,List.filter_append,nD]
 congr 1
 by_cases h:p n=true;rw[ι h,YI h];rfl;rw[θ h,YJ h];rfl
def AD(W:GG rs){o:Nat}(hi:i<=7)(h:gE (bh rs) i\o):o<i:=by unfold gE at h;rw[FD] at h;exact (Kt W i hi _ _ h).1
theorem ya{rs:qal}(W:GG rs):∀(n i:Nat),i<n->i<7->YD rs n (some i)=Tz rs i
 |0,i,h,_=>absurd h (Nat.not_lt_zero i)
 |n+1,i,h,hi=>by
  show bitOr _ (YD rs n (gE (bh rs) i))=bitOr _ (YD rs i (gE (bh rs) i))
  congr 1
  cases e:gE (bh rs) i with
  |none=>cases n<;>cases i<;>rfl
  |some o=>have:=AD W () e;rw[ya W n o () (),ya W i o this ()]
def wrO(rs:qal):Option Nat->Int
 |some i=>Tz rs i
 |none=>0
def Rk(W:GG rs)(hi:i<7):Tz rs i=bitOr (if Xn rs i=true then Bs [i] else 0) (wrO rs (gE (bh rs) i)):=by
 show bitOr _ (YD rs i (gE (bh rs) i))=_
 congr 1
 cases e:gE (bh rs) i with
 |none=>cases i<;>rfl
 |some o=>have:=AD W () e;exact ya W i o this ()
def Hz(a b c:Int):bitOr (bitOr a b) c=bitOr a (bitOr b c):=g_ λi=>by rw[dZ,dZ,dZ,dZ,Bool.or_assoc]
def AE(a:Int):bitOr a 0=a:=g_ λi=>by rw[dZ,BS.dm,Bool.or_false]
def My(a:Int):bitOr 0 a=a:=g_ λi=>by rw[dZ,BS.dm,Ih]
def aet{a b:Option Nat}{q:qam}(h:q (.vw (.bl (!decide (a=b))))):U8 (oT a) (oT b) q:=by
 cases a with
 |none=>cases b with
  |none=>exact#[9,9,by simp[oT,dep],h]
  |some y=>exact#[9,9,by simp[oT,dep],h]
 |some x=>cases b with
  |none=>exact#[9,9,by simp[oT,dep],h]
  |some y=>show q (.vw (.bl (!decide (x=(y:Int)))));have e:decide (x=(y:Int))=decide (some x\y):=aad.mpr #[λz=>aaa some (Int.ofNat_inj.mp z),λz=>by cases z;rfl];rw[e];exact h
def AF(C:Addr)(ts:Λ)(q:qam):Prop:=E2 λ(rs:qal) (f:Str)=>ts=[c5 C rs,.str f]/\7<=100/\q (.fr (.lst (nT (x9 rs f))))
def Mz(ts:Λ)(q:qam):Prop:=E4 λ(E F:List Ent) (i:Int) (x:Str)=>ts=[.tup [.lst (E.map Cz),.lst (F.map Cz)],.int i,.str x]/\q (.vw (.int (QK (pH i x) E)))
def aeu(CF C:Addr)(ts:Λ)(q:qam):Prop:=E10 λ(rs:qal) (bs cs:List Ent) (o:Obj) (i h:Nat) (p:Int) (r:Rw) (l:Λ) (x:Str)=>ts=[jg CF C rs bs cs o,.int (i:Int),.int p]/\rs[i]?\r/\aZ r=.tup l/\h9 l p\.str x/\gF (bh rs) i\h/\bs.Perm (IC (f7 rs))/\q (.vw (.int (hv rs h x)))
def TB(CF C:Addr)(ts:Λ)(q:qam):Prop:=∃(rs:qal)(bs cs:List Ent)(o:Obj)(i j h h':Nat)(x y x':Str)(k k':Ky)(v:nH),ts=[jg CF C rs bs cs o,.int (i:Int),.int (j:Int)]/\rs[i]?\.get x y k/\rs[j]?\.set x' k' v/\gF (bh rs) i\h/\gF (bh rs) j\h'/\bs.Perm (IC (f7 rs))/\q (.vw (.bl (!decide (bitAnd (hv rs h y) (hv rs h' x')=0))))
def MA(CF C:Addr)(ts:Λ)(q:qam):Prop:=E6 λ(rs:qal) (bs cs:List Ent) (o:Obj) (i h:Nat)=>ts=[jg CF C rs bs cs o,.int (i:Int)]/\Bl rs/\7<=100/\i<7/\(∀r∈rs,iY.Yy r)/\gF (bh rs) i\h/\bs.Perm (IC (f7 rs))/\q (.fr (.lst ((m_ rs i).map i6)))
def MD(C:Addr)(ts:Λ)(q:qam):Prop:=E4 λ(rs:qal) (i h:Nat) (r:Rw)=>ts=[c5 C rs,.int (i:Int)]/\Pg rs/\rs[i]?\r/\gF (bh rs) i\h/\q (.fr (.lst ((gB rs i).map i6)))
def Fh(C:Addr)(ts:Λ)(q:qam):Prop:=E2 λ(rs:qal) (i:Nat)=>ts=[c5 C rs,.int (i:Int)]/\GG rs/\7<=100/\i<7/\q (.vw (.int (Tz rs i)))
def ME(C:Addr)(ts:Λ)(q:qam):Prop:=E3 λ(rs:qal) (j i:Nat)=>ts=[c5 C rs,.int (j:Int),.int (i:Int)]/\GG rs/\7<=100/\i<7/\j<7/\q (.vw (.bl (x_ rs j i)))
def TC(C:Addr)(ts:Λ)(q:qam):Prop:=E2 λ(rs:qal) (i:Nat)=>ts=[c5 C rs,.int (i:Int)]/\GG rs/\7<=100/\i<7/\(∀r∈rs,Aw r)/\q (.fr (.lst ((pA rs i 7).map i6)))
def C6(rs:qal):dR (rs.map aZ)=(List.range 7).map λ(j:Nat)=>.tup [.int (j:Int),aZ (rs.getD j .skip)]:=by refine YT λj=>?_;unfold dR;rw[X4,fU,fU];by_cases h:j<7;rw[RU h,eZ h];show _\T.tup [.int j,aZ (rs.getD j .skip)];rw[vQ,eZ h];rfl;rw[IG (show rs.length<=j by lia),IG (by rw[pJ];lia)];rfl
def jh{c:Bool}{A:Prop}(h1:c=true->A)(h2:c=false->B):if c=true then A else B:=by
 cases c with
 |true=>exact h1 9
 |false=>exact h2 9
def getD_at(h:rs[j]?\r):rs.getD j .skip=r:=by rw[vQ,h];rfl
section
variable{bU:Addr}
abbrev sT:χ:=["layout","function","program"]
def pB:az sT qaJ (ar lY):=L2.eU
def jV:(sT++(["place","row"]:χ)).Nodup:=by decide +kernel
theorem AG(D:Df K mg "calls_of" lY qaJ f fd)(M:MgB mg)(M1:uw K au):bP P w K mg base "calls_of" qaJ 1 (bQ K 2 (AF au)):=by
 refine D.fm (gf D.F pB 9 λbL A outer s H E Ox hr ts q hG=>?_);have nd:=pB.nd;have hu:=bG.dW hr;have np:∀{i:Nat},aY #[H,[],Ox] i:=gX;have aj:=M1;refine#[_,(af (aJ (i:=2) nd 9 5 (Ψ (aQ aj.cl aj.bt (ae 0))) np)
  (aq (aA (Ψ (eI (ts:=["place","row"]) 9 (by rfl) (gK (by rfl) M.enumerate (ah 2)) (λ_ _ _ _ _ _=>(ff (n:=2) 9 (bq (aM (i:=3) jV 9 5 np) (bq (aM (i:=04) jV 9 5 np) dI)))) (λ_ _ _ _ _ _=>(j6 (VW.vc (c9 (bF hu (ν (ay (ae 04) 4)) (ν aC)) (c0 (bF hu (ν (ay (ae 04) 4)) (ae 1))))))) (λ_ _ _ _ _ _=>(ah 3))))))),λ_=>?_]
 let(rs,f',rfl,hn,hq):=hG;refine#[9,_,9,9,?_];show (dR (rs.map aZ)).length<=sizeLine/\cU _ _ _ _ (dR (rs.map aZ)) _;rw[C6];refine#[by rw[bS,pJ];exact bW (),gx (λ_ _ _ _ _=>trivial) (λj hj k s hk=>?_) hq];obtain⟨r,bV⟩:∃r,rs[j]?\r:=#[_,eZ (Bm.mp hj)];rw[getD_at bV];unfold Tx at hk;rw[bV] at hk;refine#[9,9,?_];cases r with
 |call x g as=>exact#[_,ai 9,_,ai 9,hk]
 |_=>exact#[_,ai 9,hk]
abbrev Rm:χ:=["table","home","name","told","part"]
def AH:az Rm qaK (ar x6):=L2.eU
def MJ(D:Df K mg "holds" x6 qaK f fd):bP P w K mg base "holds" qaK 1 (bQ K 3 Mz):=by
 refine D.fm (gf D.F AH 9 λbL A outer s H E Ox hr ts q hG=>?_);have nd:=AH.nd;have hu:=bG.dW hr;have np:∀{i:Nat},aY #[H,[],Ox] i:=gX;refine#[_,(af (aJ (i:=3) nd 9 5 (Ψ ag) np)
  (af (cQ nG 9 (eG (ω (ay (ae 0) 4))) (aM (i:=04) nd 9 5 np)
   (aq (bb (VW.vc (c9 (bF hu (ν (ay (ae 04) 4)) (ae 1)) (c0 (bF hu (ν (ay (ae 04) 4)) (ae 2)))))
    (aq (lr (i:=3) nd 9 5 (ν (ay (ae 04) 4)) k8 gH np))
    aE)))
  (aq (aA (Ψ (VE.vp (ah 3))))))),λ_=>?_]
 let(E,F,i,x,rfl,hq):=hG;refine#[_,ai 9,eJ (λn ρ=>E2 λv b4=>ρ=[aP (.tup [.lst (E.map Cz),.lst (F.map Cz)]),aP (.int i),aP (.str x),aP (.int v),b4]/\v=QK (pH i x) (E.take n)) #[_,none,9,9] ?_ ?_];rintro n e ρ he ⟨_,b4,rfl,rfl⟩;have hs:=QM (p:=pH i x) he;refine#[_,ai 9,cH (λz1=>#[_,ai 9,cH (λz2=>?_) (λz2=>?_)]) (λz1=>?_)];have hp:pH i x e.1=true:=ο (Prod.ext z1 z2);refine#[_,ai 9,_,_,9,?_];rw[hs];unfold WQ;rw[ι hp];have hp:¬ pH i x e.1=true:=λz=>z2 (by rw[Θ z]);refine#[_,_,9,?_];rw[hs];unfold WQ;rw[θ hp];have hp:¬ pH i x e.1=true:=λz=>z1 (by rw[Θ z]);refine#[_,_,9,?_];rw[hs];unfold WQ;rw[θ hp];rintro ρ ⟨_,b4,rfl,rfl⟩;rw[N8];exact hq
abbrev yb:χ:=qaL
def kZ:az yb qaL (ar i4):=L2.eU
def uI(D:Df K mg "records_of" i4 qaL f fd)(M:YC K bU)(M1:uw K au)(Ro:bP P w K mg base "holds" qaK 1 (bQ K 3 Mz)):bP P w K mg base "records_of" qaL 2 (bQ K 3 (aeu bU au)):=by refine D.fm (gf D.F kZ 9 λbL A outer s H E Ox hr ts q hG=>?_);have nd:=kZ.nd;have br:=M;have aj:=M1;refine#[_,(aq (aA (Ψ (aw Ro hr (aa (ω (aQ br.cl br.Ff (ae 0))) (aa (ω (ay (ν (aQ aj.cl aj.f9 (ν (aQ br.cl br.gA (ae 0))))) (ae 1))) (aa (ω (ay (ν (ay (ν (aQ aj.cl aj.bt (ν (aQ br.cl br.gA (ae 0))))) (ae 1))) (ae 2))) ak))))))),λ_=>?_];let(rs,bs,cs,o,i,h,p,r,l,x,rfl,bV,el,ex,hh,hp,hq):=hG;have hi:=(c7.mp bV).1;have er:=dc bV;rw[el] at er;refine#[9,_,9,9,_,9,9,_,9,.int h,(lF hi).trans (by rw[hh];rfl),9,_,9,9,_,9,_,er,_,ex,9,bs,cs,h,x,9,?_];rw[QL hp];exact hq
abbrev C7:χ:=qaM
def pD:az C7 qaM (ar lZ):=L2.eU
def AI(D:Df K mg "may_meet" lZ qaM f fd)(ni:bP P w K mg base "records_of" qaL 2 (bQ K 3 (aeu bU au))):bP P w K mg base "may_meet" qaM 3 (bQ K 3 (TB bU au)):=by refine D.fm (gf D.F pD 9 λbL A outer s H E Ox hr ts q hG=>?_);have nd:=pD.nd;have hu:=bG.dW hr;refine#[_,(aq (aA (Ψ (JD hu (ν (j3 (ν (aw ni hr (aa (ah 0) (aa (ah 1) (aa (ω ag) ak))))) (ν (aw ni hr (aa (ah 0) (aa (ah 2) (aa (ω ag) ak))))))) 4)))),λ_=>?_];let(rs,bs,cs,o,i,j,h,h',x,y,x',k,k',v,rfl,hi,hj,hh,hh',hp,hq):=hG;exact#[9,rs,bs,cs,o,i,h,2,_,_,y,9,hi,9,ai 9,hh,hp,9,rs,bs,cs,o,j,h',1,_,_,x',9,hj,9,ai 9,hh',hp,hq]
abbrev AJ:χ:=["facts","place","program","kind","told","other","row"]
def nq:az AJ qaN (ar jT):=L2.eU
theorem yc(D:Df K mg "cell_ties" jT qaN f fd)(M:MgB mg)(M1:YC K bU)(M2:uw K au)(gy:bP P w K mg base "class_of" ["key"] 3 (bQ K 1 iY.xS))(C8:bP P w K mg base "may_meet" qaM 3 (bQ K 3 (TB bU au))):bP P w K mg base "cell_ties" qaN 04 (bQ K 2 (MA bU au)):=by
 refine D.fm (gf D.F nq 9 λbL A outer s H E Ox hr ts q hG=>?_);have nd:=nq.nd;have hu:=bG.dW hr;have np:∀{i:Nat},aY #[H,[],Ox] i:=gX;have br:=M1;have aj:=M2;refine#[_,(af (aJ (i:=2) nd 9 5 (Ψ (aQ aj.cl aj.bt (ν (aQ br.cl br.gA (ae 0))))) np)
  (af (bb (h_ hu (ν (ay (ν (ay (ae 2) (ae 1))) 4)) (ν aC))
   (aq (aA (Ψ (bJ ak))))
   aE)
  (af (aJ (i:=3) nd 9 5 (Ψ (aw gy hr (aa (ω (ay (ν (ay (ae 2) (ae 1))) 4)) ak))) np)
  (af (cP (i:=04) nd 9 5 (Ψ (bJ ak)) np)
  (af (cQ nG 9 (gK (by rfl) M.enumerate (ah 2)) (ff (n:=2) 9 (bq (aM (i:=05) nd 9 5 np) (bq (aM (i:=06) nd 9 5 np) dI)))
   (aq (bb (VW.vc (c9 (bF hu (ν (ay (ae 06) 4)) (ν aC)) (c9 (bF hu (ν (aw gy hr (aa (ω (ay (ae 06) 4)) ak))) (ae 3)) (c0 (fO (aw C8 hr (aa (ah 0) (aa (ah 1) (aa (ah 05) ak)))))))))
    (aq (bA (dy 04 qt qu bo ba (aa (ω (bB (aa (ah 05) (aa (ω aC) (aa (ah 3) ak))))) ak))))
    aE)))
  (aq (aA (eF 04 np)))))))),λ_=>?_]
 let(rs,bs,cs,o,i,h,rfl,B,hn,hi,hk,hh,hp,hq):=hG;obtain⟨r,bV⟩:∃r,rs[i]?\r:=#[_,eZ hi];refine#[9,_,9,9,_,9,_,dc bV,?_];have hky:=hk r (fL bV);cases r with
 |get x y k=>
  have e0:m_ rs i=cellK rs h y (eW k) 7:=by unfold m_;rw[bV,hh]
  rw[e0] at hq;refine#[_,aaU,_,dc bV,_,aaX,9,Cd k,9,hky,fB _,j9 (λn ρ=>E3 λl b5 b6=>ρ=[aP (jg bU au rs bs cs o),aP (.int (i:Int)),aP (.lst (rs.map aZ)),aP (.str (eW k)),some (.lst l,true),b5,b6]/\l=(cellK rs h y (eW k) n).map i6) #[_,none,none,9,9] ?_ ?_];rintro n r2 ρ pU ⟨l,b5,b6,rfl,el⟩;have Se:=(c7.mp pU).1;have hl:l.length<=n:=by rw[el,bS];unfold cellK;rw[bS];exact kJ (RW _ _) (by rw[pJ];exact cL _)
  have hs:l.length<sizeLine:=by rw[π];lia
  have e1:=aaa (List.map i6) (ng (sS rs h y (eW k)) (λ(j:Nat)=>(((j:Int),"cell",eW k):x8)) n);have no:sS rs h y (eW k) n=false->E3 λl' b5 b6=>[aP (jg bU au rs bs cs o),aP (.int (i:Int)),aP (.lst (rs.map aZ)),aP (.str (eW k)),some (.lst l,true),aP (.int (n:Int)),aP (aZ r2)]=[aP (jg bU au rs bs cs o),aP (.int (i:Int)),aP (.lst (rs.map aZ)),aP (.str (eW k)),some (.lst l',true),b5,b6]/\l'=(cellK rs h y (eW k) (n+1)).map i6:=λz=>#[_,_,_,9,by
   rw[z,θ iC,Ie] at e1;rw[el];exact e1.symm]
  have yes:sS rs h y (eW k) n=true->E3 λl' b5 b6=>[aP (jg bU au rs bs cs o),aP (.int (i:Int)),aP (.lst (rs.map aZ)),aP (.str (eW k)),some (.lst (l++[i6 ((n:Int),"cell",eW k)]),true),aP (.int (n:Int)),aP (aZ r2)]=[aP (jg bU au rs bs cs o),aP (.int (i:Int)),aP (.lst (rs.map aZ)),aP (.str (eW k)),some (.lst l',true),b5,b6]/\l'=(cellK rs h y (eW k) (n+1)).map i6:=λz=>#[_,_,_,9,by
   rw[z,ι 9,nD] at e1;rw[el];exact e1.symm]
  cases r2 with
  |set y' k' v=>
   obtain⟨h',hh'⟩:∃h',gF (bh rs) n\h':=by
    have:=B.inn pU (show ("set":Str)≠"def" by decide +kernel) (show ("set":Str)≠"skip" by decide +kernel);have e:gF (bh rs) n=(st (bh rs) n).head?:=by unfold gF;rw[c_ pU];rfl
    rw[e];cases hl:st (bh rs) n with
    |nil=>exact absurd hl this
    |cons a _=>exact#[a,9]
   have ec:sS rs h y (eW k) n=(decide (eW k'=eW k) && !decide (bitAnd (hv rs h y) (hv rs h' y')=0)):=by unfold sS;rw[pU,hh']
   have wz:=hk _ (fL pU);refine#[9,9,_,aaU,_,aaW,9,Cd k',9,wz,?_];rw[iY.CT];exact cH (λz1=>#[9,rs,bs,cs,o,i,n,h,h',x,y,y',k,k',v,9,bV,pU,hh,hh',hp,jh (λz2=>#[bW 6,hs,yes (by rw[ec,ο z1];exact z2)]) (λz2=>no (by rw[ec,ο z1];exact z2))]) (λz1=>no (by rw[ec,ς z1];rfl))
  |_=>exact#[9,9,_,aaU,no (by unfold sS;rw[pU])]
  rintro ρ ⟨l,b5,b6,rfl,el⟩;rw[el];exact hq
 |_=>
  have e0:m_ rs i=[]:=by unfold m_;rw[bV]
  rw[e0] at hq;exact#[_,aaU,fB _,hq]
abbrev nt:χ:=["layout","place","row","told"]
def k0:az nt qay (ar i5):=L2.eU
def oE:(nt++(["other"]:χ)).Nodup:=by decide +kernel
theorem uJ(D:Df K mg "frame_ties" i5 qay f fd)(M:uw K au)(C9:bP P w K mg base "calls_of" qaJ 1 (bQ K 2 (AF au))):bP P w K mg base "frame_ties" qay 2 (bQ K 2 (MD au)):=by
 refine D.fm (gf D.F k0 9 λbL A outer s H E Ox hr ts q hG=>?_);have nd:=k0.nd;have hu:=bG.dW hr;have np:∀{i:Nat},aY #[H,[],Ox] i:=gX;have aj:=M;have yC:=vk hu;refine#[_,(af (aJ (i:=2) nd 9 (.inr 9) (Ψ (ay (ν (aQ aj.cl aj.bt (ae 0))) (ae 1))) np)
  (af (bb (bF hu (ν (ay (ae 2) 4)) (ν aC))
   (aq (aA (Ψ (eI (ts:=["other"]) 9 (by rfl) (eG (ω (aw C9 hr (aa (ah 0) (aa (ω (ay (ae 2) 4)) ak))))) (λ_ _ _ _ _ _=>(aM (i:=04) oE 9 5 np)) (λ_ _ _ _ _ _=>iL) (λ_ _ _ _ _ _=>(ω (bB (aa (ah 04) (aa (ω aC) (aa (ω (ay (ae 2) 4)) ak))))))))))
   aE)
  (af (cP (i:=3) nd 9 5 (Ψ (bJ (aa (ω (bB (aa (ω (ay (ν (aQ aj.cl aj.qi (ae 0))) (ae 1))) (aa (ω aC) (aa (ω aC) ak))))) ak))) np)
  (af (bb (bF hu (ν (ay (ae 2) 4)) (ν aC))
   (aq (bA (dy 3 qt qu bo ba (aa (ω (bB (aa (ω (ay (ν (aQ aj.cl aj.n5 (ae 0))) (ν (KL yC (ν (aQ aj.cl aj.rD (ae 0))) (ν (ay (ae 2) 4)))))) (aa (ω aC) (aa (ω (ay (ae 2) 4)) ak))))) ak))))
   aE)
  (aq (aA (eF 3 np))))))),λ_=>?_]
 let(rs,i,h,r,rfl,pg,bV,hh,hq):=hG;have hi:=(c7.mp bV).1;have hn:=pg.le;refine#[9,_,9,_,dc bV,?_];have hd:(∀f ps,r≠.df f ps)->∃o,gE (bh rs) i\o:=λnf=>by
  have e:gF (bh rs) i=(st (bh rs) i).head?:=by unfold gF;rw[c_ bV];cases r<;>first|rfl|exact absurd 9 (nf _ _)
  rw[e] at hh;unfold gE;cases hl:st (bh rs) i with
  |nil=>rw[hl] at hh;cases hh
  |cons a l=>exact#[_,List.getLast?_eq_some_getLast 6]
 have ehd:∀o,gE (bh rs) i\o->h9 (KQ rs) (i:Int)\.int (o:Int):=λo e=>(xc hi).trans (by rw[e];rfl);cases r with
 |df f' ps=>
  have e0:gB rs i=(x9 rs f').map λ(j:Nat)=>(((j:Int),"call",f'):x8):=by unfold gB;rw[bV]
  rw[e0,yE] at hq;exact#[_,ai 9,9,_,ai 9,9,rs,f',9,(),#[by rw[bS];exact bW (kJ (RW _ _) (by rw[pJ];lia)),gw (λj hj r pU=>#[_,ai 9,bW 6,pU]) hq]]
 |call x g as=>
  let(o,eo):=hd λ_ _ z=>nomatch z;let(_,(s',ps,og),hf):=pg.cl x g as (fL bV);let(f',e,h1,h2,h3,h4):=xO hf;have yL:=(c7.mp h2).1;have hdg:g7 ((bf rs 7).map λp=>(Sum.inr p.1:Key)) ((bf rs 7).map λp=>T.int (p.2:Int)) (Sum.inr g)\.int (s':Int):=by rw[Co,h1];rfl
  have e0:gB rs i=([((o:Int),"head",""),((e:Int),"give",g)]:List x8):=by unfold gB Rj;rw[bV,eo];dsimp only;rw[h1];dsimp only;rw[h3];rfl
  rw[e0] at hq;exact#[_,ai 9,9,_,9,_,ehd o eo,bW 6,bW 6,_,ai 9,9,_,9,9,_,9,_,ai 9,_,hdg,.int (e:Int),(qh yL).trans (by rw[h3];rfl),_,ai 9,bW 6,by show 1<sizeLine;rw[π];decide,hq]
 |_=>
  let(o,eo):=hd λ_ _ z=>nomatch z;have e0:gB rs i=([((o:Int),"head","")]:List x8):=by unfold gB;rw[bV,eo];rfl
  rw[e0] at hq;exact#[_,aaU,9,_,9,_,ehd o eo,bW 6,bW 6,_,aaU,hq]
abbrev sU:χ:=["layout","place","told"]
def ji:az sU qay (ar gz):=L2.eU
theorem p7(D:Df K mg "whiles_round" gz qay f fd)(M:uw K au)(jR:bP P w K mg base "set_of" qaB 1 (bQ K 1 EX)):bP P w K mg base "whiles_round" qay 2 (bQ K 2 (Fh au)):=by
 refine D.fm (gf D.F ji 9 λbL A outer s H E Ox hr ts q hG=>?_);have nd:=ji.nd;have hu:=bG.dW hr;have np:∀{i:Nat},aY #[H,[],Ox] i:=gX;have aj:=M;refine#[_,(af (aJ (i:=2) nd 9 5 (Ψ ag) np)
  (af (qT nG (zf (ae 1) (ν gT))
   (af (bb (bF hu (ν (ay (ν (ay (ν (aQ aj.cl aj.bt (ae 0))) (ae 1))) 4)) (ν aC))
    (aq (lr (i:=2) nd 9 5 (ν (aw jR hr (aa (ω (bJ (aa (ah 1) ak))) ak))) k8 gH np))
    aE)
   (aq (aJ (i:=1) nd 9 5 (Ψ (ay (ν (aQ aj.cl aj.qi (ae 0))) (ae 1))) np))))
  (aq (aA (Ψ (VE.vp (ah 2))))))),λ_=>?_]
 let(rs,i,rfl,W,hn,hi,hq):=hG;refine#[λm ρ=>E2 λ(oi:Option Nat) (v:Int)=>ρ=[aP (c5 au rs),aP (oT oi),aP (.int v)]/\(∀j,oi\j->j<7)/\m=(match oi with|none=>0|some j=>j+1)/\bitOr v (wrO rs oi)=Tz rs i,#[_,some i,0,9,λj e=>by cases e;exact hi,9,My _],?_];rintro m ρ ⟨oi,v,rfl,hj,rfl,hv⟩;cases oi with
 |none=>rw[show wrO rs none=0 from 9,AE] at hv;rw[hv];exact hq
 |some j=>
  have hj:=hj j 9;obtain⟨r,bV⟩:∃r,rs[j]?\r:=#[_,eZ hj];have hs:=Rk W hj;have nx:∀v':Int,v'=bitOr v (if Xn rs j=true then Bs [j] else 0)->∃m'<j+1,E2 λ(oi:Option Nat) (v2:Int)=>[aP (c5 au rs),aP (oT (gE (bh rs) j)),aP (.int v')]=[aP (c5 au rs),aP (oT oi),aP (.int v2)]/\(∀j,oi\j->j<7)/\m'=(match oi with|none=>0|some j=>j+1)/\bitOr v2 (wrO rs oi)=Tz rs i:=λv' e=>by
   refine#[_,?_,gE (bh rs) j,v',9,λo eo=>?_,9,?_];cases eo:gE (bh rs) j with
   |none=>exact Nat.succ_pos j
   |some o=>have:=AD W () eo;show o+1<j+1;lia
   have:=AD W () eo;lia;rw[e,Hz,<- hs];exact hv
  refine#[9,_,9,_,dc bV,?_];cases r with
  |nZ a=>
   have hw:Xn rs j=true:=by unfold Xn;rw[bV]
   exact#[_,ai 9,bW 6,9,[j],9,λk hk=>by rw[fE.mp hk];lia,9,_,9,_,xc hj,nx _ (by rw[hw,ι 9])]
  |_=>
   have hw:Xn rs j=false:=by unfold Xn;rw[bV]
   exact#[_,ai 9,9,_,9,_,xc hj,nx _ (by rw[hw,θ iC,AE])]
abbrev oF:χ:=qaO
def gO:az oF qaO (ar fA):=L2.eU
theorem ny(D:Df K mg "may_come_ahead" fA qaO f fd)(M:uw K au)(jW:bP P w K mg base "whiles_round" qay 2 (bQ K 2 (Fh au))):bP P w K mg base "may_come_ahead" qaO 3 (bQ K 3 (ME au)):=by
 refine D.fm (gf D.F gO 9 λbL A outer s H E Ox hr ts q hG=>?_);have nd:=gO.nd;have hu:=bG.dW hr;have aj:=M;refine#[_,(af (bb (VW.vc (qN (h_ hu (ν (ay (ν (aQ aj.cl aj.f9 (ae 0))) (ae 1))) (ν (aQ aj.cl aj.Cr (ae 0)))) (qN (h_ hu (ν (ay (ν (aQ aj.cl aj.f9 (ae 0))) (ae 2))) (ν (aQ aj.cl aj.Cr (ae 0)))) (nS (mw (ae 1) (ae 2))))))
    (aq (aA (Ψ mm)))
    aE)
   (aq (aA (Ψ (JD hu (ν (j3 (ν (aw jW hr (aa (ah 0) (aa (ah 1) ak)))) (ν (aw jW hr (aa (ah 0) (aa (ah 2) ak)))))) 4))))),λ_=>?_]
 let(rs,j,i,rfl,W,hn,hi,hj,hq):=hG;unfold x_ at hq;refine#[9,_,9,_,lF hj,9,_,9,aet (jh (λz=>?_) (λz=>#[9,_,9,_,lF hi,9,_,9,aet (jh (λz2=>?_) (λz2=>?_))]))];rw[z,Uc,Uc,Uc] at hq;exact hq;rw[z,z2,Ih,Uc,Uc] at hq;exact hq;rw[z,z2,Ih,Ih] at hq;refine cH (λz3=>?_) (λz3=>?_);rw[ο (show j<i by have:=z3;lia),Uc] at hq;exact hq;rw[ς (show ¬ j<i by have:=z3;lia),Ih] at hq;exact#[9,rs,j,9,W,hn,hj,9,rs,i,9,W,hn,hi,hq]
abbrev AK:χ:=["layout","place","told","other","row"]
def nz:az AK qay (ar jU):=L2.eU
theorem yd(D:Df K mg "stop_ties" jU qay f fd)(M:MgB mg)(M1:uw K au)(Rp:bP P w K mg base "risky" qaC 2 (bQ K 1 Us.Mh))(oG:bP P w K mg base "may_come_ahead" qaO 3 (bQ K 3 (ME au))):bP P w K mg base "stop_ties" qay 04 (bQ K 2 (TC au)):=by
 refine D.fm (gf D.F nz 9 λbL A outer s H E Ox hr ts q hG=>?_);have nd:=nz.nd;have hu:=bG.dW hr;have np:∀{i:Nat},aY #[H,[],Ox] i:=gX;have aj:=M1;refine#[_,(af (cP (i:=2) nd 9 5 (Ψ (bJ ak)) np)
  (af (cQ nG 9 (gK (by rfl) M.enumerate (ω (aQ aj.cl aj.bt (ae 0)))) (ff (n:=2) 9 (bq (aM (i:=3) nd 9 5 np) (bq (aM (i:=04) nd 9 5 np) dI)))
   (aq (bb (VW.vc (c9 (fO (aw Rp hr (aa (ah 04) ak))) (c9 (h_ hu (ae 3) (ae 1)) (c0 (fO (aw oG hr (aa (ah 0) (aa (ah 3) (aa (ah 1) ak)))))))))
    (aq (bA (dy 2 qt qu bo ba (aa (ω (bB (aa (ah 3) (aa (ω aC) (aa (ω aC) ak))))) ak))))
    aE)))
  (aq (aA (eF 2 np))))),λ_=>?_]
 let(rs,i,rfl,W,hn,hi,hR,hq):=hG;refine#[fB _,9,_,9,j9 (λn ρ=>E3 λl b3 b4=>ρ=[aP (c5 au rs),aP (.int i),some (.lst l,true),b3,b4]/\l=(pA rs i n).map i6) #[_,none,none,9,9] ?_ ?_];rintro n r2 ρ pU ⟨l,b3,b4,rfl,el⟩;have Se:=(c7.mp pU).1;have hl:l.length<=n:=by rw[el,bS];unfold pA;rw[bS];exact kJ (RW _ _) (by rw[pJ];exact cL _)
 have hs:l.length<sizeLine:=by rw[π];lia
 have e1:=aaa (List.map i6) (ng (vI rs i) (λj=>(((j:Int),"stop",""):x8)) n);have ec:vI rs i n=(sG r2 && !decide (n=i) && x_ rs n i):=by unfold vI;rw[pU]
 have no:vI rs i n=false->E3 λl' b3 b4=>[aP (c5 au rs),aP (.int (i:Int)),some (.lst l,true),aP (.int (n:Int)),aP (aZ r2)]=[aP (c5 au rs),aP (.int (i:Int)),some (.lst l',true),b3,b4]/\l'=(pA rs i (n+1)).map i6:=λz=>#[_,_,_,9,by
  rw[z,θ iC,Ie] at e1;rw[el];exact e1.symm]
 have yes:vI rs i n=true->E3 λl' b3 b4=>[aP (c5 au rs),aP (.int (i:Int)),some (.lst (l++[i6 ((n:Int),"stop","")]),true),aP (.int (n:Int)),aP (aZ r2)]=[aP (c5 au rs),aP (.int (i:Int)),some (.lst l',true),b3,b4]/\l'=(pA rs i (n+1)).map i6:=λz=>#[_,_,_,9,by
  rw[z,ι 9,nD] at e1;rw[el];exact e1.symm]
 refine#[9,9,9,r2,9,hR r2 (fL pU),jh (λz1=>?_) (λz1=>no (by rw[ec,z1];rfl))];have en:decide ((n:Int)=(i:Int))=decide (n=i):=aad.mpr #[λz=>Int.ofNat_inj.mp z,λz=>by rw[z]];show if (!decide ((n:Int)=(i:Int)))=true then _ else _
 rw[en];exact jh (λz2=>#[9,rs,n,i,9,W,hn,hi,Se,jh (λz3=>#[bW 6,hs,yes (by rw[ec,z1,z2,z3];rfl)]) (λz3=>no (by rw[ec,z1,z2,z3];rfl))]) (λz2=>no (by rw[ec,z1,z2];rfl));rintro ρ ⟨l,b3,b4,rfl,el⟩;rw[el];exact hq
end
end Nt
namespace VT
open PySem PySem.Spec PyProof.Rows L2
structure C_(K:qaf)(x qual:Str)(st:Stmt)(f:Addr)(fd:FuncData):Prop where
 ex:∃(oc:Value)(od:qar)(dV kV doc pm:Value)(an:qar)(bL ct:Value)(BP:Array (Option Value)),
  fd=W.fnOf x qual (cn st) (bH st) (ar st) dV kV doc pm an bL ct/\K.lookup f=some #[oc,od,.func fd,BP]/\W.codeIn K bL qual=true
 kp:W.keepIn K (.ref f)=true
section
def C_.ok{st:Stmt}{N:χ}{k:Nat}(F:C_ K x qual st f fd)(S:az N ps (ar st))(len:∀vs H Q E,sp vs H Q E->vs.length=ps.length)(fG:∀(bL:Value) (A:Around) (outer:List Env) (s:Shared) (H:Hp) (vs:qak) (Q:VK) (E:XK),bG k (A.deeper (envOfC qual (ar st) 8 f bL))->sp vs H Q E ->
    ∃t,ko (h7 iA P w K mg base N qual (ar st) f bL A outer s H E).vV (bH st) t/\t {nx:=λ_ H'=>Q .bY H',rt:=Q} (start N vs) H):eD P w K mg base iA (k+1) f fd ps sp:=by
 let(oc,od,dV,kV,doc,pm,an,bL,ct,BP,rfl,lk,fW):=F.ex;refine DQ lk fW S len λA outer s H vs Q E hr Sg=>?_;let(t,h,q):=fG bL A outer s H vs Q E hr Sg;exact#[t,h.vV,q]
end
def qr{ds:qag}{xs:Array Value}(h1:fd.defaults=.ref a)(h2:K.lookup a\o)(h3:o.data=.seq xs n)(hl:ps.length=m+ds.length)(h:∀us:qag,us.length=m->∃k,bindArgs fd #[us,[]]=seqItems? fd.defaults >>= k/\k (some xs)=pure (ps.zip (us++ds))):Binds K fd ps ds:=λs us KX e=>by let(k,e1,e2):=h us (by rw[fS] at e;lia);exact BindsTo.of_defaults h1 (KX _ _ h2) h3 e1 e2
section
theorem TF:∀n (as:qah) k,pz (List.replicate n false) as k=[]
 |0,_,_=>rfl
 |n+1,as,k=>TF n as (k+1)
theorem MM:∀n (ρ:En),lz (List.replicate n false) ρ=[]
 |0,_=>rfl
 |n+1,ρ=>MM n ρ.tail
theorem TH:∀(ts:Λ),wx (List.replicate ts.length false) ts=ts.map λt=>some (t,false)
 |[]=>rfl
 |t::ts=>by rw[vR,Ic,wx,TH ts];rfl
def aev{st:Stmt}{N:χ}{k:Nat}{G:Λ->(qam)->Prop}(F:C_ K x qual st f fd)(S:az N ps (ar st))(hn:n=ps.length)(fG:∀(bL:Value) (A:Around) (outer:List Env) (s:Shared) (H:Hp) (E:XK) (Ox:qah),bG k (A.deeper (envOfC qual (ar st) 8 f bL))->∀ts q,G ts q ->
    ∃g,ku (h7 iA P w K mg base N qual (ar st) f bL A outer s H E).vV #[H,[],Ox] (bH st) g/\(ts.length=n->g {nx:=λ_=>q (.vw .bY),rt:=λ_ r=>q r} (ts.map (λt=>some (t,false))++List.replicate (N.length-ts.length) none))) :
  eD P w K mg base iA (k+1) f fd ps (bQ K n G):=by
 refine F.ok S (λvs H Q E h=>?_) (λbL A outer s H vs Q E hr h=>?_);let(ts,as,Ox,q,_,_,_,ha,_):=h;rw[<- hn,(gp ha).2.1,NN];let(ts,as,Ox,q,nd,nx,ox,ha,hG,kk):=h;have l1:=(gp ha).1;rw[NN] at l1;let(g,hg,hq):=fG bL A outer s H E Ox hr ts (q []) hG;subst l1;have:=y7 (X:=(h7 iA P w K mg base N qual (ar st) f bL A outer s H E).vV) (N:=N) (g:=g) nd nx ox ha kk (by rw[TH];simp only[MM];exact hq 9);rw[TF] at this;exact#[_,hg [],this]
end
end VT
namespace Nt
open PySem L2 VT Gen K5 Lay BS IB MK
open PySem.Builtin (bitOr bitAnd)
open iY (jM IC)
open Us (sG Aw Ax)
abbrev nA:Stmt:=inClass (top 43) 0
abbrev jX:Stmt:=top 47
abbrev ki:Stmt:=top 46
structure MgC(K:qaf)(mg:qae):Prop where
 sorted:mg "sorted"=none
 len:mg "len"=none
 range:mg "range"=none
 SL:∃a,mg "SILENT"\.ref a/\∀H,e_ K H a [.str "else",.str "end",.str "skip"]
def sg:bootBuiltins "sorted"\.builtin "sorted":=by decide +kernel
structure oH(rs:qal):Prop where
 pg:Pg rs
 rl:∀r∈rs,Aw r
 mn:∀r∈rs,(cR r).length<=10
 ky:∀r∈rs,iY.clR rs r/\iY.Yy r
theorem ye{rs:qal}(N:oH rs):∀k,k<=7->(fz rs k).length<=k * 10
 |0,_=>by simp[fz]
 |k+1,h=>by
  have ih:=ye N k ();obtain⟨r,hr⟩:∃r,rs[k]?\r:=#[_,eZ ()];have:=m8 rs k (cR r) (fz rs k);have:=N.mn r (fL hr);rw[sD];unfold Mb;rw[hr];dsimp only
  lia
def kR(rs:qal)(i:Nat)(r:Rw)(e:Ent):Bool:=decide (e.1.2∈Ax r) && ib e.2 i
def sV(rs:qal)(i:Nat):List x8:=match rs[i]? with
 |some r=>((fz rs 7).filter (kR rs i r)).map λe=>(e.1.1,"name",e.1.2)
 |none=>[]
def MO(r:Rw):Bool:=match r with
 |.pS=>true
 |.fin=>true
 |.skip=>true
 |_=>false
def AL(rs:qal)(s:Bool)(i:Nat):List x8:=sV rs i++m_ rs i++gB rs i++if s=true then pA rs i 7 else []
def gP(rs:qal)(s:Bool)(i:Nat):List x8:=match rs[i]?,gF (bh rs) i with
 |some r,some _=>if MO r=true then [] else AL rs s i
 |_,_=>[]
def d5(rs:qal)(s:Bool):qan:=(List.range 7).map λi=>Bs ((gP rs s i).map λt=>t.1.toNat)
def yf(r:Rw):mB (.str (wd r)) [.str "else",.str "end",.str "skip"]=MO r:=by rw[show ([.str "else",.str "end",.str "skip"]:Λ)=(["else","end","skip"]:χ).map T.str from 9,gL];cases r<;>rfl
def AN(N:oH rs)(i:Nat):(sV rs i).length<=600:=by have h1:=ye N 7 (cL _);have h2:=N.pg.le;unfold sV;split;rw[bS];exact kJ (RW _ _) ();exact fB _
def yg{p:Nat->Bool}(n:Nat):((List.range n).filter p).length<=n:=kJ (RW _ _) (by rw[pJ];exact cL _)
def AO(rs:qal)(i:Nat):(m_ rs i).length<=7:=by unfold m_;split;unfold cellK;rw[bS];exact yg _;exact fB _
def vJ(rs:qal)(i:Nat):(gB rs i).length<=7+2:=by unfold gB;split;unfold x9;rw[bS];exact kJ (yg _) ();simp;simp;exact fB _
def AQ(rs:qal)(i n:Nat):(pA rs i n).length<=n:=by unfold pA;rw[bS];exact yg _
def MQ(CF C:Addr)(ts:Λ)(q:qam):Prop:=E5 λ(rs:qal) (bs cs:List Ent) (o:Obj) (i:Nat)=>ts=[jg CF C rs bs cs o,.int (i:Int)]/\oH rs/\i<7/\q (.fr (.lst ((sV rs i).map i6)))
def Fi(CF C:Addr)(ts:Λ)(q:qam):Prop:=E6 λ(rs:qal) (bs cs:List Ent) (o:Obj) (i:Nat) (s:Bool)=>ts=[jg CF C rs bs cs o,.int (i:Int),.bl s]/\oH rs/\i<7/\bs.Perm (IC (f7 rs))/\∀l:List x8,l.Perm (gP rs s i)->q (.fr (.lst (l.map i6)))
def MR(CF C:Addr)(ts:Λ)(q:T->Prop):Prop:=∃rs:qal,ts=[.lst (rs.map aZ)]/\oH rs/\∀bs cs o,bs.Perm (IC (f7 rs))->q (jg CF C rs bs cs o)
section
variable{bU:Addr}
abbrev pF:χ:=["facts","place","used"]
def nB:az pF qaN (ar jX):=L2.eU
def jj:(pF++(["key","rows"]:χ)).Nodup:=by decide +kernel
theorem yh(D:Df K mg "name_ties" jX qaN f fd)(M:YC K bU)(M1:uw K au)(Xo:bP P w K mg base "uses" qaC 04 (bQ K 1 Us.To))(An:bP P w K mg base "has" qaA 1 (bQ K 2 jM)):bP P w K mg base "name_ties" qaN 05 (bQ K 2 (MQ bU au)):=by
 refine D.fm (gf D.F nB 9 λbL A outer s H E Ox hr ts q hG=>?_);have nd:=nB.nd;have np:∀{i:Nat},aY #[H,[],Ox] i:=gX;have br:=M;have aj:=M1;refine#[_,(af (aJ (i:=2) nd 9 (.inr 9) (Ψ (aw Xo hr (aa (ω (ay (ν (aQ aj.cl aj.bt (ν (aQ br.cl br.gA (ae 0))))) (ae 1))) ak))) np)
  (aq (aA (Ψ (eI (ts:=["key","rows"]) 9 (by rfl) (Ab (ω (aQ br.cl br.sR (ae 0)))) (λ_ _ _ _ _ _=>(ff (n:=2) 9 (bq (aM (i:=3) jj 9 5 np) (bq (aM (i:=04) jj 9 5 np) dI)))) (λ_ _ _ _ _ _=>(j6 (VW.vc (c9 (u_ (ν (ay (ae 3) 4)) (ae 2)) (c0 (fO (aw An hr (aa (ah 04) (aa (ah 1) ak))))))))) (λ_ _ _ _ _ _=>(ω (bB (aa (ω (ay (ae 3) 4)) (aa (ω aC) (aa (ω (ay (ae 3) 4)) ak))))))))))),λ_=>?_]
 let(rs,bs,cs,o,i,rfl,N,hi,hq):=hG;obtain⟨r,bV⟩:∃r,rs[i]?\r:=#[_,eZ hi];have e0:sV rs i=((fz rs 7).filter (kR rs i r)).map λe=>((e.1.1,"name",e.1.2):x8):=by unfold sV;rw[bV]
 rw[e0,yE] at hq;have hle:=ye N 7 (cL _);have hn:=N.pg.le;generalize hE:fz rs rs.length=E at hq hle;have ez:((eR E).zip (eQ E)).map WE=E.map λe=>.tup [ktT (kK e.1),.int e.2]:=by unfold eR eQ;rw[List.zip_map',yE];rfl
 refine#[9,_,9,9,_,9,_,dc bV,9,r,9,N.rl r (fL bV),λzs hz=>?_];refine#[9,9,_,9,?_];rw[hE];refine#[by unfold eR eQ;rw[bS,bS],?_];show (((eR E).zip (eQ E)).map WE).length<=sizeLine/\cU _ _ _ _ (((eR E).zip (eQ E)).map WE) _;rw[ez];refine#[by rw[bS,π];lia,?_];refine gx (u:=λe:Ent=>i6 (e.1.1,"name",e.1.2)) (p:=kR rs i r) (λ_ _ _ _ _=>trivial) (λe he k s hk=>?_) hq;refine#[9,9,_,aaV,9,lU _,?_];have ein:mB (.str e.1.2) (zs.map T.str)=decide (e.1.2∈Ax r):=(gL _ _).trans (aad.mpr (hz _));show if mB (.str e.1.2) (zs.map T.str)=true then _ else _
 rw[ein];unfold kR at hk;refine jh (λz1=>?_) (λz1=>?_);rw[z1,yx] at hk;refine#[9,e.2,i,9,?_];refine jh (λz2=>?_) (λz2=>?_);rw[z2,ι 9] at hk;exact#[_,aaU,_,aaV,bW 6,hk];rw[z2,θ iC] at hk;exact hk;rw[z1,Ig,θ iC] at hk;exact hk
abbrev vK:χ:=["facts","place","strict","layout","told"]
def sW:az vK qaP (ar ki):=L2.eU
theorem Dd(D:Df K mg "ties_of" ki qaP f fd)(M:MgC K mg)(M1:YC K bU)(M2:uw K au)(AR:bP P w K mg base "name_ties" qaN 05 (bQ K 2 (MQ bU au)))(AS:bP P w K mg base "cell_ties" qaN 04 (bQ K 2 (MA bU au)))(yi:bP P w K mg base "frame_ties" qay 2 (bQ K 2 (MD au)))(AU:bP P w K mg base "stop_ties" qay 04 (bQ K 2 (TC au))):bP P w K mg base "ties_of" qaP 06 (bQ K 3 (Fi bU au)):=by
 refine D.fm (gf D.F sW 9 λbL A outer s H E Ox hr ts q hG=>?_);have nd:=sW.nd;have np:∀{i:Nat},aY #[H,[],Ox] i:=gX;have br:=M1;have aj:=M2;let(ac,mc,V8):=M.SL;have MT:∀{pos},VP (h7 iA P w K mg base vK "ties_of" (ar ki) f bL A outer s H E).vV #[H,[],Ox] (.Name "SILENT" pos) (fC (.tup [.str "else",.str "end",.str "skip"])):=iJ (by rfl) mc (v:=.ref ac) 9 λH A=>cj (V8 H) (aD.cons cO (aD.cons cO (aD.cons cO aD.nil)));refine#[_,(af (aJ (i:=3) nd 9 5 (Ψ (aQ br.cl br.gA (ae 0))) np)
  (af (bb (VW.vc (qN (JW (ν (ay (ν (aQ aj.cl aj.f9 (ae 3))) (ae 1))) (ν gT)) (nS (u_ (ν (ay (ν (ay (ν (aQ aj.cl aj.bt (ae 3))) (ae 1))) 4)) (ν MT)))))
   (aq (aA (Ψ (bJ ak))))
   aE)
  (af (cP (i:=04) nd 9 5 (Ψ (cF (ν (cF (ν (aw AR hr (aa (ah 0) (aa (ah 1) ak)))) (ν (aw AS hr (aa (ah 0) (aa (ah 1) ak)))))) (ν (aw yi hr (aa (ah 3) (aa (ah 1) ak)))))) np)
  (af (bb (fO (VE.vp (ah 2)))
   (aq (bA (EC 04 (aw AU hr (aa (ah 3) (aa (ah 1) ak))))))
   aE)
  (aq (aA (Ψ (aS (TP.mZ true) (TP.o7 true) (by rfl) M.sorted sg (aO (ae 04) aX))))))))),λ_=>?_]
 let(rs,bs,cs,o,i,b,rfl,N,hi,hp,hq):=hG;obtain⟨r,bV⟩:∃r,rs[i]?\r:=#[_,eZ hi];refine#[9,_,9,9,_,9,_,lF hi,?_];cases hh:gF (bh rs) i with
 |none=>
  have e0:gP rs b i=[]:=by unfold gP;rw[bV,hh]
  rw[e0] at hq;exact#[fB _,hq [] .nil]
 |some h=>
  have hn:=N.pg.le;have l1:=AN N i;have l2:=AO rs i;have l3:=vJ rs i;have l4:=AQ rs i 7;let(l,el):=j8 r;have er:=dc bV;rw[el] at er;refine#[9,_,9,_,er,_,aaU,9,9,?_];show if mB (.str (wd r)) [.str "else",.str "end",.str "skip"]=true then _ else _
  rw[yf];refine jh (λz=>?_) (λz=>?_);have e0:gP rs b i=[]:=by unfold gP;rw[bV,hh];dsimp only;rw[ι z]
  rw[e0] at hq;exact#[fB _,hq [] .nil];have e0:gP rs b i=AL rs b i:=by unfold gP;rw[bV,hh];dsimp only;rw[z,θ iC]
  rw[e0] at hq;unfold AL at hq;have fin:∀L:List x8,L.length<=2000->(∀l:List x8,l.Perm L->q (.fr (.lst (l.map i6))))->TP.Ly true [.lst (L.map i6)] q:=λL hL hq=>#[_,9,by rw[bS];lia,λt ht=>by
   let(x,_,rfl):=k6.mp ht;exact#[_,_,_,9,_,9],λzs p=>by
   let(L',p1,rfl):=iY.Am p;exact hq L' p1]
  refine#[9,rs,bs,cs,o,i,9,N,hi,9,rs,bs,cs,o,i,h,9,N.pg.B,(),hi,λr hr=>(N.ky r hr).2,hh,hp,?_];refine#[by rw[bS,bS,π];lia,9,rs,i,h,r,9,N.pg,bV,hh,by rw[fS,bS,bS,bS,π];lia,?_];rw[<- nD,<- nD];cases b with
  |false=>rw[θ iC,Ie] at hq;exact fin _ (by rw[fS,fS];lia) hq
  |true=>rw[ι 9] at hq;refine#[9,rs,i,9,N.pg.B.W,(),hi,N.rl,?_];refine#[by rw[bS,bS,fS,fS,π];lia,?_];rw[<- nD];exact fin _ (by rw[fS,fS,fS];lia) hq
abbrev Rq:χ:=qaw
def AV:az Rq qaw (ar nA):=L2.eU
theorem MV(D:Dc K mg "Facts" "Facts.__init__" nA qaw bU f fd)(M:YC K bU)(M1:uw K au)(sM:zM P w K mg base "Layout" au qaw 2 1 (xm au))(MW:bP P w K mg base "makers" qav 06 (VM K 1 iY.Fe))(uK:bP P w K mg base "arrivals_of" qaH 04 (bQ K 1 (aej au))):zM P w K mg base "Facts" bU qaw 07 1 (MR bU au):=by
 let(Mw,Hu,sN,sO,sP,sQ):=sM;let(aew,YE,MY,MZ,M6,M7):=MW;refine D.fm (fnI D.F AV 9 λbL A outer s H E as Ox hr us q hl hG=>?_);have nd:=AV.nd;have br:=M;refine#[_,(af (fP 0 br.cl br.gA (ω (xa sN sQ (hr.mono 15) (by rfl) sO sP (aa (ah 1) ak))))
  (af (fP 0 br.cl br.Ff (ω (VD.vp (Em M7 (hr.mono 15) (by rfl) MY MZ M6 (aa (ah 1) ak)))))
  (aq (fP 0 br.cl br.sR (ω (aw uK hr (aa (ω (aQ br.cl br.gA (ae 0))) ak))))))),?_]
 let(rs,rfl,N,hq):=hG;have hn:=N.pg.le;have Bp:=N.pg.len.1;refine#[9,9,rs,9,N.pg.B.W,(),by show 0<1000;decide,?_];refine#[9,9,rs,9,N.pg.B.W,(),(),N.ky,λm h1 h2 bs cs p1 p2=>?_];rw[<- Xm h1 h2] at p1;refine#[by show 1<1000;decide,?_];refine#[9,9,_,9,9,rs,9,N.pg.B,(),N.mn,λo=>#[by show 2<1000;decide,?_]];exact hq bs cs o p1
end
end Nt
namespace BS
open PySem PySem.Builtin PyProof.Rows
structure Tn(net:qan)(i:Nat)(S:qao)(L:qan):Prop where
 len:L.length=net.length
 WR:∀y∈L,below net.length y
 bit:∀r j,ib (L.getD j 0) r=(decide (j<net.length) && ((decide (r<i) && ib (net.getD r 0) j) || (decide (r=i) && decide (j∈S))))
section
variable{L:qan}{S:qao}
def Tn.init:Tn net 0 [] (List.replicate net.length 0):=by
 refine#[NN,λy hy=>?_,λr j=>?_];rw[(List.mem_replicate.mp hy).2];exact cJ _;have e:(List.replicate net.length (0:Int)).getD j 0=0:=by rw[vQ,Ib];split<;>rfl
 rw[e,dm];simp
def Tn.step{j0:Nat}(h:Tn net i S L)(hi:i<net.length)(e:L[j0]?\y):Tn net i (S++[j0]) (L.set j0 (bitOr y (1 * 2 ^ i))):=by
 have hj0:j0<L.length:=(c7.mp e).1;have hb:=h.WR y (fL e);refine#[by rw[List.length_set];exact h.len,λz hz=>?_,λr j=>?_];rcases XZ hz with q|q
 exact h.WR z q;rw[q];exact d4 hb (iW hi);by_cases ej:j=j0;subst ej;have e1:(L.set j (bitOr y (1 * 2 ^ i))).getD j 0=bitOr y (1 * 2 ^ i):=by rw[vQ,DE hj0];rfl
 have b:=h.bit r j;rw[getD_some e] at b;have hjn:j<net.length:=by rw[<- h.len];exact hj0
 rw[e1,dZ,xH,b,ο hjn,yx,yx];by_cases er:r=i;subst er;simp;simp[er];have e1:(L.set j0 (bitOr y (1 * 2 ^ i))).getD j 0=L.getD j 0:=by rw[vQ,uO (Ne.symm ej),<- vQ]
 rw[e1,h.bit r j];have:(decide (j∈S++[j0]))=decide (j∈S):=by apply aad.mpr;simp[ej]
 rw[this]
def Tn.next(h:Tn net i (mem y) L)(e:net[i]?\y)(h0:0<=y):Tn net (i+1) [] L:=by
 refine#[h.len,h.WR,λr j=>?_];rw[h.bit r j]
 congr 1
 by_cases er:r=i;subst er;have e2:decide (j∈mem y)=ib y j:=by
  cases q:ib y j with
  |true=>exact ο ((mem_iff h0).mpr q)
  |false=>exact ς λz=>by rw[(mem_iff h0).mp z] at q;cases q
 rw[getD_some e,e2];simp;have e1:decide (r<i)=decide (r<i+1):=aad.mpr (by omega);rw[e1,ς er];simp
def Tn.fin(h:Tn net net.length [] L):Turn net L:=by
 refine#[h.len,h.WR,λr j=>?_];rw[h.bit r j];by_cases hr:r<net.length;simp[hr];have:net.getD r 0=0:=by rw[vQ,IG (by omega)];rfl
 rw[this,dm];simp
end
end BS
namespace Nt
open PySem L2 VT Gen K5 Lay BS IB MK
open PySem.Builtin (bitOr bitAnd bitNot)
open iY (jM IC iw fK)
abbrev cK:Stmt:=top 45
abbrev De:Stmt:=top 56
abbrev sX:Stmt:=top 58
abbrev yj:Stmt:=top 57
abbrev oI:Stmt:=top 59
abbrev bR:Stmt:=top 60
structure MgS(mg:qae):Prop where
 len:mg "len"=none
 range:mg "range"=none
 enumerate:mg "enumerate"=none
abbrev p8(net:qan):T:=.lst (net.map .int)
def HA(a b:qao):fK (a++b)=fK a++fK b:=nD
def M8(a:qan)(i:Nat)(r:Int):p8 (a.set i r)=.lst ((a.map T.int).set i (T.int r)):=by show T.lst ((a.set i r).map T.int)=_;rw[List.map_set]
def Net(net:qan):Prop:=net.length<=64/\∀y∈net,below net.length y
def Fj(ts:Λ)(q:qam):Prop:=E2 λ(net:qan) (x:Int)=>ts=[p8 net,.int x]/\Net net/\below net.length x/\q (.vw (.int (lst net x)))
def Xp(m:Nat)(h:m<=64):(0:Int)<=(m:Int)/\(m:Int)<=1000000/\(1:Int).natAbs<2 ^ 64:=#[(),(),by decide]
def Xq{k:Nat}(h:net[k]?\y):h9 (net.map T.int) (k:Int)\.int y:=ai (by rw[fU,h];rfl)
def Xr(ks:qao):∀(x:Int)(b:Nat),ib (ks.foldl (λt (k:Nat)=>bitOr t (1 * 2 ^ ((k:Int)).toNat)) x) b=(ib x b || decide (b∈ks)):=by
 induction ks with
 |nil=>intro x b;simp
 |cons k ks ih=>
  intro x b;rw[YU,ih,dZ,i_,xH,Bool.or_assoc]
  congr 1
  rw[YV];simp
def Fm(ks:qao)(b:Nat):ib (Bs ks) b=decide (b∈ks):=by unfold Bs;rw[Xr,BS.dm,Ih]
def M9{ks ls:qao}(h:ks.Perm ls):Bs ks=Bs ls:=g_ λb=>by rw[Fm,Fm];exact aad.mpr h.mem_iff
def HB{ks:qao}(h:∀k∈ks,k<n):below n (Bs ks):=by
 have:∀(ks:qao)(x:Int),(∀k∈ks,k<n)->below n x->below n (ks.foldl (λt (k:Nat)=>bitOr t (1 * 2 ^ ((k:Int)).toNat)) x):=by
  intro ks;induction ks with
  |nil=>exact λx _ h=>h
  |cons k ks ih=>exact λx h hx=>ih _ (λk hk=>h k (iB _ hk)) (d4 hx (by rw[i_];exact iW (h k iz)))
 exact this ks 0 h (cJ n)
def TOk(rs:qal)(t:x8):Prop:=∃j:Nat,j<7/\t.1=(j:Int)
theorem M_{rs:qal}:∀k,k<=7->∀e∈fz rs k,∃j:Nat,j<7/\e.1.1=(j:Int)
 |0,_,e,he=>by simp[fz] at he
 |k+1,h,e,he=>by
  have ih:=M_ (rs:=rs) k ();rw[sD] at he;unfold Mb at he;split at he
  rename_i r _
  have:∀(xs:χ)(E:List Ent),(∀e∈E,∃j:Nat,j<7/\e.1.1=(j:Int))->∀e∈sC rs k E xs,∃j:Nat,j<7/\e.1.1=(j:Int):=by
   intro xs;induction xs with
   |nil=>exact λE h=>h
   |cons x xs ih=>
    refine λE hE=>ih _ λe he=>?_;have he:e∈eV E ((k:Int),x) (W8 rs x k):=he;unfold eV at he;split at he;let(e',h1,rfl):=k6.mp he;have:=hE e' h1;split<;>exact this;rcases fM.mp he with z|z
    exact hE e z;rw[fE.mp z];exact#[k,(),9]
  exact this _ _ ih e he;exact ih e he
def Dh(hn:n<=7){p:Nat->Bool}{f:Nat->x8}(hf:∀j,(f j).1=(j:Int)):∀t∈((List.range n).filter p).map f,TOk rs t:=λt ht=>by let(j,hj,rfl):=k6.mp ht;have:=Bm.mp (N9.mp hj).1;exact#[j,(),hf j]
theorem Fn(N:oH rs){s:Bool}:∀t∈gP rs s i,TOk rs t:=λt ht=>by
 unfold gP at ht;split at ht
 rename_i r h er eh
 split at ht;cases ht
 rename_i hs
 have hi:=(c7.mp er).1;unfold AL at ht;rcases fM.mp ht with ht|ht
 rcases fM.mp ht with ht|ht
 rcases fM.mp ht with ht|ht
 unfold sV at ht;rw[er] at ht;let(e,he,rfl):=k6.mp ht;exact M_ 7 (cL _) e (N9.mp he).1;unfold m_ at ht;split at ht;exact Dh (cL _) (λ_=>rfl) t ht;cases ht;have hd:TOk rs (((gE (bh rs) i).getD 0:Nat),"head",""):=by
  cases e:gE (bh rs) i with
  |none=>exact#[0,(),9]
  |some o=>have:=AD N.pg.B.W () e;exact#[o,(),9]
 unfold gB at ht;rw[er] at ht;cases r with
 |df f ps=>exact Dh (cL _) (λ_=>rfl) t ht
 |call x g as=>
  rcases dQ.mp ht with rfl|ht
  exact hd;rw[fE.mp ht];let(_,(s',ps,og),hf):=N.pg.cl x g as (fL er);let(f',e,h1,h2,h3,h4):=xO hf;refine#[e,(c7.mp h4).1,?_];show Rj rs g=_;unfold Rj;rw[h1];dsimp only;rw[h3];rfl
 |_=>rw[fE.mp ht];exact hd
 split at ht;exact Dh (cL _) (λ_=>rfl) t ht;cases ht;cases ht
def M'(N:oH rs)(s:Bool)(i:Nat):(gP rs s i).length<=900:=by
 have l1:=AN N i;have l2:=AO rs i;have l3:=vJ rs i;have l4:=AQ rs i 7;have hn:=N.pg.le;unfold gP;split;split;exact fB _;unfold AL;rw[fS,fS,fS];split
 lia
 simp;lia;exact fB _
def Di(N:oH rs)(s:Bool):Net (d5 rs s):=by
 have el:(d5 rs s).length=7:=by unfold d5;rw[bS,pJ]
 have hn:=N.pg.le;refine#[(),λy hy=>?_];rw[el];let(i,hi,rfl):=k6.mp hy;refine HB λk hk=>?_;let(t,ht,rfl):=k6.mp hk;let(j,hj,e):=Fn N t ht;rw[e,i_];exact hj
def Dj(ts:Λ)(q:qam):Prop:=E2 λ(rs:qal) (s:Bool)=>ts=[.lst (rs.map aZ),.bl s]/\oH rs/\q (.fr (p8 (d5 rs s)))
def Dk(ts:Λ)(q:qam):Prop:=E3 λ(rs:qal) (x:Int) (s:Bool)=>ts=[.lst (rs.map aZ),.int x,.bl s]/\oH rs/\below 7 x/\q (.vw (.int (lst (d5 rs s) x)))
def Fo(ts:Λ)(q:qam):Prop:=∃net:qan,ts=[p8 net]/\Net net/\∀out,Turn net out->q (.fr (p8 out))
def Na(ts:Λ)(q:qam):Prop:=E2 λ(net:qan) (x:Int)=>ts=[p8 net,.int x]/\Net net/\below net.length x/\∀out,Turn net out->q (.vw (.int (lst out x)))
def AW(ts:Λ)(q:qam):Prop:=E3 λ(net:qan) (x y:Int)=>ts=[p8 net,.int x,.int y]/\Net net/\below net.length x/\below net.length y/\∀out,Turn net out->q (.vw (.int (bitAnd (lst out x) (lst net y))))
section
variable{bU:Addr}
abbrev AX:χ:=["program","strict","facts","told","place"]
def vL:az AX qaQ (ar cK):=L2.eU
def yk:(AX++(["tie"]:χ)).Nodup:=by decide +kernel
theorem HC{dv:Value}(F:C_ K "net_of" "net_of" cK f fd)(m:mg "net_of"\.ref f)(b:Binds K fd qaQ [])(b2:Binds K fd qaQ [dv])(M:MgS mg)(Rr:zM P w K mg base "Facts" bU qaw 07 1 (MR bU au))(jR:bP P w K mg base "set_of" qaB 1 (bQ K 1 EX))(HF:bP P w K mg base "ties_of" qaP 06 (bQ K 3 (Fi bU au))):bP P w K mg base "net_of" qaQ 09 (bQ K 2 Dj):=by
 let(aeV,aex,Ru,Rv,Rx,Ry):=Rr;refine#[f,fd,m,F.kp,b,aev F vL 9 λbL A outer s H E Ox hr ts q hG=>?_];have nd:=vL.nd;have np:∀{i:Nat},aY #[H,[],Ox] i:=gX;refine#[_,(af (aJ (i:=2) nd 9 5 (Ψ (xa Ru Ry (hr.mono 15) (by rfl) Rv Rx (aa (ah 0) ak))) np)
  (af (cP (i:=3) nd 9 5 (Ψ (bJ ak)) np)
  (af (cQ nG 9 (cX (by rfl) M.range (ν (aS aT aV (by rfl) M.len l0 (aO (ae 0) aX)))) (aM (i:=04) nd 9 5 np)
   (aq (bA (dy 3 qt qu bo ba (aa (ω (aw jR hr (aa (ω (eI (ts:=["tie"]) 9 (by rfl) (eG (ω (aw HF hr (aa (ah 2) (aa (ah 04) (aa (ah 1) ak)))))) (λ_ _ _ _ _ _=>(aM (i:=05) yk 9 5 np)) (λ_ _ _ _ _ _=>iL) (λ_ _ _ _ _ _=>(ω (ay (ae 05) 4))))) ak))) ak)))))
  (aq (aA (eF 3 np)))))),λ_=>?_]
 let(rs,b',rfl,N,hq):=hG;have hn:=N.pg.le;have eL:(rs.map aZ).length=7:=bS _;refine#[9,rs,9,N,λbs cs o hp=>?_];refine#[fB _,(by show -(2 ^ 62:Int)<=((rs.map aZ).length:Int);lia),(by show ((rs.map aZ).length:Int)<(2 ^ 62:Int);lia),?_];refine dz (λk ρ=>E2 λl b4=>ρ=[aP (.lst (rs.map aZ)),aP (.bl b'),aP (jg bU au rs bs cs o),some (.lst l,true),b4]/\l=((List.range k).map λi=>Bs ((gP rs b' i).map λt=>t.1.toNat)).map T.int) #[_,none,9,9] ?_ ?_;rintro k ρ hk ⟨l,b4,rfl,el⟩;rw[eL,i_] at hk;rw[Ii];refine#[9,9,rs,bs,cs,o,k,b',9,N,hk,hp,λL p=>?_];have hL:=p.length_eq;have hl:=M' N b' k;have ok:∀t∈L,TOk rs t:=λt ht=>Fn N t (p.mem_iff.mp ht);refine#[by rw[bS];exact bW (),?_];refine gw (f:=i6) (u:=λt=>T.int t.1) (λt _ r hr=>#[_,aaU,hr]) ?_;have e1:L.map (λt=>T.int t.1)=nT (L.map λt=>t.1.toNat):=by show _=(L.map λt=>t.1.toNat).map λ(k:Nat)=>T.int (k:Int);rw[yE];refine II λt ht=>?_;let(j,_,e):=ok t ht;show T.int t.1=T.int ((t.1.toNat:Nat):Int);rw[e,i_]
 have e2:Bs (L.map λt=>t.1.toNat)=Bs ((gP rs b' k).map λt=>t.1.toNat):=M9 (p.map _);refine#[9,L.map λt=>t.1.toNat,aaa (λx=>[T.lst x]) e1,λj hj=>?_,?_,_,_,9,?_];let(t,ht,rfl):=k6.mp hj;let(j,hj,e):=ok t ht;rw[e,i_];lia;rw[el,bS,bS,pJ,π];lia;rw[e2,el,T_,nD,nD];rfl;rintro ρ ⟨l,b4,rfl,el⟩;rw[el,eL,i_];exact hq
abbrev Xs:χ:=["net","rows","told","waiting","fresh"]
def Fp:az Xs qaR (ar De):=L2.eU
theorem Rz(D:Df K mg "back" De qaR f fd)(M:MgS mg)(d_:bP P w K mg base "members" qaB 2 (bQ K 1 iw)):bP P w K mg base "back" qaR 3 (bQ K 2 Fj):=by
 refine D.fm (gf D.F Fp 9 λbL A outer s H E Ox hr ts q hG=>?_);have nd:=Fp.nd;have np:∀{i:Nat},aY #[H,[],Ox] i:=gX;refine#[_,(af (aJ (i:=2) nd 9 5 (Ψ (VE.vp (ah 1))) np)
  (af (cP (i:=3) nd 9 5 (Ψ (aw d_ hr (aa (ah 1) ak))) np)
  (af (qT nG (y3 (ν (aS aT aV (by rfl) M.len l0 (aO (ae 3) aX))) 4)
   (af (aJ (i:=04) nd 9 5 (Ww I_ y2 (adT (ah 0) (wu 3 acz acA we p_)) (ν (Wv (ae 2)))) np)
   (af (lr (i:=2) nd 9 5 (ae 04) k8 gH np)
   (aq (bA (EC 3 (aw d_ hr (aa (ah 04) ak))))))))
  (aq (aA (Ψ (VE.vp (ah 2)))))))),λ_=>?_]
 let(net,x,rfl,(hl,hn),hx,hq):=hG;refine#[9,x,9,kJ (bits_le hx) hl,?_];refine#[λm ρ=>E3 λt W fr=>m<=64/\ρ=[aP (p8 net),aP (.int x),aP (.int t),some (.lst (fK W),true),fr]/\Bk net x t W m,#[net.length,x,mem x,none,hl,9,Bk.init hx],?_];rintro m ρ ⟨t,W,fr,hm,rfl,B⟩;refine cH (λh=>?_) (λh=>?_);have h':(0:Int)<((fK W).length:Int):=h;rw[bS] at h';obtain⟨W',k,rfl⟩:E2 λW' k=>W=W'++[k]:=#[W.dropLast,W.getLast (by intro z;subst z;simp at h'),(acw _).symm];have hkb:=B.WR.bit (B.wt k 6);have hy:net[k]?\net[k]:=eZ hkb;let(hb,m',hm',B'):=B.step hn hy;have U2:=B'.agn;have e1:(fK (W'++[k]))[(fK (W'++[k])).length-1]?\.int (k:Int):=by simp[fK]
 have e2:(fK (W'++[k])).dropLast=fK W':=by simp[fK]
 refine#[9,.int (k:Int),e1,.int net[k],Xq hy,?_];rw[e2];refine#[9,_,9,kJ (bits_le hb) hl,?_,m',hm',_,_,aP (.int (bitAnd net[k] (bitNot t))),(),?_,B'];rw[bS,bS];rw[fS] at U2;exact bW ();rw[HA W' (mem _)];rfl;have h':¬ (0:Int)<((fK W).length:Int):=h;rw[bS] at h';have e:W=[]:=NL.mp ();subst e;rw[<- B.is hn hx] at hq;exact hq
abbrev Nb:χ:=["net","told","row","others","other"]
def vM:az Nb ["net"] (ar sX):=L2.eU
theorem HG(D:Df K mg "turned" sX ["net"] f fd)(M:MgS mg)(d_:bP P w K mg base "members" qaB 2 (bQ K 1 iw)):bP P w K mg base "turned" ["net"] 3 (bQ K 1 Fo):=by
 refine D.fm (gf D.F vM 9 λbL A outer s H E Ox hr ts q hG=>?_);have nd:=vM.nd;have np:∀{i:Nat},aY #[H,[],Ox] i:=gX;refine#[_,(af (cP (i:=1) nd 9 5 (Ψ (qZ (bJ (aa (ω ag) ak)) (ν (aS aT aV (by rfl) M.len l0 (aO (ae 0) aX))))) np)
  (af (cQ nG 9 (gK (by rfl) M.enumerate (ah 0)) (ff (n:=2) 9 (bq (aM (i:=2) nd 9 5 np) (bq (aM (i:=3) nd 9 5 np) dI)))
   (aq (cQ nG 9 (eG (ω (aw d_ hr (aa (ah 3) ak)))) (aM (i:=04) nd 9 5 np)
    (aq (Qq 1 (ae 04) (ν (qP 4 (ae 2))) k8 gH)))))
  (aq (aA (eF 1 np))))),λ_=>?_]
 let(net,rfl,(hl,hn),hq):=hG;have el2:((net.map T.int).length:Int)=(net.length:Int):=by rw[bS]
 have el:(((net.map T.int).length:Int)).toNat=net.length:=by rw[bS];lia
 refine#[bW 6,by rw[el2];lia,by rw[el2];lia,?_,?_];rw[el];exact bW (by simp;lia);have e0:(List.replicate (((net.map T.int).length:Int)).toNat [T.int 0]).flatten=(List.replicate net.length (0:Int)).map T.int:=by
  rw[el,List.map_replicate];generalize net.length=n;induction n with
  |zero=>rfl
  |succ n ih=>rw[Ic,X8,ih];rfl
 refine#[λi ρ=>E4 λL b2 b3 b4=>ρ=[aP (p8 net),some (p8 L,true),b2,b3,b4]/\Tn net i [] L,#[_,none,none,none,by show _=[aP (T.lst _),some (T.lst ((List.replicate net.length (0:Int)).map T.int),true),none,none,none];rw[<- e0];rfl,Tn.init],?_,?_]
 . rintro i t ρ hi ⟨L,b2,b3,b4,rfl,B⟩;unfold dR at hi;rw[X4,fU] at hi;cases hy:net[i]? with
   |none=>rw[hy] at hi;cases hi
   |some y=>
    rw[hy] at hi;cases hi;have Wi:i<net.length:=(c7.mp hy).1;have hyb:=hn y (fL hy);refine#[9,9,9,y,9,kJ (bits_le hyb) hl,?_];refine eJ (λt ρ=>E2 λL b4=>ρ=[aP (p8 net),some (p8 L,true),aP (.int (i:Int)),aP (.int y),b4]/\Tn net i ((mem y).take t) L) #[L,b4,9,B] ?_ ?_;rintro t j ρ hj ⟨L,b4,rfl,B⟩;have hjm:j∈mem y:=fL hj;have hjn:j<net.length:=hyb.bit ((mem_iff hyb.1).mp hjm);have P7:j<L.length:=by rw[B.len];exact hjn
    have ej:L[j]?\L[j]:=eZ P7;refine#[j,.int L[j],?_,by rw[fU,ej];rfl,Xp i (),L.set j (bitOr L[j] (1 * 2 ^ (i:Int).toNat)),_,by rw[M8];rfl,?_];unfold vY;rw[ι (),ι (by rw[bS];lia),i_];have:=B.step Wi ej;rw[List.take_succ,hj];exact this
    . rintro ρ ⟨L,b4,rfl,B⟩;rw[N8] at B;exact#[L,_,_,_,9,B.next hy hyb.1]
 rintro ρ ⟨L,b2,b3,b4,rfl,B⟩;have e:(dR (net.map T.int)).length=net.length:=by unfold dR;rw[List.length_mapIdx,bS]
 rw[e] at B;exact hq L B.fin
abbrev RA:χ:=qaR
def AY:az RA qaR (ar yj):=L2.eU
def Nc(D:Df K mg "forth" yj qaR f fd)(M:MgS mg)(sY:bP P w K mg base "back" qaR 3 (bQ K 2 Fj))(Nd:bP P w K mg base "turned" ["net"] 3 (bQ K 1 Fo)):bP P w K mg base "forth" qaR 04 (bQ K 2 Na):=by refine D.fm (gf D.F AY 9 λbL A outer s H E Ox hr ts q hG=>?_);have nd:=AY.nd;refine#[_,(aq (aA (Ψ (aw sY hr (aa (ω (aw Nd hr (aa (ah 0) ak))) (aa (ah 1) ak)))))),λ_=>?_];let(net,x,rfl,(hl,hn),hx,hq):=hG;refine#[9,net,9,#[hl,hn],λout Tu=>#[9,out,x,9,#[by rw[Tu.1];exact hl,by rw[Tu.1];exact Tu.2.1],by rw[Tu.1];exact hx,hq out Tu]]
abbrev HH:χ:=qaS
def sZ:az HH qaS (ar oI):=L2.eU
def Dl(D:Df K mg "between" oI qaS f fd)(RB:bP P w K mg base "forth" qaR 04 (bQ K 2 Na))(sY:bP P w K mg base "back" qaR 3 (bQ K 2 Fj)):bP P w K mg base "between" qaS 05 (bQ K 3 AW):=by refine D.fm (gf D.F sZ 9 λbL A outer s H E Ox hr ts q hG=>?_);have nd:=sZ.nd;refine#[_,(aq (aA (Ψ (j3 (ν (aw RB hr (aa (ah 0) (aa (ah 1) ak)))) (ν (aw sY hr (aa (ah 0) (aa (ah 2) ak)))))))),λ_=>?_];let(net,x,y,rfl,N,hx,hy,hq):=hG;exact#[9,net,x,9,N,hx,λout Tu=>#[9,net,y,9,N,hy,hq out Tu]]
abbrev Dm:χ:=qaT
def pG:az Dm qaT (ar bR):=L2.eU
def AZ{dv:Value}(F:C_ K "slice_of" "slice_of" bR f fd)(m:mg "slice_of"\.ref f)(b:Binds K fd qaT [])(b2:Binds K fd qaT [dv])(sY:bP P w K mg base "back" qaR 3 (bQ K 2 Fj))(s_:bP P w K mg base "net_of" qaQ 09 (bQ K 2 Dj)):bP P w K mg base "slice_of" qaT 10 (bQ K 3 Dk):=by
 refine#[f,fd,m,F.kp,b,aev F pG 9 λbL A outer s H E Ox hr ts q hG=>?_];have nd:=pG.nd;refine#[_,(aq (aA (Ψ (aw sY hr (aa (ω (aw s_ hr (aa (ah 0) (aa (ah 2) ak)))) (aa (ah 1) ak)))))),λ_=>?_];let(rs,x,b',rfl,N,hx,hq):=hG;have el:(d5 rs b').length=7:=by unfold d5;rw[bS,pJ]
 exact#[9,rs,b',9,N,9,_,x,9,Di N b',by rw[el];exact hx,hq]
end
end Nt
namespace fR
open PySem L2 VT Gen
open y0 (cf)
def top(i:Nat):Stmt:=PySem.Challenge.pw_slicewise_k44_slices_of_several_sets.main.body.getD i (.Pass #[0,0,0,0])
abbrev oJ:Stmt:=top 62
abbrev yl:Stmt:=top 63
abbrev oK:Stmt:=top 64
abbrev Nf:Stmt:=top 65
abbrev s_call:Stmt:=top 66
abbrev tf:Stmt:=top 67
abbrev Ng:Stmt:=top 68
abbrev Dn:Stmt:=top 69
abbrev oM:Stmt:=top 70
structure Xu(mg:qae):Prop where
 len:mg "len"=none
 range:mg "range"=none
 tuple:mg "tuple"=none
 sum:mg "sum"=none
def TJ(ts:Λ)(q:qam):Prop:=E2 λ(ns:qan) (j:Nat)=>ts=[.lst (ns.map .int),.int (j:Int)]/\q (.vw (.int (ns.getD j 0)))
def Nh(ts:Λ)(q:qam):Prop:=E2 λ(c:Int) (m:Nat)=>ts=[.int c,.int (m:Int)]/\2<=m/\m<=20/\q (.fr (.lst ((fq c m).map .str)))
section
abbrev HI:χ:=qaU
def tq:az HI qaU (ar oJ):=L2.eU
def Dp(D:Df K mg "_law_cell_at" oJ qaU f fd)(M:Xu mg):bP P w K mg base "_law_cell_at" qaU 1 (bQ K 2 TJ):=by
 refine D.fm (gf D.F tq 9 λbL A outer s H E Ox hr ts q hG=>?_);have nd:=tq.nd;refine#[_,(af (bb (mw (ae 1) (ν (aS aT aV (by rfl) M.len l0 (aO (ae 0) aX))))
    (aq (aA (Ψ (ay (ae 0) (ae 1)))))
    aE)
   (aq (aA (Ψ ag)))),λ_=>?_]
 let(ns,j,rfl,hq):=hG;refine Gb (λh=>?_) (λh=>?_);have h':=Θ h;rw[bS] at h';have hj:j<ns.length:=by lia
 refine#[.int (ns.getD j 0),ai ?_,hq];rw[fU,eZ hj,List.getD,eZ hj];rfl;have h':¬ (j<((ns.map T.int).length:Int)):=λz=>h (ο z);rw[bS] at h';have e:ns.getD j 0=0:=by rw[List.getD,IG ()];rfl
 rw[e] at hq;exact hq
abbrev RC:χ:=["_law_cell","_law_many","_law_letters","_law_size","_law_at","_law_words_here","_law_k","_law_word","_law_j","_law_number"]
def A0:az RC qaV (ar yl):=L2.eU
def Ni(D:Df K mg "_law_words" yl qaV f fd)(M:Xu mg):bP P w K mg base "_law_words" qaV 1 (bQ K 2 Nh):=by
 refine D.fm (gf D.F A0 9 λbL A outer s H E Ox hr ts q hG=>?_);have nd:=A0.nd;have hu:=bG.dW hr;have np:∀{i:Nat},aY #[H,[],Ox] i:=gX;refine#[_,(af (aJ (i:=2) nd 9 5 (Ψ aC) np)
  (af (aJ (i:=0) nd 9 5 (Ψ (bz (ae 0) (ν (jx 4 4)))) np)
  (af (aJ (i:=3) nd 9 5 (Ψ (cF 4 (ν (bz (ae 0) 4)))) np)
  (af (aJ (i:=04) nd 9 5 (Ψ (bz (ν (bO (ae 0) 4)) (ae 3))) np)
  (af (cP (i:=05) nd 9 5 (Ψ (bJ ak)) np)
  (af (cQ nG 9 (cX (by rfl) M.range (ae 1)) (aM (i:=06) nd 9 5 np)
   (af (aJ (i:=07) nd 9 5 (Ψ aC) np)
   (af (cQ nG 9 (cX (by rfl) M.range (ae 3)) (aM (i:=08) nd 9 5 np)
    (af (aJ (i:=09) nd 9 5 (Ψ (cF (ν (bO (ν (bO (ae 0) 4)) (ν (cF (ae 08) 4)))) (ν (gW (ae 08) (ae 08))))) np)
    (af (bb (bF hu (ae 08) (ae 04))
     (aq (lr (i:=09) nd 9 5 (ae 06) Oy JC np))
     aE)
    (aq (aJ (i:=07) nd 9 5 (Ψ (cF (ae 07) (ν (ay (ae 2) (ν (bz (ae 09) 4)))))) np)))))
   (aq (bA (dy 05 qt qu bo ba (aa (ah 07) ak)))))))
  (af (bb (bF hu (ν (bz (ν (bO (ae 0) 4)) 4)) 4)
   (aq (gk 05 (ω (cF (ν (ay (ae 05) 4)) (ν (ay (ae 2) (ν (bz (ν (bO (ae 0) 4)) 4)))))) 4))
   aE)
  (aq (aA (eF 05 np)))))))))),λ_=>?_]
 let(c,m,rfl,hm2,agM,hq):=hG;have e12:=adi;have hz:1+c % 10 ^ (12:Int).toNat % 07=(oY c:Int):=by rw[e12];exact (SK c).symm
 refine#[#[by decide,by decide,by decide],15,15,#[by decide,by decide],(by rw[hz];lia),fB _,(),(),dz (λk ρ=>E4 λkv wv jv nv=>ρ=[aP (.int (Eg c)),aP (.int m),aP (.str cf),aP (.int (oY c:Int)),aP (.int (SJ c:Int)),some (.lst (((List.range k).map λk=>c6 c k (oY c)).map .str),true),kv,wv,jv,nv]) #[none,none,none,none,?_] ?_ ?_];have ha:c % 10 ^ (12:Int).toNat / 07 % (1+c % 10 ^ (12:Int).toNat % 07)=(SJ c:Int):=by rw[hz,e12];exact (adh c).symm
 rw[ha,hz,e12];rfl;rintro k ρ hk ⟨kv,wv,jv,nv,rfl⟩;refine#[(),(),dz (λj ρ=>E2 λjv nv=>ρ=[aP (.int (Eg c)),aP (.int m),aP (.str cf),aP (.int (oY c:Int)),aP (.int (SJ c:Int)),some (.lst (((List.range k).map λk=>c6 c k (oY c)).map .str),true),aP (.int (0+k)),aP (.str (c6 c k j)),jv,nv]) #[_,_,9] ?_ ?_];rintro j ρ hj ⟨jv,nv,rfl⟩;refine#[#[by decide,by decide],#[(),()],.inl #[(),()],?_];have last:∀n:Int,n=Gz c k j->∃c',h9 cf.cps.toList (n % 26)\c'/\(c6 c k j).length+(Str.mk ([c'].toArray)).length<=sizeLine/\(c6 c k j++#[([c'].toArray)])=c6 c k (j+1):=by
  rintro n rfl;refine#[_,vb _,?_,(Cb c k j).symm];rw[j7,π];show j+1<=16777216
  lia
 refine cH (λh=>?_) (λh=>?_);have hja:j=SJ c:=by have h:=h;lia
 let(c',h1,h2,h3):=last (Eg c / 49 / (0+j+1)+(0+j) * (0+j)+(0+(k:Int))) (by unfold Gz;rw[ι hja];simp only[Ii]);exact#[by decide,gZ,c',h1,h2,_,_,by rw[<- h3];rfl];have hja:¬ j=SJ c:=λz=>h ();let(c',h1,h2,h3):=last (Eg c / 49 / (0+(j:Int)+1)+(0+(j:Int)) * (0+(j:Int))) (by unfold Gz;rw[θ hja];simp only[Ii,Int.add_zero]);exact#[by decide,gZ,c',h1,h2,_,_,by rw[<- h3];rfl];rintro ρ ⟨jv,nv,rfl⟩;refine#[?_,aP (.int (0+(k:Int))),aP (.str (c6 c k (oY c))),jv,nv,?_];rw[bS,bS,pJ,π];lia;rw[T_,nD,nD];rfl;rintro ρ ⟨kv,wv,jv,nv,rfl⟩;refine#[#[by decide,by decide],15,cH (λh=>?_) (λh=>?_)];have hc:=h;have e0:h9 (((List.range m).map λk=>c6 c k (oY c)).map T.str) 0\T.str (c6 c 0 (oY c)):=by refine ai (j:=0) ?_;rw[fU,fU,RU ()];rfl
 refine#[_,e0,#[by decide,by decide],15,gZ,_,vb _,?_,1,?_,?_];rw[j7,π];show oY c+1<=16777216
 lia
 unfold vY;rw[ι 15,ι (by rw[bS,bS,pJ];lia)];rfl;have e:(fq c m).map T.str=(((List.range m).map λk=>c6 c k (oY c)).map T.str).set 1 (T.str (c6 c 0 (oY c)++#[([nY (Eg c / 147)].toArray)])):=by unfold fq;rw[ι hc,List.map_set]
 rw[e] at hq;exact hq;have hc:=h;have e:(fq c m).map T.str=(((List.range m).map λk=>c6 c k (oY c)).map T.str):=by unfold fq;rw[θ hc]
 rw[e] at hq;exact hq
end
def ix(ts:Λ)(q:qam):Prop:=E2 λ(n:Int) (ys:χ)=>ts=[.int n,.lst (ys.map .str)]/\ys.length=06/\0<=n/\n<2147483648/\∀o,dX ys o->q (.vw (mD o))
def aey(ts:Λ)(q:qam):Prop:=E2 λ(n:Int) (ys:χ)=>ts=[.int n,.lst (ys.map .str)]/\ys.length=06/\(∀y∈ys,y.length<=100)/\0<=n/\n<2147483648/\∀k,wQ ys k->q (.vw (Cd k))
def TK(ts:Λ)(q:qam):Prop:=E4 λ(n:Int) (x:Str) (ys:χ) (pl:Plan)=>ts=[.int n,.str x,.lst (ys.map .str),.lst (pl.map cv)]/\ys.length=06/\pl≠[]/\pl.length<=3/\(∀p∈pl,p.2.length<=04)/\x∈ys/\0<=n/\n<2147483648 /\
 ∀f as,ij ys pl (.call x f as)->q (.vw (aZ (.call x f as)))
structure Given(ys:χ)(pl:Plan):Prop where
 y6:ys.length=06
 sm:∀y∈ys,y.length<=100
 p3:pl.length<=3
 p4:∀p∈pl,p.2.length<=04
def Fq(ts:Λ)(q:qam):Prop:=E3 λ(n:Int) (ys:χ) (pl:Plan)=>ts=[.int n,.lst (ys.map .str),.lst (pl.map cv)]/\Given ys pl/\0<=n/\n<2147483648/\∀r,ij ys pl r->q (.vw (aZ r))
section
abbrev HJ:χ:=qaW
def tu:az HJ qaW (ar oK):=L2.eU
def Dq(D:Df K mg "_law_operand" oK qaW f fd):bP P w K mg base "_law_operand" qaW 1 (bQ K 2 ix):=by
 refine D.fm (gf D.F tu 9 λbL A outer s H E Ox hr ts q hG=>?_);have nd:=tu.nd;have hu:=bG.dW hr;refine#[_,(af (bb (y3 (ν (bz (ae 0) 4)) 4)
    (aq (aA (Ψ (ay (ae 1) (ν (bz (ν (bO (ae 0) 4)) 4))))))
    aE)
   (af (bb (bF hu (ν (bz (ae 0) 4)) 4)
     (aq (aA (Ψ (qO (ν (bz (ν (cF (ν (gW (ν (gW (ae 0) 4)) (ν (jx 4 4)))) (ae 0))) (ν (gW 4 (ν (jx 4 4)))))) (ν (jx 4 4))))))
     aE)
   (aq (aA (Ψ (qO (ν (bz (ν (bO (ae 0) 4)) 4)) 4)))))),λ_=>?_]
 let(n,ys,rfl,HK,V6,Wz,hq):=hG;refine#[15,cH (λ_=>?_) (λ_=>?_)];let(y,hy,e):=mE HK (m:=04) 15 15;exact#[#[by decide,by decide],15,_,e,hq (.nm y) hy];refine#[15,cH (λ_=>?_) (λ_=>?_)];refine#[.inr #[by decide,by decide],#[by decide,by decide,by decide],.inl #[(),()],#[by decide,by decide,by decide],.inl #[by decide,by decide],15,#[by decide,by decide,by decide],hq (.nu _) ?_];rw[adj];exact#[(),()];exact#[#[by decide,by decide],15,hq (.nu _) #[(),()]]
abbrev aez:χ:=qaW
def Nj:az aez qaW (ar Nf):=L2.eU
def Xv(D:Df K mg "_law_key" Nf qaW f fd)(c1:bP P w K mg base "_law_operand" qaW 1 (bQ K 2 ix)):bP P w K mg base "_law_key" qaW 2 (bQ K 2 aey):=by
 let(kj,i7,cz,cA,cC,cD):=c1;refine D.fm (gf D.F Nj 9 λbL A outer s H E Ox hr ts q hG=>?_);have nd:=Nj.nd;have hu:=bG.dW hr;refine#[_,(af (bb (bF hu (ν (bz (ae 0) 4)) 4)
    (aq (aA (Ψ (cF (ν aC) (ν (ay (ae 1) (ν (bz (ν (bO (ae 0) 4)) 4))))))))
    aE)
   (aq (aA (Ψ (dj cD (hr.mono 15) (by rfl) cz cA cC (aa (ω (bO (ae 0) 4)) (aa (ah 1) ak))))))),λ_=>?_]
 let(n,ys,rfl,HK,hsm,V6,Wz,hq):=hG;refine#[15,cH (λ_=>?_) (λ_=>?_)];let(y,hy,e):=mE HK (m:=2) 15 15;refine#[#[by decide,by decide],15,_,e,?_,hq (.fld y) hy];rw[afV,π];have:=hsm y hy
 lia
 exact#[#[by decide,by decide],9,_,ys,9,HK,(),(),λo ho=>hq (.op o) ho]
abbrev Xw:χ:=["_law_number","_law_name","_law_words_here","_law_later","_law_other","_law_parameters","_law_operands","_law_k"]
def Fs:az Xw qaX (ar s_call):=L2.eU
def RD(D:Df K mg "_law_call" s_call qaX f fd)(M:Xu mg)(c1:bP P w K mg base "_law_operand" qaW 1 (bQ K 2 ix)) :
  bP P w K mg base "_law_call" qaX 2 (bQ K 04 TK):=by
 let(kj,i7,cz,cA,cC,cD):=c1;refine D.fm (gf D.F Fs 9 λbL A outer s H E Ox hr ts q hG=>?_);have nd:=Fs.nd;have np:∀{i:Nat},aY #[H,[],Ox] i:=gX;refine#[_,(af (Vl (ω (ay (ae 3) (ν (bz (ae 0) (ν (aS aT aV (by rfl) M.len l0 (aO (ae 3) aX))))))) (ff (n:=2) 9 (bq (aM (i:=04) nd 9 5 np) (bq (aM (i:=05) nd 9 5 np) dI))))
   (af (cP (i:=06) nd 9 5 (Ψ (bJ ak)) np)
   (af (cQ nG 9 (cX (by rfl) M.range (ν (aS aT aV (by rfl) M.len l0 (aO (ae 05) aX)))) (aM (i:=07) nd 9 5 np)
     (aq (bA (dy 06 qt qu bo ba (aa (ω (dj cD (hr.mono 15) (by rfl) cz cA cC (aa (ω (bO (ae 0) (ν (cF (ν (aS aT aV (by rfl) M.len l0 (aO (ae 3) aX))) (ae 07))))) (aa (ah 2) ak)))) ak)))))
   (aq (aA (Ψ (bB (aa (ω aC) (aa (ah 1) (aa (ah 04) (aa (ω (ic kM oW (by rfl) M.tuple Ed (aO (ae 06) aX))) ak))))))))))),λ_=>?_]
 let(n,x,ys,pl,rfl,HK,fY,hp3,hp4,hx,V6,Wz,hq):=hG;have afZ:0<pl.length:=by cases pl with|nil=>exact absurd 9 fY|cons a r=>simp
 have eL:((pl.map cv).length:Int)=pl.length:=by rw[bS]
 have h0:0<=n % ((pl.map cv).length:Int):=Bv n ();have h1:n % ((pl.map cv).length:Int)<pl.length:=by rw[eL];exact IJ n ()
 let(j,hj):=qv h0;have P7:j<pl.length:=by lia
 obtain⟨p,hp⟩:∃p:Str×χ,p=pl[j]:=#[_,9];let(fn,ps):=p;have n9:(fn,ps)∈pl:=by rw[hp];exact FK P7
 have NZ:ps.length<=04:=hp4 _ n9;refine#[(),cv (fn,ps),?_,9,?_];rw[hj];refine ai ?_;rw[fU,eZ P7,<- hp];rfl;refine#[9,fB _,(),by show ((ps.map T.str).length:Int)<2 ^ 62;rw[bS];lia,?_];refine dz (λk ρ=>E3 λkv os as=>ρ=[aP (.int n),aP (.str x),aP (.lst (ys.map .str)),aP (.lst (pl.map cv)),aP (.str fn),aP (.tup (ps.map .str)),some (.lst os,true),kv]/\os=as.map mD/\as.length=k/\∀a∈as,dX ys a)
  #[none,[],[],9,9,9,λ_ z=>nomatch z] ?_ ?_
 rintro k ρ hk ⟨kv,_,as,rfl,rfl,rfl,pO⟩;have yA:as.length<ps.length:=by rw[bS,i_] at hk;exact hk
 refine#[#[(),()],9,_,ys,9,HK,?_,?_,λo ho=>#[?_,_,_,as++[o],9,?_,by simp,λa ha=>?_]];exact Int.ediv_nonneg V6 ();exact Int.lt_of_le_of_lt (Int.ediv_le_self _ V6) Wz;rw[bS,π];lia;rw[nD];rfl;rcases fM.mp ha with z|z
 exact pO a z;rw[fE.mp z];exact ho;rintro ρ ⟨kv,_,as,rfl,rfl,hlen,pO⟩;refine#[by show 04<=sizeLine;rw[π];decide,hq fn as #[hx,#[ps,n9,?_],pO]];rw[hlen,bS];rfl
end
def fits(h:n<=1001):n<sizeLine:=by rw[π];lia
def bW(h:n<=08):n<=sizeLine:=small ()
def GV(q:qam)(n:Int)(ys:χ)(pl:Plan)(y z:Str):FS:=λd ρ=>(∃wv,ρ=[aP (.int n),aP (.lst (ys.map .str)),aP (.lst (pl.map cv)),aP (.int (n % 13)),aP (.str y),aP (.str z),aP (.int (n / 208)),wv])/\∀ρ r,q r->d.rt ρ r
def aeA:GT:=λts q=>E5 λ(rs:qal) (ck:χ) (c:Int) (ys:χ) (pl:Plan)=>ts=[.lst (rs.map aZ),.lst (ck.map .str),.int c,.lst (ys.map .str),.lst (pl.map cv)]/\Given ys pl/\7<=1000/\ck.length<=1000 /\
 ∀new eO,rf ys pl ck new eO->q [.lst ((rs++new).map aZ),.lst (eO.map .str)] (.vw .bY)
section
abbrev Nk:χ:=["_law_number","_law_words_here","_law_later","_law_kind","_law_name","_law_other","_law_rest","_law_word"]
def vN:az Nk qaY (ar tf):=L2.eU
theorem HL(D:Df K mg "_law_simple" tf qaY f fd)(c1:bP P w K mg base "_law_operand" qaW 1 (bQ K 2 ix))(c2:bP P w K mg base "_law_key" qaW 2 (bQ K 2 aey))(c3:bP P w K mg base "_law_call" qaX 2 (bQ K 04 TK)) :
  bP P w K mg base "_law_simple" qaY 3 (bQ K 3 Fq):=by
 let(kj,i7,cz,cA,cC,cD):=c1;let(agC,agu,TL,TM,TN,TQ):=c2;let(agv,aeW,Xx,Xy,Xz,XA):=c3;refine D.fm (gf D.F vN 9 λbL A outer s H E Ox hr ts q hG=>?_);have nd:=vN.nd;have hu:=bG.dW hr;have np:∀{i:Nat},aY #[H,[],Ox] i:=gX;let(n,ys,pl,rfl,G,V6,Wz,hq):=hG;let(y,hy,ey):=mE G.y6 (m:=04) 15 15;let(z,hz,ez):=mE G.y6 (m:=04) 15 15;refine#[_,(af (aJ (i:=3) nd 9 5 (Ψ (bz (ae 0) 4)) np)
   (af (aJ (i:=04) nd 9 5 (Ψ (ay (ae 1) (ν (bz (ν (bO (ae 0) 4)) 4)))) np)
   (af (aJ (i:=05) nd 9 5 (Ψ (ay (ae 1) (ν (bz (ν (bO (ae 0) 4)) 4)))) np)
   (af (aJ (i:=06) nd 9 5 (Ψ (bO (ae 0) 4)) np)
   (af (bb (mw (ae 3) 4)
     (aq (aA (Ψ (bB (aa (ω aC) (aa (ah 04) (aa (ω (dj cD (hr.mono 15) (by rfl) cz cA cC (aa (ah 06) (aa (ah 1) ak)))) ak)))))))
     aE)
   (af (bb (mw (ae 3) 4)
     (af (aJ (i:=07) nd 9 5 (Ψ (ay (ν (bJ (aa (ω aC) (aa (ω aC) (aa (ω aC) (aa (ω aC) (aa (ω aC) (aa (ω aC) (aa (ω aC) ak))))))))) (ν (bz (ae 06) 4)))) np)
     (aq (aA (Ψ (bB (aa (ω aC) (aa (ah 04) (aa (ω (dj cD (hr.mono 15) (by rfl) cz cA cC (aa (ω (bO (ae 06) 4)) (aa (ah 1) ak)))) (aa (ah 07) (aa (ω (dj cD (hr.mono 15) (by rfl) cz cA cC (aa (ω (bO (ae 06) 4)) (aa (ah 1) ak)))) ak))))))))))
     aE)
   (af (bb (bF hu (ae 3) 4)
     (aq (aA (Ψ (bB (aa (ω aC) (aa (ah 04) ak))))))
     aE)
   (af (bb (mw (ae 3) 4)
     (aq (aA (Ψ (bB (aa (ω aC) (aa (ah 04) (aa (ah 05) (aa (ω (dj TQ (hr.mono 15) (by rfl) TL TM TN (aa (ah 06) (aa (ah 1) ak)))) ak))))))))
     aE)
   (af (bb (mw (ae 3) 4)
     (aq (aA (Ψ (bB (aa (ω aC) (aa (ah 05) (aa (ω (dj TQ (hr.mono 15) (by rfl) TL TM TN (aa (ah 06) (aa (ah 1) ak)))) (aa (ω (dj cD (hr.mono 15) (by rfl) cz cA cC (aa (ω (bO (ae 06) 4)) (aa (ah 1) ak)))) ak))))))))
     aE)
   (af (bb (VW.vc (c9 (bF hu (ae 3) 4) (c0 (h_ hu (ae 2) (ν (bJ ak))))))
     (aq (aA (Ψ (dj XA (hr.mono 15) (by rfl) Xx Xy Xz (aa (ah 06) (aa (ah 04) (aa (ah 1) (aa (ah 2) ak))))))))
     aE)
   (ku.weak (u:=(GV q n ys pl y z)) (af (bb (VW.vc (c9 (bF hu (ae 3) 4) (c0 (bF hu (ν (bz (ae 06) 4)) 4))))
     (aq (aA (Ψ (bB (aa (ω aC) (aa (ω (ay (ae 1) (ν (cF 4 (ν (bz (ν (bO (ae 06) 4)) 4)))))) ak))))))
     aE)
   (af (bb (VW.vc (c9 (bF hu (ae 3) 4) (c0 (bF hu (ν (bz (ae 06) 4)) 4))))
     (aq (aA (Ψ (bB (aa (ω aC) ak)))))
     aE)
   (aq (aA (Ψ (bB (aa (ω aC) (aa (ah 04) (aa (ah 05) ak))))))))) ?w_cutS))))))))))),λ_=>?_]
 case w_cutS=>
  rintro d ρ ⟨⟨wv,rfl⟩,kk⟩;refine cH (λ_=>?_) (λ_=>?_);refine#[15,cH (λ_=>?_) (λ_=>?_)];let(x,hx,ex):=Ce G.y6 (n / 208 / 3);exact#[#[by decide,by decide],15,_,ex,bW 6,kk _ _ (hq (.fail x) hx)];exact cH (λ_=>#[15,cH (λ_=>#[bW 6,kk _ _ (hq .skip trivial)]) (λ_=>#[bW 6,kk _ _ (hq (.put y (.nm z)) #[hy,hz])])]) (λ_=>#[bW 6,kk _ _ (hq (.put y (.nm z)) #[hy,hz])]);exact gY 9 (cH (λ_=>#[15,cH (λ_=>#[bW 6,kk _ _ (hq .skip trivial)]) (λ_=>#[bW 6,kk _ _ (hq (.put y (.nm z)) #[hy,hz])])]) (λ_=>gY 9 #[bW 6,kk _ _ (hq (.put y (.nm z)) #[hy,hz])]))
 have m0:0<=n / 208:=by lia
 have m1:n / 208<2147483648:=by lia
 have dv:∀e:Int,0<e->0<=n / 208 / e/\n / 208 / e<2147483648:=λe he=>#[Int.ediv_nonneg m0 (),Int.lt_of_le_of_lt (Int.ediv_le_self _ m0) m1];refine#[15,#[by decide,by decide],15,_,ey,#[by decide,by decide],15,_,ez,#[by decide,by decide],cH (λ_=>?_) (λ_=>?_)];exact#[9,_,ys,9,G.y6,m0,m1,λo ho=>#[bW 6,hq (.put y o) #[hy,ho]]];refine cH (λ_=>?_) (λ_=>?_);let(op,Bq,eop):=adm (n / 208);exact#[bW 6,15,_,eop,#[by decide,by decide],9,_,ys,9,G.y6,(dv 07 15).1,(dv 07 15).2,λo ho=>#[#[by decide,by decide],9,_,ys,9,G.y6,(dv 420 15).1,(dv 420 15).2,λo2 Ip=>#[bW 6,hq (.uo y o op o2) #[hy,ho,Bq,Ip]]]];refine cH (λ_=>#[bW 6,hq (.new y) hy]) (λ_=>cH (λ_=>?_) (λ_=>?_));exact#[9,_,ys,9,G.y6,G.sm,m0,m1,λk hk=>#[bW 6,hq (.get y z k) #[hy,hz,hk]]];refine cH (λ_=>?_) (λ_=>?_);exact#[9,_,ys,9,G.y6,G.sm,m0,m1,λk hk=>#[#[by decide,by decide],9,_,ys,9,G.y6,(dv 90 15).1,(dv 90 15).2,λo ho=>#[bW 6,hq (.set z k o) #[hz,hk,ho]]]];refine cH (λ_=>#[fB _,zi pl,9,GA pl,?_]) (λ_=>gY 9 #[#[_,9],λ_ _ h=>h]);cases pl with
 |nil=>exact gY 9 #[#[_,9],λ_ _ h=>h]
 |cons p pl=>exact Vu 9 #[9,_,y,ys,p::pl,9,G.y6,by simp,G.p3,G.p4,hy,m0,m1,λfn as hs=>hq _ hs]
end
def Nl(q:Λ->qam)(rs:qal)(ck:χ)(c n mv:Int)(ys:χ)(pl:Plan):FS:=λd ρ=>(∃nv,ρ=[some (.lst (rs.map aZ),true),some (.lst (ck.map .str),true),aP (.int c),aP (.lst (ys.map .str)),aP (.lst (pl.map cv)),aP (.int n),aP (.int mv),nv]) /\
 ∀ρ,q (lz [true,true,false,false,false] ρ) (.vw .bY)->d.nx ρ
def tw(l:χ):plainT (.lst (l.map .str))=true:=by simp only[plainT];exact iO (λ_=>by simp[plainT]) l
def A3(l:χ):dep (.lst (l.map .str))<=100:=by have:=mF (f:=T.str) (n:=0) (λ_=>by simp[dep]) l;simp only[dep];lia
section
abbrev aeB:χ:=["_law_rows","_law_stack","_law_cell","_law_words_here","_law_later","_law_number","_law_move","_law_name"]
def Nn:az aeB qaZ (ar Ng):=L2.eU
def XB(D:Df K mg "_law_lay" Ng qaZ f fd)(M:Xu mg)(c1:bP P w K mg base "_law_operand" qaW 1 (bQ K 2 ix))(c2:bP P w K mg base "_law_simple" qaY 3 (bQ K 3 Fq)) :
  bP P w K mg base "_law_lay" qaZ 04 (B2 K [true,true,false,false,false] aeA):=by
 let(kj,i7,cz,cA,cC,cD):=c1;let(aeC,YF,Np,Nq,Nr,Nu):=c2;refine D.fm (fnV D.F Nn 9 λbL A outer s H E as Ox hr ts q hl hG=>?_);have nd:=Nn.nd;have hu:=bG.dW hr;let(rs,ck,c,ys,pl,rfl,G,EK,hs1,hq):=hG;have n0:0<=c / 08 * 48271 % 2147483647:=Bv _ 15;have n2:c / 08 * 48271 % 2147483647<2147483648:=by lia
 have d3:0<=c / 08 * 48271 % 2147483647 / 3/\c / 08 * 48271 % 2147483647 / 3<2147483648:=#[(),()];have HM:(rs.map aZ).length<sizeLine:=by rw[bS];exact fits ()
 have aeD:(ck.map T.str).length<sizeLine:=by rw[bS];exact fits ()
 have one:=λ{r eO} h=>by have:=hq [r] eO h;rw[nD] at this;exact this
 have push:∀x:Str,(ck++[x]).map T.str=ck.map T.str++[T.str x]:=λx=>by rw[nD];rfl
 refine#[_,(af (aJ (i:=05) nd 9 5 (Ψ (bz (ν (gW (ν (bO (ae 2) 4)) 4)) 4)) (Ee 15))
   (af (aJ (i:=06) nd 9 5 (Ψ (bz (ae 2) 4)) (Ee 15))
   (ku.weak (u:=(Nl q rs ck c (c / 08 * 48271 % 2147483647) (c % 08) ys pl)) (aq (bb (VW.vc (c9 (bF hu (ae 06) 4) (c0 (mw (ν (aS aT aV (by rfl) M.len l0 (aO (ae 1) aX))) 4))))
     (af (bA (dy 0 qt qu bo ba (aa (ω (bB (aa (ω aC) (aa (ω (dj cD (hr.mono 15) (by rfl) cz cA cC (aa (ah 05) (aa (ah 3) ak)))) ak)))) ak)))
     (aq (bA (dy 1 qt qu bo ba (aa (ω aC) ak)))))
     (ku.weak (u:=(Nl q rs ck c (c / 08 * 48271 % 2147483647) (c % 08) ys pl)) (aq (bb (VW.vc (c9 (bF hu (ae 06) 4) (c0 (mw (ν (aS aT aV (by rfl) M.len l0 (aO (ae 1) aX))) 4))))
       (af (bA (dy 1 qt qu bo ba (aa (ω aC) ak)))
       (aq (bb (bF hu (ν (bz (ae 05) 4)) 4)
         (aq (bA (dy 0 qt qu bo ba (aa (ω (bB (aa (ω aC) (aa (ω (dj cD (hr.mono 15) (by rfl) cz cA cC (aa (ω (bO (ae 05) 4)) (aa (ah 3) ak)))) ak)))) ak))))
         (af (aJ (i:=07) nd 9 5 (Ψ (ay (ae 3) (ν (bz (ν (bO (ae 05) 4)) 4)))) (Ee 15))
         (af (bA (dy 0 qt qu bo ba (aa (ω (bB (aa (ω aC) (aa (ah 07) ak)))) ak)))
         (aq (bA (dy 0 qt qu bo ba (aa (ω (bB (aa (ω aC) (aa (ah 07) (aa (ah 07) (aa (ω aC) (aa (ω ag) ak))))))) ak)))))))))
       (ku.weak (u:=(Nl q rs ck c (c / 08 * 48271 % 2147483647) (c % 08) ys pl)) (aq (bb (VW.vc (c9 (bF hu (ae 06) 4) (c9 (h_ hu (ae 1) (ν (bJ ak))) (c0 (bF hu (ν (ay (ae 1) (ν (qR 4)))) (ν aC))))))
         (af (bA (dy 0 qt qu bo ba (aa (ω (bB (aa (ω aC) ak))) ak)))
         (aq (gk 1 (ω aC) (ν (qR 4)))))
         (ku.weak (u:=(Nl q rs ck c (c / 08 * 48271 % 2147483647) (c % 08) ys pl)) (aq (bb (VW.vc (c9 (bF hu (ae 06) 4) (c0 (h_ hu (ae 1) (ν (bJ ak))))))
           (af (bA (dy 0 qt qu bo ba (aa (ω (bB (aa (ω aC) ak))) ak)))
           (aq (bA (wu 1 acz acA we p_))))
           (ku.weak (u:=(Nl q rs ck c (c / 08 * 48271 % 2147483647) (c % 08) ys pl)) (aq (bA (dy 0 qt qu bo ba (aa (ω (dj Nu (hr.mono 15) (by rfl) Np Nq Nr (aa (ah 05) (aa (ah 3) (aa (ah 04) ak))))) ak)))) ?w5))) ?w4))) ?w3))) ?w2))) ?w1))),?_]
 case w5=>
  rintro d ρ ⟨⟨nv,rfl⟩,kk⟩;exact#[9,_,ys,pl,9,G,n0,n2,λr hs=>#[HM,kk _ (one (.inr (.inr (.inr (.inr (.inr #[r,hs,9,9]))))))]]
 case w4=>
  rintro d ρ ⟨⟨nv,rfl⟩,kk⟩;refine cH (λ_=>#[fB _,tw ck,9,A3 ck,?_]) (λ_=>gY 9 #[#[nv,9],kk]);rcases List.eq_nil_or_concat ck with e|⟨s0,x,e⟩
  subst e;exact gY 9 #[#[nv,9],kk];have en:eqT (.lst (ck.map .str)) (.lst [])=false:=by rw[e];cases s0<;>simp[eqT,Jv]
  refine Vu (by show (!eqT (.lst (ck.map .str)) (.lst []))=true;rw[en];rfl) #[bW 6,HM,9,T.str x,?_,?_];rw[e];simp;have e2:(ck.map T.str).dropLast=s0.map T.str:=by rw[e];simp
  refine kk _ ?_;rw[e2];exact one (.inr (.inr (.inr (.inr (.inl #[s0,x,by rw[e,List.concat_eq_append],9,9])))))
 case w3=>
  rintro d ρ ⟨⟨nv,rfl⟩,kk⟩;refine cH (λ_=>#[fB _,tw ck,9,A3 ck,?_]) (λ_=>gY 9 #[#[nv,9],kk]);rcases List.eq_nil_or_concat ck with e|⟨s0,x,e⟩
  subst e;exact gY 9 (gY 9 #[#[nv,9],kk]);have en:eqT (.lst (ck.map .str)) (.lst [])=false:=by rw[e];cases s0<;>simp[eqT,Jv]
  have ex:h9 (ck.map T.str) (-1)\T.str x:=by rw[e,List.concat_eq_append,nD];exact qG _ _
  refine Vu (by show (!eqT (.lst (ck.map .str)) (.lst []))=true;rw[en];rfl) #[_,ex,cH (λhx=>?_) (λ_=>#[#[nv,9],kk])];have Ir:=hx;subst Ir;have Wh:(ck.map T.str).length=s0.length+1:=by rw[e];simp
  refine#[bW 6,HM,s0.length,?_,kk _ ?_];unfold vY;rw[Wh,θ 15,ι ()]
  congr 1
  lia
  have e2:(ck.map T.str).set s0.length (T.str "else")=(s0++([("else":Str)]:χ)).map T.str:=by rw[e];simp
  show q [.lst (rs.map aZ++[aZ .pS]),.lst ((ck.map T.str).set s0.length (T.str "else"))] _;rw[e2];exact one (.inr (.inr (.inr (.inl #[s0,by rw[e];simp,9,9]))))
 case w2=>
  rintro d ρ ⟨⟨nv,rfl⟩,kk⟩;refine cH (λ_=>cH (λ_=>#[aeD,15,cH (λ_=>?_) (λ_=>?_)]) (λ_=>#[#[nv,9],kk])) (λ_=>gY 9 #[#[nv,9],kk]);refine#[#[by decide,by decide],9,_,ys,9,G.y6,d3.1,d3.2,λo ho=>#[bW 6,HM,kk _ ?_]];have:=one (.inr (.inl #[o,ho,9,9]));rw[push] at this;exact this;let(y,hy,ey):=mE G.y6 (m:=04) 15 15;refine#[#[by decide,by decide],15,_,ey,bW 6,HM,bW 6,?_,kk _ ?_];rw[fS,bS];exact fits (by simp;lia);have:=hq [.nZ (.nm y),.uo y (.nm y) "minus" (.nu 1)] _ (.inr (.inr (.inl #[y,hy,9,9])));rw[push,nD] at this;rw[yD];exact this
 case w1=>
  rintro d ρ ⟨⟨nv,rfl⟩,kk⟩;refine cH (λ_=>cH (λ_=>#[9,_,ys,9,G.y6,n0,n2,λo ho=>#[bW 6,HM,aeD,kk _ ?_]]) (λ_=>#[#[nv,9],kk])) (λ_=>gY 9 #[#[nv,9],kk]);have:=one (.inl #[o,ho,9,9]);rw[push] at this;exact this
 exact#[#[by decide,by decide],.inr #[by decide,by decide],15,15,#[none,9],λ_ h=>h]
end
def TR(ts:Λ)(q:qam):Prop:=E2 λ(c:Int) (ys:χ)=>ts=[.int c,.lst (ys.map .str)]/\ys.length=06/\∀pl,Cf ys pl->1<=pl.length->pl.length<=3->q (.fr (.lst (pl.map cv)))
section
abbrev Nv:χ:=["_law_cell","_law_words_here","_law_number","_law_plan_here","_law_k","_law_parameters"]
def Ft:az Nv qba (ar Dn):=L2.eU
def Dr:(Nv++(["_law_j"]:χ)).Nodup:=by decide +kernel
def RE(D:Df K mg "_law_plan" Dn qba f fd)(M:Xu mg):bP P w K mg base "_law_plan" qba 1 (bQ K 2 TR):=by
 refine D.fm (gf D.F Ft 9 λbL A outer s H E Ox hr ts q hG=>?_);have nd:=Ft.nd;have np:∀{i:Nat},aY #[H,[],Ox] i:=gX;refine#[_,(af (aJ (i:=2) nd 9 (.inr 9) (Ψ (bz (ae 0) (ν (jx 4 4)))) np)
  (af (cP (i:=3) nd 9 5 (Ψ (bJ ak)) np)
  (af (cQ nG 9 (cX (by rfl) M.range (ν (cF 4 (ν (bz (ae 2) 4))))) (aM (i:=04) nd 9 5 np)
   (af (aJ (i:=2) nd 9 (.inr 9) (Ψ (bz (ν (cF (ν (cF (ν (gW (ae 2) (ae 2))) (ν (gW 4 (ae 2))))) (ae 04))) 4)) np)
   (af (D7 (i:=05) (ts:=["_law_j"]) nd 9 5 9 (by rfl) (cX (by rfl) M.range (ν (bz (ae 2) 4))) (λ_ _ _ _ _ _=>(aM (i:=06) Dr 9 5 np)) (λ_ _ _ _ _ _=>iL) (λ_ _ _ _ _ _=>(ω (ay (ae 1) (ν (bz (ν (cF (ν (bO (ae 2) 4)) (ae 06))) 4))))) np)
   (aq (bA (dy 3 qt qu bo ba (aa (ω (bB (aa (ω (ay (ae 1) (ae 04))) (aa (ω (ic kM oW (by rfl) M.tuple Ed (aO (ae 05) aX))) ak)))) ak)))))))
  (aq (aA (eF 3 np)))))),λ_=>?_]
 let(c,ys,rfl,HK,hq):=hG;refine#[#[by decide,by decide,by decide],(by show (0:Int)<10 ^ (09:Int).toNat;decide),fB _,(by show (0:Int)<3;decide),?_];have m0:0<=c % (10:Int) ^ (09:Int).toNat:=Bv _ 15;have m1:c % (10:Int) ^ (09:Int).toNat<1000000000:=by rw[adk];exact IJ _ 15
 have t0:0<=c % (10:Int) ^ (09:Int).toNat % 3:=Bv _ 15;have t1:c % (10:Int) ^ (09:Int).toNat % 3<3:=IJ _ 15;refine#[(by show -(2 ^ 62:Int)<=1+c % 10 ^ (09:Int).toNat % 3;lia),(by show 1+c % 10 ^ (09:Int).toNat % 3<(2 ^ 62:Int);lia),?_];refine dz (λk ρ=>E5 λn kv pv ts pl=>ρ=[aP (.int c),aP (.lst (ys.map .str)),aP (.int n),some (.lst ts,true),kv,pv]/\ts=pl.map cv/\0<=n/\n<2147483648/\pl.length=k/\Cf ys pl)
  #[_,none,none,_,[],9,9,m0,(),9,λk f ps e=>by simp at e] ?_ ?_
 rintro k ρ hk ⟨n,kv,pv,_,pl,rfl,rfl,p0,p1,rfl,bZ⟩;have hk3:pl.length<3:=by lia
 refine#[.inl #[(),()],.inl #[by decide,by decide],(by show (0:Int)<2147483647;decide),9,(by show (0:Int)<3;decide),?_];have g0:0<=(n * n+48271 * n+(0+(pl.length:Int))) % 2147483647:=Bv _ 15;have g1:(n * n+48271 * n+(0+(pl.length:Int))) % 2147483647<2147483647:=IJ _ 15;have u0:0<=(n * n+48271 * n+(0+(pl.length:Int))) % 2147483647 % 3:=Bv _ 15;have u1:(n * n+48271 * n+(0+(pl.length:Int))) % 2147483647 % 3<3:=IJ _ 15;refine#[(by show -(2 ^ 62:Int)<=(n * n+48271 * n+(0+(pl.length:Int))) % 2147483647 % 3;lia),(by show (n * n+48271 * n+(0+(pl.length:Int))) % 2147483647 % 3<(2 ^ 62:Int);lia),?_];refine#[by rw[iN];exact small (by show ((n * n+48271 * n+(0+(pl.length:Int))) % 2147483647 % 3).toNat<=1000;lia),?_];refine ie (λ_=>true) (λt=>match t with | .int j=>.str (ys.getD (((n * n+48271 * n+(0+(pl.length:Int))) % 2147483647 / 3+j) % 04).toNat Str.empty)|_=>.bY) ?_ ?_;intro t ht _ r hr;let(i,hi,e):=YO.mp ht;let(_,rfl):=lC (by rw[eZ hi,e]:(rangeT _ _)[i]?\t);rw[ι 9] at hr;exact#[#[by decide,by decide],(by show (0:Int)<04;decide),_,Kk HK _,hr];generalize hn':(n * n+48271 * n+(0+(pl.length:Int))) % 2147483647=n' at g0 g1 u0 u1;have S0:pl.length<ys.length:=by lia
 have ek:h9 (ys.map T.str) (0+(pl.length:Int))\T.str ys[pl.length]:=by rw[Ii];refine ai ?_;rw[fU,eZ S0];rfl
 have eps:(((rangeT 0 (n' % 3).toNat).filter λ_=>true).map λt=>match t with | .int j=>T.str (ys.getD ((n' / 3+j) % 04).toNat Str.empty)|_=>.bY)=((List.range (n' % 3).toNat).map λj=>ys.getD ((n' / 3+((j:Nat):Int)) % 04).toNat Str.empty).map T.str:=by unfold rangeT;rw[List.filter_eq_self.mpr (λ_ _=>rfl),yE,yE];apply II;intro j _;show T.str (ys.getD ((n' / 3+(0+(j:Int))) % 04).toNat Str.empty)=T.str (ys.getD ((n' / 3+(j:Int)) % 04).toNat Str.empty);rw[Ii]
 rw[eps];refine#[_,ek,bW 6,by rw[bS];exact fits (),n',_,_,_,pl++[(ys[pl.length],(List.range (n' % 3).toNat).map λj=>ys.getD ((n' / 3+((j:Nat):Int)) % 04).toNat Str.empty)],9,?_,g0,(),by simp,?_];rw[nD];rfl;intro k' f' W2 e;by_cases di:k'<pl.length;rw[pI di] at e;exact bZ k' f' W2 e;by_cases he:k'=pl.length;subst he;rw[uN (cL _),Nat.sub_self] at e;simp only[X0,Option.some.injEq,Prod.mk.injEq] at e;let(e1,e2):=e;subst e1 e2;exact#[eZ S0,n' / 3,(n' % 3).toNat,(),9];rw[IG (by simp;lia)] at e;cases e;rintro ρ ⟨n,kv,pv,_,pl,rfl,rfl,p0,p1,hlen,bZ⟩;exact hq pl bZ () ()
end
def A4(ts:Λ)(q:qam):Prop:=E3 λ(ns:qan) (ys:χ) (pl:Plan)=>ts=[.lst (ns.map .int),.lst (ys.map .str),.lst (pl.map cv)]/\ns.length<=63/\Given ys pl/\1<=pl.length /\
 ∀rs,Pre ys pl pl.length rs->7<=60->q (.fr (.lst (rs.map aZ)))
def Fu(f:α->T)(ns:List α)(lo hi:Option Int):∃ms:List α,uj (ns.map f) lo hi=ms.map f/\ms.length<=ns.length:=by
 unfold uj;rw[bS,<- List.map_drop,<- List.map_take];refine#[_,9,?_];rw[N5,X9]
 lia
def Ny(f:α->T)(ts:List α)(k:Nat)(h:k<=ts.length):uj (ts.map f) (some (k:Int)) none=(ts.drop k).map f:=by unfold uj;rw[bS,HT.OH,HT.Je,Nat.min_eq_left h,<- List.map_drop,<- List.map_take,X1 (by rw[X9];lia)]
theorem ints_map:∀ms:qan,intsOf (ms.map T.int)\ms
 |[]=>rfl
 |m::ms=>by simp only[kH,intsOf,ints_map ms];rfl
section
abbrev bt:χ:=["_law_cells","_law_words_here","_law_plan_here","_law_rows","_law_k","_law_stack","_law_start","_law_stop","_law_share","_law_cell","_law_word"]
def tD:az bt qbb (ar oM):=L2.eU
def Ds(D:Df K mg "_law_program" oM qbb f fd)(M:Xu mg)(c1:bP P w K mg base "_law_operand" qaW 1 (bQ K 2 ix))(c2:bP P w K mg base "_law_lay" qaZ 04 (B2 K [true,true,false,false,false] aeA)) :
  bP P w K mg base "_law_program" qbb 05 (bQ K 3 A4):=by
 let(kj,i7,cz,cA,cC,cD):=c1;let(agD,agw,aeE,aeF,aeG,aeH):=c2;refine D.fm (gf D.F tD 9 λbL A outer s H E Ox hr ts q hG=>?_);have nd:=tD.nd;have hu:=bG.dW hr;have np:∀{i:Nat},aY #[H,[],Ox] i:=gX;have npf:∀{is:qao},∀i∈is,aY #[H,[],Ox] i:=λi _=>gX;let(ns,ys,pl,rfl,hns,G,Yp,hq):=hG;refine#[_,(af (cP (i:=3) nd 9 5 (Ψ (bJ ak)) np)
   (af (cQ nG 9 (cX (by rfl) M.range (ν (aS aT aV (by rfl) M.len l0 (aO (ae 2) aX)))) (aM (i:=04) nd 9 5 np)
     (af (bA (dy 3 qt qu bo ba (aa (ω (bB (aa (ω aC) (aa (ω (ay (ν (ay (ae 2) (ae 04))) 4)) (aa (ω (ay (ν (ay (ae 2) (ae 04))) 4)) ak))))) ak)))
     (af (cP (i:=05) nd 9 5 (Ψ (bJ ak)) np)
     (af (aJ (i:=06) nd 9 5 (Ψ (bO (ν (gW (ae 04) (ν (aS aT aV (by rfl) M.len l0 (aO (ae 0) aX))))) (ν (aS aT aV (by rfl) M.len l0 (aO (ae 2) aX))))) np)
     (af (aJ (i:=07) nd 9 5 (Ψ (bO (ν (gW (ν (cF (ae 04) 4)) (ν (aS aT aV (by rfl) M.len l0 (aO (ae 0) aX))))) (ν (aS aT aV (by rfl) M.len l0 (aO (ae 2) aX))))) np)
     (af (aJ (i:=08) nd 9 5 (Ψ (mx (ae 0) (j4 (ae 06)) (j4 (ae 07)))) np)
     (af (cQ nG 9 (eG (ah 08)) (aM (i:=09) nd 9 5 np)
       (aq (bb (mw (ν (cF (ν (aS aT aV (by rfl) M.len l0 (aO (ae 3) aX))) (ν (aS aT aV (by rfl) M.len l0 (aO (ae 05) aX))))) (ν (qO 4 (ν (gW 4 (ν (qO (ν (qO (ν (aS aT aV (by rfl) M.len l0 (aO (ae 2) aX))) 4)) (ae 04))))))))
         (aq (bA (JO aeH (hr.mono 15) (by rfl) aeE aeF aeG (D9 3 (D9 05 (qW (ah 09) (qW (ah 1) (qW (ω (mx (ae 2) (j4 (ν (cF (ae 04) 4))) D0)) Pq))))))))
         aE)))
     (Po [05] (af (cQ nG 9 (eG (ah 05)) (aM (i:=10) nd 9 5 np)
       (aq (bA (dy 3 qt qu bo ba (aa (ω (bB (aa (ω aC) ak))) ak)))))
     (af (bA (dy 3 qt qu bo ba (aa (ω (bB (aa (ω aC) (aa (ω (dj cD (hr.mono 15) (by rfl) cz cA cC (aa (ω (bz (ν (aS (uf 9) Gp (by rfl) M.sum ac8 (aO (ae 08) aX))) (ν (jx 4 4)))) (aa (ah 1) ak)))) ak)))) ak)))
     (aq (bb (VW.vc (c9 (bF hu (ν (bz (ae 04) 4)) 4) (c0 (bF hu (ν (bz (ν (aS aT aV (by rfl) M.len l0 (aO (ae 08) aX))) 4)) 4))))
       (aq (bA (dy 3 qt qu bo ba (aa (ω (bB (aa (ω aC) ak))) ak))))
       aE)))) npf))))))))
   (aq (aA (eF 3 np))))),λ_=>?_]
 have hp3:=G.p3;have eT:((pl.map cv).length)=pl.length:=bS _;refine#[fB _,(),(),?_];refine dz (λk ρ=>E9 λkv a5 a6 a7 a8 a9 a10 rt rs=>ρ=[aP (.lst (ns.map .int)),aP (.lst (ys.map .str)),aP (.lst (pl.map cv)),some (.lst rt,true),kv,a5,a6,a7,a8,a9,a10]/\rt=rs.map aZ/\Pre ys pl k rs/\7+3 * (pl.length-k)<=60)
  #[none,none,none,none,none,none,none,_,[],9,9,.zero,by simp;lia] ?_ ?_
 rintro k ρ hk ⟨kv,a5,a6,a7,a8,a9,a10,_,rs,rfl,rfl,mh,hlen⟩;rw[eT,i_] at hk;obtain⟨p,hp⟩:∃p:Str×χ,p=pl[k]:=#[_,9];let(fn,yy):=p;have hpk:pl[k]?\(fn,yy):=by rw[eZ hk,hp]
 have et:h9 (pl.map cv) (0+(k:Int))\cv (fn,yy):=by rw[Ii];refine ai ?_;rw[fU,hpk];rfl
 have hk3:k<3:=by lia
 have agx:(rs.map aZ).length<sizeLine:=by rw[bS];exact fits ()
 refine#[_,et,_,aaU,_,et,_,aaV,bW 6,agx,fB _,.inl #[(),()],#[(),()],
  .inl #[(),()],#[(),()],?_]
 let(ms,ems,hms):=Fu T.int ns (some ((0+(k:Int)) * ((ns.map T.int).length:Int) / ((pl.map cv).length:Int))) (some ((0+(k:Int)+1) * ((ns.map T.int).length:Int) / ((pl.map cv).length:Int)));show oX (uj (ns.map T.int) (some ((0+(k:Int)) * ((ns.map T.int).length:Int) / ((pl.map cv).length:Int))) (some ((0+(k:Int)+1) * ((ns.map T.int).length:Int) / ((pl.map cv).length:Int)))) _ _ _ _;rw[ems];refine eJ (λi ρ=>E8 λb6 b7 b9 TU rt st body ck=>ρ=[aP (.lst (ns.map .int)),aP (.lst (ys.map .str)),aP (.lst (pl.map cv)),some (.lst rt,true),aP (.int (0+(k:Int))),some (.lst st,true),b6,b7,aP (.lst (ms.map .int)),b9,TU]/\rt=(rs++[Rw.df fn yy]++body).map aZ/\st=ck.map .str/\Body ys (pl.drop (k+1)) ck body/\7+1+body.length+ck.length+3 * (pl.length-1-k)<=58)
  #[_,_,_,_,_,_,[],[],9,by simp;rfl,9,.nil,by simp;lia] ?_ ?_
 rintro i z ρ hi ⟨b6,b7,b9,TU,_,_,body,ck,rfl,rfl,rfl,hB,hb⟩;refine#[.inl #[by decide,by decide],cH (λh=>?_) (λ_=>#[b6,b7,_,TU,_,_,body,ck,9,9,9,hB,hb])];have hg:=h;have agy:uj (pl.map cv) (some (0+(k:Int)+1)) none=(pl.drop (k+1)).map cv:=by
  have:(0+(k:Int)+1)=((k+1:Nat):Int):=by lia
  rw[this];exact Ny cv pl (k+1) hk
 have Nz:(rs++[Rw.df fn yy]++body).length=7+1+body.length:=by simp only[fS,NO]
 rw[bS,bS,eT,Nz] at hg;refine#[rs++[Rw.df fn yy]++body,ck,z,ys,pl.drop (k+1),?_,#[G.y6,G.sm,by rw[X9];lia,λp hp=>G.p4 p (acC hp)],by rw[Nz];lia,(),λnw eO aeI=>?_];rw[<- agy];rfl;have hlr:=PH aeI;refine#[b6,b7,_,TU,_,_,body++nw,eO,9,?_,9,.step hB aeI,by rw[fS];lia];rw[yD];rintro ρ ⟨b6,b7,b9,TU,_,_,body,ck,rfl,rfl,rfl,hB,hb⟩;have Nz:(rs++[Rw.df fn yy]++body).length=7+1+body.length:=by simp only[fS,NO]
 refine eJ (f:=T.str) (xs:=ck) (λi ρ=>E2 λTU rt=>ρ=[aP (.lst (ns.map .int)),aP (.lst (ys.map .str)),aP (.lst (pl.map cv)),some (.lst rt,true),aP (.int (0+(k:Int))),aP (.lst (ck.map .str)),b6,b7,aP (.lst (ms.map .int)),b9,TU]/\rt=(rs++[Rw.df fn yy]++body++List.replicate i Rw.fin).map aZ)
  #[TU,_,9,by simp] ?_ ?_
 rintro i x ρ hi ⟨c10,_,rfl,rfl⟩;have ZT:i<ck.length:=(c7.mp hi).1;refine#[bW 6,by rw[bS,fS,Nz,NN];exact fits (),_,_,9,?_];rw[List.replicate_succ',<- yD,nD (l₂:=[Rw.fin])];rfl;rintro ρ ⟨c10,_,rfl,rfl⟩;have agz:(rs++[Rw.df fn yy]++body++List.replicate ck.length Rw.fin).length=7+1+body.length+ck.length:=by rw[fS,Nz,NN]
 have v0:0<=ms.sum % 10 ^ (06:Int).toNat:=by rw[adl];exact Bv _ 15
 have v1:ms.sum % 10 ^ (06:Int).toNat<2147483648:=by rw[adl];have:=IJ ms.sum (show (0:Int)<1000000 by decide);lia
 refine#[ms,ints_map ms,#[by decide,by decide,by decide],15,9,_,ys,9,G.y6,v0,v1,λo ho=>#[bW 6,by rw[bS,agz];exact fits (),(by show (0:Int)<2;decide),?_]];have fin:∀sk:qal,(sk=[]\/sk=[Rw.skip])->Pre ys pl (k+1) (rs++(Rw.df fn yy::(body++(List.replicate ck.length Rw.fin++(Rw.give o::sk)))))/\(rs++(Rw.df fn yy::(body++(List.replicate ck.length Rw.fin++(Rw.give o::sk))))).length+3 * (pl.length-(k+1))<=60:=λsk hsk=>by
  refine#[.succ mh hpk hB ho hsk,?_];have:sk.length<=1:=by obtain rfl|rfl:=hsk<;>simp
  simp only[fS,vR,NN]
  lia
 have e0:(rs++[Rw.df fn yy]++body++List.replicate ck.length Rw.fin).map aZ++[aZ (Rw.give o)]=(rs++(Rw.df fn yy::(body++(List.replicate ck.length Rw.fin++(Rw.give o::[]))))).map aZ:=by simp[yD]
 have e1:(rs++[Rw.df fn yy]++body++List.replicate ck.length Rw.fin).map aZ++[aZ (Rw.give o)]++[aZ Rw.skip]=(rs++(Rw.df fn yy::(body++(List.replicate ck.length Rw.fin++(Rw.give o::[Rw.skip]))))).map aZ:=by simp[yD]
 refine cH (λ_=>?_) (λ_=>gY 9 #[_,_,_,_,_,_,_,_,_,9,e0,fin [] 5]);refine#[(by show (0:Int)<2;decide),cH (λ_=>?_) (λ_=>#[_,_,_,_,_,_,_,_,_,9,e0,fin [] 5])];refine#[bW 6,?_,#[_,_,_,_,_,_,_,_,_,9,e1,fin [.skip] (.inr 9)]];exact fits (by simp;lia);rintro ρ ⟨kv,a5,a6,a7,a8,a9,a10,_,rs,rfl,rfl,mh,hlen⟩;rw[eT,i_] at mh;exact hq rs mh ()
end
end fR
namespace i8
open PySem L2 VT Gen K5 Lay BS IB MK
open PySem.Builtin (bitOr bitAnd)
open Nt (nT MO yf oH d5 jh)
open Us (Aw oC)
open y0 (cW)
open Nm (kB)
def top(i:Nat):Stmt:=PySem.Challenge.pw_slicewise_k44_slices_of_several_sets.main.body.getD i (.Pass #[0,0,0,0])
abbrev Dt:Stmt:=top 71
abbrev oN:Stmt:=top 72
abbrev nC:Stmt:=top 73
structure MgL(mg:qae):Prop where
 len:mg "len"=none
 range:mg "range"=none
def Fv(h:cW x=true):x.length<=08:=by
 unfold cW at h;rw[pK,pK] at h;have:=Θ h.2.1
 lia
def R4(ys:χ):Rw->Prop
 |.df _ ps=>ps.length<=04
 |.give a=>dX ys a
 |.put _ a=>dX ys a
 |.uo _ a _ b=>dX ys a/\dX ys b
 |.get _ r k=>r∈ys/\wQ ys k
 |.set r k a=>r∈ys/\wQ ys k/\dX ys a
 |.call _ _ as=>as.length<=04/\∀a∈as,dX ys a
 |.wL a=>dX ys a
 |.nZ a=>dX ys a
 |_=>True
def HN(hp:∀p∈pl,p.2.length<=04)(h:ij ys pl r):R4 ys r:=by
 cases r with
 |put x a=>exact h.2
 |uo x a op b=>exact#[h.2.1,h.2.2.2]
 |get x r k=>exact#[h.2.1,h.2.2]
 |set r k a=>exact h
 |call x f as=>let(h1,(ps,h2,h3),h4):=h;exact#[by rw[h3];exact hp _ h2,h4]
 |_=>first|trivial|exact h.elim
def RF(hp:∀p∈pl,p.2.length<=04){ck body}(h:Body ys pl ck body):∀r∈body,R4 ys r:=by
 induction h with
 |nil=>intro r hr;cases hr
 |step _ h2 ih=>
  intro r hr;rcases fM.mp hr with hr|hr
  exact ih r hr;obtain⟨o,ho,rfl,_⟩|⟨o,ho,rfl,_⟩|⟨y,hy,rfl,_⟩|⟨s0,_,rfl,_⟩|⟨s0,x,_,rfl,_⟩|⟨r',bV,rfl,_⟩:=h2<;>simp only[dQ,gR,aah] at hr
  subst hr;exact ho;subst hr;exact ho;obtain rfl|rfl:=hr
  exact hy;exact#[hy,by decide,by decide];subst hr;trivial;subst hr;trivial;subst hr;exact HN hp bV
def XC(hp:∀p∈pl,p.2.length<=04)(h:Pre ys pl n rs):∀r∈rs,R4 ys r:=by
 induction h with
 |zero=>intro r hr;cases hr
 |@succ k rs f ps ck body o sk _ hk hb ho hs ih=>
  intro r hr;rcases fM.mp hr with hr|hr
  exact ih r hr;rcases List.mem_cons.mp hr with rfl|hr
  exact hp _ (fL hk);rcases fM.mp hr with hr|hr
  exact RF (λp h=>hp p (acC h)) hb r hr;rcases fM.mp hr with hr|hr
  rw[(List.mem_replicate.mp hr).2];trivial;rcases dQ.mp hr with rfl|hr
  exact ho;obtain rfl|rfl:=hs
  cases hr;rw[fE.mp hr];trivial
def XD(h:Pre ys pl n rs)(h1:1<=n):E2 λf ps=>rs[0]?\.df f ps:=by
 induction h with
 |zero=>lia
 |@succ k rs f ps ck body o sk hp hk hb ho hs ih=>
  by_cases z:1<=k;let(f',W2,e):=ih z;exact#[f',W2,by rw[pI (c7.mp e).1];exact e];have:k=0:=by lia
  subst this;cases hp;exact#[f,ps,9]
section
variable(hn:∀y∈ys,cW y=true)
include hn
theorem Du(h:x∈ys):kB (.str x):=.inl #[x,9,by have:=Fv (hn x h);lia]
def i9{o:nH}(h:dX ys o):kB (mD o):=by
 cases o with
 |nm x=>exact Du hn h
 |nu i=>exact .inr #[i,9]
theorem Fw{k:Ky}(h:wQ ys k):kB (Cd k):=by
 cases k with
 |fld x=>exact .inl #[_,9,by
  have:=Fv (hn x h);have e:(((".":String):Str)++x).length=1+x.length:=by show (((".":String):Str).cps++x.cps).size=_;rw[Array.size_append];rfl
  rw[e];lia]
 |op o=>exact i9 hn h
theorem aeJ(h:R4 ys r):Aw r/\iY.Yy r:=by
 refine#[#[λt ht=>?_,?_,?_],?_];cases r with
 |give a=>rw[fE.mp ht];exact i9 hn h
 |wL a=>rw[fE.mp ht];exact i9 hn h
 |nZ a=>rw[fE.mp ht];exact i9 hn h
 |put x a=>rw[fE.mp ht];exact i9 hn h
 |uo x a op b=>
  rcases dQ.mp ht with rfl|ht
  exact i9 hn h.1;rw[fE.mp ht];exact i9 hn h.2
 |get x y k=>
  rcases dQ.mp ht with rfl|ht
  exact Du hn h.1;rw[fE.mp ht];exact Fw hn h.2
 |set y k a=>
  rcases dQ.mp ht with rfl|ht
  exact Du hn h.1;rcases dQ.mp ht with rfl|ht
  exact Fw hn h.2.1;rw[fE.mp ht];exact i9 hn h.2.2
 |call x f as=>let(a,ha,rfl):=k6.mp ht;exact i9 hn (h.2 a ha)
 |_=>cases ht
 cases r with
 |call x f as=>show (as.map mD).length<=10;rw[bS];have:=h.1;lia
 |_=>simp[oC]
 rintro x a op y rfl;have:=hn y h.2;exact#[this,by have:=Fv this;lia];cases r with
 |get x y k=>exact Fw hn h.2
 |set y k a=>exact Fw hn h.2.1
 |_=>trivial
theorem XE(h:Pre ys pl pl.length rs)(le:7<=60)(p4:∀p∈pl,p.2.length<=04):oH rs:=by
 have pg:=Xl h le hn p4;have r4:=XC p4 h;refine#[pg,λr hr=>(aeJ hn (r4 r hr)).1,λr hr=>?_,λr hr=>#[?_,(aeJ hn (r4 r hr)).2]];have:=r4 r hr;cases r with
 |df f ps=>show ps.length<=10;have:ps.length<=04:=this;lia
 |_=>simp[Nt.cR]
 cases r with
 |call x g as=>exact pg.cl x g as hr
 |_=>trivial
end
def TV(ts:Λ)(q:qam):Prop:=E3 λ(rs:qal) (f:Str) (ps:χ)=>ts=[.lst (rs.map aZ)]/\7<=100/\rs[0]?\.df f ps/\∀ks:qao,ks≠[]->(∀k∈ks,k<7)->ks.length<=7->q (.fr (.lst (nT ks)))
def Fx(ts:Λ)(q:qam):Prop:=E3 λ(ks:qao) (c:Int) (n:Nat)=>ts=[.lst (nT ks),.int c]/\ks≠[]/\(∀k∈ks,k<n)/\n<=100/\ks.length<=100/\∀x,below n x->q (.vw (.int x))
def IvR(rs:qal)(k:Nat):En->Prop:=λρ=>E5 λ(l:qao) (lt:Λ) (wi:Bool) (b3 b4:Option (T×Bool))=>ρ=[aP (.lst (rs.map aZ)),some (.lst lt,true),aP (.bl wi),b3,b4]/\lt=nT l/\(∀j∈l,j<k)/\l.length<=k/\(0<k->l≠[])
def aeK(rs:qal):FS:=λd ρ=>E4 λ(k:Nat) (r:Rw) (l:qao) (wi:Bool)=>ρ=[aP (.lst (rs.map aZ)),some (.lst (nT l),true),aP (.bl wi),aP (.int (k:Int)),aP (.str (wd r))]/\(∀j∈l,j<k)/\l.length<=k/\k<100/\(l≠[]\/(wi=true/\MO r=false))/\∀ρ',IvR rs (k+1) ρ'->d.nx ρ'
def TX(rs:qal):FS:=λd ρ=>E4 λ(k:Nat) (r:Rw) (l:qao) (wi:Bool)=>ρ=[aP (.lst (rs.map aZ)),some (.lst (nT l),true),aP (.bl wi),aP (.int (k:Int)),aP (.str (wd r))]/\(∀j∈l,j<k+1)/\l.length<=k+1/\l≠[]/\∀ρ',IvR rs (k+1) ρ'->d.nx ρ'
section
abbrev XF:χ:=["_law_program_here","_law_some","_law_within","_law_k","_law_word"]
def Fy:az XF qbc (ar Dt):=L2.eU
def RG(D:Df K mg "_law_real" Dt qbc f fd)(M:MgL mg):bP P w K mg base "_law_real" qbc 1 (bQ K 1 TV):=by
 refine D.fm (gf D.F Fy 9 λbL A outer s H E Ox hr ts q hG=>?_);have nd:=Fy.nd;have hu:=bG.dW hr;have np:∀{i:Nat},aY #[H,[],Ox] i:=gX;let(rs,f0,ps0,rfl,hn,h0,hq):=hG;refine#[_,(af (cP (i:=1) nd 9 5 (Ψ (bJ ak)) np)
  (af (aJ (i:=2) nd 9 5 (Ψ mm) np)
  (af (cQ nG 9 (cX (by rfl) M.range (ν (aS aT aV (by rfl) M.len l0 (aO (ae 0) aX)))) (aM (i:=3) nd 9 5 np)
   (af (aJ (i:=04) nd 9 5 (Ψ (ay (ν (ay (ae 0) (ae 3))) 4)) np)
   (af (bb (bF hu (ae 04) (ν aC))
    (aq (aJ (i:=2) nd 9 5 (Ψ mm) np))
    aE)
   (ku.weak (u:=(aeK rs)) (af (bb (VW.vc (c9 (fO (VE.vp (ah 2))) (c0 (JV (ae 04) (ν (bB (aa (ω aC) (aa (ω aC) (aa (ω aC) ak)))))))))
    (aq (bA (dy 1 qt qu bo ba (aa (ah 3) ak))))
    aE)
   (ku.weak (u:=(TX rs)) (aq (bb (bF hu (ae 04) (ν aC))
    (aq (aJ (i:=2) nd 9 5 (Ψ mm) np))
    aE)) ?w9)) ?w7))))
  (aq (aA (eF 1 np)))))),λ_=>?main]
 case w9=>
  rintro d ρ ⟨k,r,l,wi,rfl,h1,h2,h3,kk⟩;exact cH (λ_=>kk _ #[l,_,_,_,_,9,9,h1,h2,λ_=>h3]) (λ_=>kk _ #[l,_,_,_,_,9,9,h1,h2,λ_=>h3])
 case w7=>
  rintro d ρ ⟨k,r,l,wi,rfl,h1,h2,h3,h4,kk⟩;have neg:l≠[]->TX rs d [aP (.lst (rs.map aZ)),some (.lst (nT l),true),aP (.bl wi),aP (.int (k:Int)),aP (.str (wd r))]:=λe=>#[k,r,l,wi,9,λj hj=>Bj (h1 j hj),(),e,kk];cases wi with
  |false=>exact neg (h4.resolve_right λz=>nomatch z.1)
  |true=>
   refine#[Gen.wJ 9,9,9,?_];show if (!mB (.str (wd r)) [.str "else",.str "end",.str "skip"])=true then _ else _
   rw[yf];refine jh (λz=>#[by rw[bS,π];lia,k,r,l++[k],true,?_,λj hj=>?_,by rw[fS];exact Nat.succ_le_succ h2,by simp,kk]) (λz=>neg (h4.resolve_right λy=>?_));show _=[_,some (T.lst ((l++[k]).map λk:Nat=>T.int (k:Int)),true),_,_,_];rw[nD];rfl;rcases fM.mp hj with hj|hj
   exact Bj (h1 j hj);rw[fE.mp hj];exact qw k;rw[y.2] at z;cases z
 case main=>
 have eL:(rs.map aZ).length=7:=bS _;refine#[Gen.wJ 9,(by show -(2 ^ 62:Int)<=((rs.map aZ).length:Int);lia),(by show ((rs.map aZ).length:Int)<(2 ^ 62:Int);lia),?_];refine dz (IvR rs) #[[],_,false,none,none,9,9,λj hj=>(nomatch hj),cL _,λh=>absurd h (FL _)] ?_ ?_;rintro k ρ hk ⟨l,_,wi,b3,b4,rfl,rfl,h1,h2,h3⟩;rw[eL,i_] at hk;rw[Ii];obtain⟨r,bV⟩:∃r,rs[k]?\r:=#[_,eZ hk];let(t1,et1):=j8 r;have aeL:=dc bV;rw[et1] at aeL;refine#[_,aeL,_,aaU,?_];refine cH (λz=>#[k,r,l,true,9,h1,h2,(),?_,λ_ h=>h]) (λz=>#[k,r,l,wi,9,h1,h2,(),?_,λ_ h=>h]);have z:wd r="def":=z;let(f',W2,rfl):=V9 z;exact .inr #[9,9];refine .inl (h3 (Nat.pos_of_ne_zero λe=>?_));subst e;rw[h0] at bV;cases bV;exact z 9;rintro ρ ⟨l,_,wi,b3,b4,rfl,rfl,h1,h2,h3⟩;rw[eL,i_] at h1 h2 h3;exact hq l (h3 (c7.mp h0).1) h1 h2
abbrev HP:χ:=["_law_real_here","_law_cell","_law_rows","_law_k"]
def tF:az HP qbd (ar oN):=L2.eU
def Dv(D:Df K mg "_law_rows_by" oN qbd f fd)(M:MgL mg):bP P w K mg base "_law_rows_by" qbd 1 (bQ K 2 Fx):=by
 refine D.fm (gf D.F tF 9 λbL A outer s H E Ox hr ts q hG=>?_);have nd:=tF.nd;have hu:=bG.dW hr;have np:∀{i:Nat},aY #[H,[],Ox] i:=gX;refine#[_,(af (aJ (i:=2) nd 9 5 (Ψ ag) np)
  (af (cQ nG 9 (cX (by rfl) M.range (ν (aS aT aV (by rfl) M.len l0 (aO (ae 0) aX)))) (aM (i:=3) nd 9 5 np)
   (aq (bb (bF hu (ν (bz (ν (bO (ae 1) (ν (cF (ae 3) 4)))) 4)) 4)
    (aq (aJ (i:=2) nd 9 5 (Ψ (qQ (ae 2) (ν (qP 4 (ν (ay (ae 0) (ae 3))))))) np))
    aE)))
  (aq (aA (Ψ (qQ (ae 2) (ν (qP 4 (ν (ay (ae 0) (ν (bz (ae 1) (ν (aS aT aV (by rfl) M.len l0 (aO (ae 0) aX))))))))))))))),λ_=>?_]
 let(ks,c,n,rfl,fY,hk,hn,hl,hq):=hG;have eL:(nT ks).length=ks.length:=bS _;have aeM:∀{j:Nat}(hj:j<ks.length),h9 (nT ks) (j:Int)\.int ((ks[j]:Nat):Int):=λ{j} hj=>ai (by show (ks.map _)[j]?=_;rw[fU,eZ hj];rfl);have sh:∀{j:Nat}(hj:j<ks.length),below n (1 * 2 ^ (((ks[j]:Nat):Int)).toNat)/\ks[j]<n:=λ{j} hj=>#[by rw[i_];exact iW (hk _ (FK hj)),hk _ (FK hj)];refine#[(by show -(2 ^ 62:Int)<=((nT ks).length:Int);lia),(by show ((nT ks).length:Int)<(2 ^ 62:Int);lia),?_];refine dz (λk ρ=>E2 λv b3=>ρ=[aP (.lst (nT ks)),aP (.int c),aP (.int v),b3]/\below n v) #[_,none,9,cJ n] ?_ ?_;rintro k ρ wz ⟨v,b3,rfl,hv⟩;rw[eL,i_] at wz;rw[Ii];let(s1,s2):=sh wz;refine#[#[by show (0:Int)<(k:Int)+1;lia,by show (k:Int)+1<1073741824;lia],(by show (0:Int)<05;decide),cH (λ_=>?_) (λ_=>#[v,_,9,hv])];exact#[_,aeM wz,#[(),(),by decide],_,_,9,d4 hv s1];rintro ρ ⟨v,b3,rfl,hv⟩;have hp:0<ks.length:=X6.mpr fY;have a0:0<=c % (ks.length:Int):=Bv _ ();have a1:c % (ks.length:Int)<ks.length:=IJ _ ();let(j,hj):=qv a0;have di:j<ks.length:=by lia
 let(s1,s2):=sh di;refine#[by show (0:Int)<((nT ks).length:Int);lia,.int ((ks[j]:Nat):Int),?_,#[(),(),by decide],hq _ (d4 hv s1)];show h9 (nT ks) (c % ((nT ks).length:Int))=_;rw[eL,hj];exact aeM di
end
end i8
namespace i8
open PySem L2 VT Gen K5 Lay BS IB MK
open PySem.Builtin (bitOr bitAnd)
open Nt (nT MO yf oH d5 jh Net Di)
open y0 (cW)
def RH(ts:Λ)(q:qam):Prop:=∃ns:qan,ts=[.lst (ns.map .int)]/\ns.length<=63/\q (.vw (.bl true))
section
variable(hn:∀y∈net,below net.length y)
include hn
def ym{x:Int}(hx:below net.length x)(h:closed net x):lst net x=x:=(c8 hn hx).unique #[dA _,h,λ_ h _=>h]
def XG{x:Int}(hx:below net.length x)(hy:below net.length y):lst net (bitOr x y)=bitOr (lst net x) (lst net y):=by
 have lx:=c8 hn hx;have ly:=c8 hn hy;refine (c8 hn (d4 hx hy)).unique #[xI (cw lx.has (cZ _ _)) (cw ly.has (dO _ _)),λk y e hk=>?_,λc h1 h2=>xI (lx.out c (cw (cZ _ _) h1) h2) (ly.out c (cw (dO _ _) h1) h2)];rw[dZ,N_] at hk;obtain z|z:=hk
 exact cw (lx.LU k y e z) (cZ _ _);exact cw (ly.LU k y e z) (dO _ _)
def RI{x:Int}(hx:below net.length x)(hy:below net.length y):lst net (bitAnd (lst net x) (lst net y))=bitAnd (lst net x) (lst net y):=by refine ym hn (ou (oy hn hx)) λk y e hk b hb=>?_;rw[lM,pK] at hk ⊢;exact#[(c8 hn hx).LU k y e hk.1 b hb,(c8 hn hy).LU k y e hk.2 b hb]
end
section
abbrev aeN:χ:=["_law_script","_law_words_here","_law_program_here","_law_real_here","_law_strict","_law_ones","_law_others","_law_first","_law_second","_law_both","_law_amid"]
def NA:az aeN qbe (ar nC):=L2.eU
def XH(D:Df K mg "law" nC qbe f fd)(M:MgL mg)(iy:bP P w K mg base "_law_cell_at" qaU 1 (bQ K 2 fR.TJ))(RJ:bP P w K mg base "_law_words" qaV 1 (bQ K 2 fR.Nh))(XI:bP P w K mg base "_law_plan" qba 1 (bQ K 2 fR.TR))(HQ:bP P w K mg base "_law_program" qbb 05 (bQ K 3 fR.A4))(XJ:bP P w K mg base "_law_real" qbc 1 (bQ K 1 TV))(vO:bP P w K mg base "_law_rows_by" qbd 1 (bQ K 2 Fx))(d6:bP P w K mg base "slice_of" qaT 10 (bQ K 3 Nt.Dk))(s_:bP P w K mg base "net_of" qaQ 09 (bQ K 2 Nt.Dj))(HR:bP P w K mg base "between" qaS 05 (bQ K 3 Nt.AW)):eD P w K mg base iA 11 f fd qbe (bQ K 1 RH):=by
 refine gf D.F NA 9 λbL A outer s H E Ox hr ts q hG=>?_;have nd:=NA.nd;have hu:=bG.dW hr;have np:∀{i:Nat},aY #[H,[],Ox] i:=gX;refine#[_,(af (aJ (i:=1) nd 9 5 (Ψ (aw RJ hr (aa (ω (aw iy hr (aa (ah 0) (aa (ω ag) ak)))) (aa (ω ag) ak)))) np)
  (af (aJ (i:=2) nd 9 5 (Ψ (aw HQ hr (aa (ω (mx (ae 0) (j4 4) (j4 4))) (aa (ah 1) (aa (ω (aw XI hr (aa (ω (aw iy hr (aa (ah 0) (aa (ω ag) ak)))) (aa (ah 1) ak)))) ak))))) np)
  (af (aJ (i:=3) nd 9 5 (Ψ (aw XJ hr (aa (ah 2) ak))) np)
  (af (aJ (i:=04) nd 9 5 (Ψ (DZ hu (ν (bz (ν (bO (ν (aw iy hr (aa (ah 0) (aa (ω ag) ak)))) 4)) 4)) 4)) np)
  (af (aJ (i:=05) nd 9 5 (Ψ (aw vO hr (aa (ah 3) (aa (ω (bz (ν (aw iy hr (aa (ah 0) (aa (ω ag) ak)))) (ν (jx 4 4)))) ak)))) np)
  (af (aJ (i:=06) nd 9 5 (Ψ (aw vO hr (aa (ah 3) (aa (ω (bz (ν (aw iy hr (aa (ah 0) (aa (ω ag) ak)))) (ν (jx 4 4)))) ak)))) np)
  (af (aJ (i:=07) nd 9 5 (Ψ (aw d6 hr (aa (ah 2) (aa (ah 05) (aa (ah 04) ak))))) np)
  (af (aJ (i:=08) nd 9 5 (Ψ (aw d6 hr (aa (ah 2) (aa (ah 06) (aa (ah 04) ak))))) np)
  (af (bb (h_ hu (ν (aw d6 hr (aa (ah 2) (aa (ω (qQ (ae 05) (ae 06))) (aa (ah 04) ak))))) (ν (qQ (ae 07) (ae 08))))
   (aq (aA (Ψ mm)))
   aE)
  (af (bb (VW.vc (qN (h_ hu (ν (aw d6 hr (aa (ah 2) (aa (ah 07) (aa (ah 04) ak))))) (ae 07)) (nS (h_ hu (ν (aw d6 hr (aa (ah 2) (aa (ah 08) (aa (ah 04) ak))))) (ae 08)))))
   (aq (aA (Ψ mm)))
   aE)
  (af (aJ (i:=09) nd 9 5 (Ψ (j3 (ae 07) (ae 08))) np)
  (af (bb (VW.vc (qN (h_ hu (ν (aw d6 hr (aa (ah 2) (aa (ah 09) (aa (ah 04) ak))))) (ae 09)) (nS (h_ hu (ν (aw d6 hr (aa (ah 2) (aa (ω ag) (aa (ah 04) ak))))) 4))))
   (aq (aA (Ψ mm)))
   aE)
  (af (aJ (i:=10) nd 9 5 (Ψ (aw HR hr (aa (ω (aw s_ hr (aa (ah 2) (aa (ah 04) ak)))) (aa (ah 05) (aa (ah 06) ak))))) np)
  (aq (aA (Ψ (DZ hu (ν (j3 (ae 10) (ae 08))) (ae 10)))))))))))))))))),λ_=>?_]
 let(ns,rfl,h63,hq):=hG;have HK:(fq (ns.getD 0 0) 06).length=06:=Cc _ _;have hnm:∀y∈fq (ns.getD 0 0) 06,y0.cW y=true:=Ci;refine#[9,ns,0,9,9,_,06,9,by decide,by decide,?_];generalize fq (ns.getD 0 0) 06=ys at HK hnm ⊢;let(ms,ems,hms):=fR.Fu T.int ns (some 04) (some 34);refine#[9,ns,1,9,9,_,ys,9,HK,λpl j2 h1 h3=>?_];have p4:∀p∈pl,p.2.length<=04:=λp hp=>by have:=(Kn HK j2 p.1 p.2 hp).2;lia
 refine#[9,ms,ys,pl,by rw[<- ems];rfl,(),#[HK,λy hy=>by have:=Fv (hnm y hy);lia,h3,p4],h1,λrs mh hlen=>?_];have N:=XE hnm mh hlen p4;let(f0,ps0,h0):=XD mh h1;refine#[9,rs,f0,ps0,9,(),h0,λks k1 k2 k3=>?_];refine#[9,ns,1,9,#[by decide,by decide],(by show (0:Int)<2;decide),?_];obtain⟨b,hb⟩:∃b,b=decide (ns.getD 1 0 / 3 % 2=1):=#[_,9];have No:=Di N b;have el:(d5 rs b).length=7:=by unfold d5;rw[bS,pJ]
 have hn:=No.2;have sl:∀{x:Int}{q':qam},below 7 x->q' (.vw (.int (lst (d5 rs b) x)))->Nt.Dk [.lst (rs.map aZ),.int x,.bl (decide (ns.getD 1 0 / 3 % 2=1))] q':=λ{x q'} hx h=>by rw[<- hb];exact#[rs,x,b,9,N,hx,h]
 have h10:(0:Int)<10 ^ (09:Int).toNat:=by decide
 refine#[9,ns,2,9,#[by decide,by decide,by decide],h10,9,ks,_,7,9,k1,k2,(),(),λx hx=>?_];refine#[9,ns,3,9,#[by decide,by decide,by decide],h10,9,ks,_,7,9,k1,k2,(),(),λy hy=>?_];have Ir:below (d5 rs b).length x:=by rw[el];exact hx
 have U0:below (d5 rs b).length y:=by rw[el];exact hy
 have bx:=oy hn Ir;have by':=oy hn U0
 rw[el] at bx by'
 have cx:=ym hn (by rw[el];exact bx) (c8 hn Ir).LU;have cy:=ym hn (by rw[el];exact by') (c8 hn U0).LU;refine#[9,sl hx #[9,sl hy #[9,sl (d4 hx hy) ?_]]];refine gY (c:=!decide (lst (d5 rs b) (bitOr x y)=bitOr (lst (d5 rs b) x) (lst (d5 rs b) y))) (by rw[ο (XG hn Ir U0)];rfl) ?_;refine#[9,sl bx ?_];refine gY (c:=!decide (lst (d5 rs b) (lst (d5 rs b) x)=lst (d5 rs b) x)) (by rw[ο cx];rfl) ?_;refine#[9,sl by' ?_];refine gY (c:=!decide (lst (d5 rs b) (lst (d5 rs b) y)=lst (d5 rs b) y)) (by rw[ο cy];rfl) ?_;refine#[9,sl (ou bx) ?_];refine gY (c:=!decide (lst (d5 rs b) (bitAnd (lst (d5 rs b) x) (lst (d5 rs b) y))=bitAnd (lst (d5 rs b) x) (lst (d5 rs b) y))) (by rw[ο (RI hn Ir U0)];rfl) ?_;refine#[9,sl (cJ _) ?_];refine gY (c:=!decide (lst (d5 rs b) 0=0)) (by rw[ο (LY hn)];rfl) ?_;refine#[9,rs,b,by rw[hb];rfl,N,9,_,x,y,9,No,Ir,U0,λout Tu=>?_];show q (.vw (.bl (decide (bitAnd (bitAnd (lst out x) (lst (d5 rs b) y)) (lst (d5 rs b) y)=bitAnd (lst out x) (lst (d5 rs b) y)))));rw[ο (g_ λk=>by rw[lM,lM,Bool.and_assoc,Bool.and_self])];exact hq
end
end i8
namespace eM
open PySem L2 VT
def aeO(X:K.In h)(G:h.Ns mainGlobals mg){st:Stmt}{oc:Value}{od an:qar}{BP:Array (Option Value)}{kV doc pm bL ct:Value}(a:W.nsIn K mainGlobals x\some (.ref f))(l:K.lookup f=some #[oc,od,.func (W.fnOf x x (cn st) (bH st) (ar st) .none kV doc pm an bL ct),BP])(c:W.codeIn K bL x=true)(k:W.keepIn K (.ref f)=true)(hb:∀(kV doc pm:Value) (an:qar) (bL ct:Value) (us:qag),us.length=ps.length->bindArgs (W.fnOf x x (cn st) (bH st) (ar st) .none kV doc pm an bL ct) #[us,[]]=pure (ps.zip us)) :
  E2 λf fd=>Df K mg x st ps f fd:=by
 have F:=qJ (st:=st) l c k;exact#[f,_,F,Bw X G a,F.binds hb]
theorem NB{C:qag->Prop}(h:C []):∀us:qag,us.length=0->C us
 |[],_=>h
theorem tG{C:qag->Prop}(h:∀a,∀us:qag,us.length=n->C (a::us)):∀us:qag,us.length=n+1->C us
 |a::us,e=>h a us (Nat.succ.inj e)
def aeP{C:qag->Prop}(h:∀a,C [a]):∀us:qag,us.length=1->C us:=tG λa=>NB (h a)
def bn1{C:qag->Prop}(h:∀a,C [a]):∀us:qag,us.length=1->C us:=aeP h
def bn2{C:qag->Prop}(h:∀a b,C [a,b]):∀us:qag,us.length=2->C us:=tG λa=>bn1 (h a)
def bn3{C:qag->Prop}(h:∀a b c,C [a,b,c]):∀us:qag,us.length=3->C us:=tG λa=>bn2 (h a)
def TY:qah:=[0,1,2,3,04,05,06,07,08,09,10,11,12,13,014,015,16,17,18,19,20,21,22,23,24,25,26,27,28,29,30,31,32,33,34,35,36,37,38,39,40,41,42,43,44,45,46,47,48,49,50,51,52,53,54,55,56,57,58,59,60,61,62,63,64,65,66,67,68,69,70,71,72,73,74,75,76,77,78,79,80,81,82,83,84,85,86,87,88,89,90,91,92,93,94,95,96,97,98,99,100,101,102,103,111,112,113,114,115,116,117,118,119,120,121,122,125,126,127,128,129,130,131,132,133,134,135,136,137,138,139,140,141,142,143,144,145,146,147,148,149,150,151,152,153,154,155,156,157,158,159,160,161,162,163,164,165,166,167,168,169,177,178,179,180,181,182,183,184,185,186,187,188,191,192,193,194,195,196,197,198,199,200,201,202,203,204,205,206,207,208,209,210,211,212,213,214,215,216,217,218,219,220,221,222,223,224,225,226,227,228,229,230,231,232,233,234,235,243,244,245,246,247,248,249,250,251,252,253,254,257,258,259,260,261,262,263,264,265,266,267,268,269,270,271,272,273,274,275,276,277,278,279,280,281,282,283,284,285,286,287,288,289,290,291,292,293,294,295,296,297,298,299,300,301,302,303,304,305,306,307,308,309,310,311,312,313,314,315,316,317,318,319,320,321,322,323,324,325,326,327,328,329,330,331,332,333,334,335,336,337,338,339,340,341,342,343,344,345,346,347,348,349,350,351,352,353,354,355,356,357,358,359,360,361,362,363,364,365,366,367,368,369,370,371,372,373,374,375,376,377,378,379,380,381,382,383,384,385,386,387,388,389,390,391,392,393,394,395,396,397,398,399,400,401,402,403,404,405,406,407,408,409,410,411,412,413,414,415,416,417,418,419,420,421,422,423,424,425,426,427,428,429,430,431,432,433,434,435,436,437,438,439,440,441,442,443,444,445,446]
abbrev OV:=Option (Option Value)
abbrev OO:=Option Obj
abbrev N(K:qaf)(x:Str):=W.nsIn K mainGlobals x
abbrev Lk(K:qaf)(a:Addr):=List.lookup a K
abbrev R(a:Addr):OV:=some (some (.ref a))
abbrev fo(x q:Str)(st:Stmt)(pm:Value)(c:Addr):OO:=some #[.type "function",none,.func (W.fnOf x q (cn st) (bH st) (ar st) .none .none .none pm none (.ref c) .none),([].toArray)]
abbrev cI(K:qaf)(c:Value)(q:Str):=W.codeIn K c q
abbrev kI(K:qaf)(f:Addr):=W.keepIn K (.ref f)
abbrev fI(K:qaf)(c:Addr)(x:Str):=W.findIn K (.ref c) x
abbrev Q4:=OV×OO×Bool×Bool
def q4(K:qaf)(x:Str)(f c:Addr):Q4:=(N K x,Lk K f,cI K (.ref c) x,kI K f)
def v4(x:Str)(st:Stmt)(f:Addr)(pm:Value)(c:Addr):Q4:=(R f,fo x x st pm c,true,true)
def BN:χ->(qag->Prop)->Prop
 |[],C=>C []
 |_::ps,C=>∀v,BN ps λus=>C (v::us)
theorem bnA:∀{ps:χ}{C:qag->Prop},BN ps C->∀us:qag,us.length=ps.length->C us
 |[],_,h,[],_=>h
 |_::_,_,h,v::us,e=>bnA (h v) us (Nat.succ.inj e)
def dM{D:Prop}(X:K.In h)(G:h.Ns mainGlobals mg){st:Stmt}{c:Addr}{pm:Value}(e:q4 K x f c=v4 x st f pm c)(k:∀{f:Addr} {fd:FuncData},Df K mg x st ps f fd->D)(hb:∀(kV doc pm:Value) (an:qar) (bL ct:Value),BN ps λus=>bindArgs (W.fnOf x x (cn st) (bH st) (ar st) .none kV doc pm an bL ct) #[us,[]]=pure (ps.zip us):=by simp only[BN];intros;rfl):D:=by unfold q4 v4 at e;simp only[Prod.mk.injEq] at e;let(_,_,d):=aeO X G e.1 e.2.1 e.2.2.1 e.2.2.2 λa b c d e f=>bnA (hb a b c d e f);exact k d
def Tk(P:Program)(w:World)(base:Heap):Prop:=True
def dN(z:Tk P w base)(X:K.In h)(G:h.Ns mainGlobals mg){st:Stmt}{c:Addr}{pm:Value}(e:q4 K x f c=v4 x st f pm c)(k:∀{f:Addr} {fd:FuncData},Df K mg x st ps f fd->bP P w K mg base x ps n sp)(hb:∀(kV doc pm:Value) (an:qar) (bL ct:Value),BN ps λus=>bindArgs (W.fnOf x x (cn st) (bH st) (ar st) .none kV doc pm an bL ct) #[us,[]]=pure (ps.zip us):=by simp only[BN];intros;rfl):bP P w K mg base x ps n sp:=dM X G e k hb
abbrev tU(l:Array Value):OO:=some #[.type "tuple",none,.seq l 0,([].toArray)]
abbrev kE(w:World)(x:Str)(t:Tok)(r:Addr):DictEntry:=#[PyData.keyHash w.params x,.str x t,.ref r]
abbrev IE:Value:=.str "law_slicewise_k44_slices_of_several_sets" 726
abbrev mD1:Value:=.str "slicewise.bits" 187
abbrev mD2:Value:=.str "slicewise.comes" 405
abbrev mD3:Value:=.str "slicewise.layouts" 336
abbrev TZ:Value:=.str "slicewise.makers" 435
abbrev IF:Value:=.str "slicewise.net" 542
abbrev XM:Value:=.str "slicewise.rows" 212
abbrev mD8:Value:=.str "slicewise.slices" 676
abbrev tX0:=(Q4×Q4)×(Q4×(Q4×Q4))
abbrev T1:=OV×OV
abbrev XN:=Bool×Bool
abbrev tX3:=T1×(OV×T1)
abbrev tX4:=(((Q4×Q4)×(Q4×Q4))×tX0)×(tX0×tX0)
abbrev tX5:=(OV×Bool)×(Bool×T1)
abbrev tX6:=OO×Bool
abbrev XX:Type:=((((((T1×(OV×OO))×((OV×OO)×(OV×(OO×OV))))×(((OO×OV)×(OO×OV))×((OO×OO)×(OO×(OO×OO)))))×((((OO×OO)×(OO×OV))×tX3)×(tX3×tX3)))×(((((OV×Bool)×tX6)×(XN×(Bool×(Bool×OV))))×((XN×T1)×tX3))×(((T1×(Bool×OO))×(XN×(Bool×XN)))×(tX5×(T1×(Bool×tX6))))))×(((((XN×XN)×tX5)×((T1×tX6)×((Bool×OO)×(OV×tX6))))×((((Bool×OO)×(OV×OO))×(XN×(Q4×(Q4×Q4))))×(tX0×tX0)))×(tX4×tX4)))
def FF(K:qaf):XX:=(((((((N K "LETTERS",N K "LONGEST_NAME"),(N K "DIVISIONS",Lk K 34)),((N K "NAME_MAKERS",Lk K 35),(N K "SILENT",(Lk K 36,N K "CLOSERS")))),(((Lk K 89,N K "OPENERS"),(Lk K 88,N K "USED_PLACES")),((Lk K 49,Lk K 56),(Lk K 55,(Lk K 54,Lk K 53))))),((((Lk K 52,Lk K 51),(Lk K 50,N K "isinstance")),((N K "int",N K "str"),(N K "bool",(N K "len",N K "all")))),(((N K "tuple",N K "zip"),(N K "range",(N K "list",N K "enumerate"))),((N K "min",N K "sum"),(N K "sorted",(N K "set",N K "Layout")))))),(((((fI K 120 "__init__",W.isFn K (.ref 117)),(Lk K 117,cI K (.ref 116) "Layout.__init__")),((kI K 117,W.plainGet K 120 Str.empty),(W.hasDictIn K 120,(W.plainOver K 120,fI K 120 "__setattr__")))),(((W.makesIn K 120,kI K 120),(fI K 120 "program",fI K 120 "heads")),((fI K 120 "ends",fI K 120 "elses"),(fI K 120 "homes",(fI K 120 "defs",fI K 120 "main"))))),((((N K "Sets",fI K 186 "__init__"),(W.isFn K (.ref 183),Lk K 183)),((cI K (.ref 182) "Sets.__init__",kI K 183),(W.plainGet K 186 Str.empty,(W.hasDictIn K 186,W.plainOver K 186)))),(((fI K 186 "__setattr__",W.makesIn K 186),(kI K 186,(fI K 186 "names",fI K 186 "cells"))),((N K "Facts",fI K 252 "__init__"),(W.isFn K (.ref 249),(Lk K 249,cI K (.ref 248) "Facts.__init__"))))))),((((((kI K 249,W.plainGet K 252 Str.empty),(W.hasDictIn K 252,W.plainOver K 252)),((fI K 252 "__setattr__",W.makesIn K 252),(kI K 252,(fI K 252 "layout",fI K 252 "table")))),(((fI K 252 "arrivals",N K "net_of"),(Lk K 269,cI K (.ref 268) "net_of")),((kI K 269,Lk K 264),(N K "slice_of",(Lk K 364,cI K (.ref 363) "slice_of"))))),((((kI K 364,Lk K 357),(N K "law",Lk K 446)),((cI K (.ref 445) "law",kI K 446),(q4 K "set_of" 21 20,(q4 K "has" 28 27,q4 K "members" 33 32)))),(((q4 K "is_name" 41 40,q4 K "is_field" 48 47),(q4 K "class_of" 63 62,(q4 K "operands" 68 67,q4 K "uses" 73 72))),((q4 K "makes" 80 79,q4 K "risky" 87 86),(q4 K "shape" 103 102,(q4 K "first_defs" 96 95,q4 K "calls_of" 129 128)))))),(((((q4 K "yes_row" 136 135,q4 K "no_row" 143 142),(q4 K "row_behind" 150 149,q4 K "next_rows" 157 156)),((q4 K "all_nexts" 162 161,q4 K "spread" 169 168),(q4 K "list_of" 209 208,(q4 K "read_cells" 228 227,q4 K "call_wants" 235 234)))),(((q4 K "wants" 221 220,q4 K "grown" 216 215),(q4 K "makers" 197 196,(q4 K "holds" 204 203,q4 K "records_of" 302 301))),((q4 K "may_meet" 295 294,q4 K "cell_ties" 288 287),(q4 K "frame_ties" 307 306,(q4 K "whiles_round" 328 327,q4 K "may_come_ahead" 321 320))))),((((q4 K "stop_ties" 314 313,q4 K "arrivals_of" 263 262),(q4 K "name_ties" 281 280,q4 K "ties_of" 276 275)),((q4 K "back" 335 334,q4 K "turned" 349 348),(q4 K "forth" 342 341,(q4 K "between" 356 355,q4 K "_law_cell_at" 371 370)))),(((q4 K "_law_words" 378 377,q4 K "_law_operand" 385 384),(q4 K "_law_key" 392 391,(q4 K "_law_call" 399 398,q4 K "_law_simple" 406 405))),((q4 K "_law_lay" 413 412,q4 K "_law_plan" 418 417),(q4 K "_law_program" 425 424,(q4 K "_law_real" 432 431,q4 K "_law_rows_by" 439 438))))))))
def VV(w:World):XX:=(((((((some (some (.str y0.cf 214)),some (some (.int 08 216))),(R 34,tU ([.str "over" 218,.str "rest" 219].toArray))),((R 35,tU ([.str "put" 221,.str "do" 222,.str "new" 223,.str "get" 224,.str "call" 225].toArray)),(R 36,(tU ([.str "else" 227,.str "end" 228,.str "skip" 229].toArray),R 89)))),(((tU ([.str "give" 309,.str "end" 310].toArray),R 88),(tU ([.str "def" 305,.str "if" 306,.str "while" 307].toArray),R 49)),((some #[.type "dict",none,.dict ([kE w "give" 244 50,kE w "put" 246 51,kE w "do" 248 52,kE w "get" 251 53,kE w "set" 254 54,kE w "if" 258 55,kE w "while" 260 56].toArray) 07,([].toArray)],tU ([.int (1) 261].toArray)),(tU ([.int (1) 259].toArray),(tU ([.int (1) 255,.int (2) 256,.int (3) 257].toArray),tU ([.int (2) 252,.int (3) 253].toArray)))))),((((tU ([.int (2) 249,.int (04) 250].toArray),tU ([.int (2) 247].toArray)),(tU ([.int (1) 245].toArray),some none)),((some none,some none),(some none,(some none,some none)))),(((some none,some none),(some none,(some none,some none))),((some none,some none),(some none,(some none,R 120)))))),(((((some (some (.ref 117)),true),(fo "__init__" "Layout.__init__" Lay.jE mD3 116,true)),((true,true),(true,(true,some (some (.builtin "object.__setattr__")))))),(((true,true),(some none,some none)),((some none,some none),(some none,(some none,some none))))),((((R 186,some (some (.ref 183))),(true,fo "__init__" "Sets.__init__" iY.sf TZ 182)),((true,true),(true,(true,true)))),(((some (some (.builtin "object.__setattr__")),true),(true,(some none,some none))),((R 252,some (some (.ref 249))),(true,(fo "__init__" "Facts.__init__" Nt.nA IF 248,true))))))),((((((true,true),(true,true)),((some (some (.builtin "object.__setattr__")),true),(true,(some none,some none)))),(((some none,R 269),(some #[.type "function",none,.func (W.fnOf "net_of" "net_of" (cn Nt.cK) (bH Nt.cK) (ar Nt.cK) (.ref 264) (.none) (.none) IF none (.ref 268) (.none)),([].toArray)],true)),((true,tU ([.bool false].toArray)),(R 364,(some #[.type "function",none,.func (W.fnOf "slice_of" "slice_of" (cn Nt.bR) (bH Nt.bR) (ar Nt.bR) (.ref 357) (.none) (.none) mD8 none (.ref 363) (.none)),([].toArray)],true))))),((((true,tU ([.bool false].toArray)),(R 446,fo "law" "law" i8.nC IE 445)),((true,true),(v4 "set_of" Nt.sy 21 mD1 20,(v4 "has" iY.L5 28 mD1 27,v4 "members" iY.oA 33 mD1 32)))),(((v4 "is_name" Nm.kf 41 XM 40,v4 "is_field" Nm.lK 48 XM 47),(v4 "class_of" iY.lQ 63 XM 62,(v4 "operands" Us.lV 68 XM 67,v4 "uses" Us.C2 73 XM 72))),((v4 "makes" Nt.qp 80 XM 79,v4 "risky" Us.qq 87 XM 86),(v4 "shape" K5V.mP 103 (.str "slicewise.programs" 303) 102,(v4 "first_defs" Lay.iR 96 (.str "slicewise.programs" 303) 95,v4 "calls_of" Nt.lY 129 mD3 128)))))),(((((v4 "yes_row" Nx.oj 136 mD3 135,v4 "no_row" Nx.rO 143 mD3 142),(v4 "row_behind" Nx.iT 150 mD3 149,v4 "next_rows" Nx.jL 157 mD2 156)),((v4 "all_nexts" Nt.jQ 162 mD2 161,v4 "spread" Nt.sA 169 mD2 168),(v4 "list_of" iY.oB 209 TZ 208,(v4 "read_cells" iY.iZ 228 TZ 227,v4 "call_wants" iY.i0 235 TZ 234)))),(((v4 "wants" iY.xQ 221 TZ 220,v4 "grown" iY.xP 216 TZ 215),(v4 "makers" iY.se 197 TZ 196,(v4 "holds" Nt.x6 204 TZ 203,v4 "records_of" Nt.i4 302 IF 301))),((v4 "may_meet" Nt.lZ 295 IF 294,v4 "cell_ties" Nt.jT 288 IF 287),(v4 "frame_ties" Nt.i5 307 IF 306,(v4 "whiles_round" Nt.gz 328 IF 327,v4 "may_come_ahead" Nt.fA 321 IF 320))))),((((v4 "stop_ties" Nt.jU 314 IF 313,v4 "arrivals_of" Nt.hU 263 IF 262),(v4 "name_ties" Nt.jX 281 IF 280,v4 "ties_of" Nt.ki 276 IF 275)),((v4 "back" Nt.De 335 mD8 334,v4 "turned" Nt.sX 349 mD8 348),(v4 "forth" Nt.yj 342 mD8 341,(v4 "between" Nt.oI 356 mD8 355,v4 "_law_cell_at" fR.oJ 371 IE 370)))),(((v4 "_law_words" fR.yl 378 IE 377,v4 "_law_operand" fR.oK 385 IE 384),(v4 "_law_key" fR.Nf 392 IE 391,(v4 "_law_call" fR.s_call 399 IE 398,v4 "_law_simple" fR.tf 406 IE 405))),((v4 "_law_lay" fR.Ng 413 IE 412,v4 "_law_plan" fR.Dn 418 IE 417),(v4 "_law_program" fR.oM 425 IE 424,(v4 "_law_real" i8.Dt 432 IE 431,v4 "_law_rows_by" i8.oN 439 IE 438))))))))
def Dw(w:World)(os:OsState):HE.lookC pE TY FF (HE.eX (w.withFollow "special-get-raises" false).params) (w.withFollow "special-get-raises" false) 2681 os\VV (w.withFollow "special-get-raises" false):=by
 rw[PySem.W.Fast.te3135357915001837337]
 kernel_rfl
def HS(w:World)(os:OsState):HE.lookC pE TY FF (HE.eX (w.withFollow "special-get-raises" true).params) (w.withFollow "special-get-raises" true) 2681 os\VV (w.withFollow "special-get-raises" true):=by
 rw[PySem.W.Fast.te3135357915001837337]
 kernel_rfl
def runC(w:World)(os:OsState):HE.lookC pE TY FF (HE.eX (w).params) (w) 2681 os\VV (w) :=
 W.byRow2 "special-get-raises" (P:=λw=>∀os,HE.lookC pE TY FF (HE.eX (w).params) (w) 2681 os\VV (w)) Dw HS w os
abbrev KE(w:World):qaf:=HE.Kf TY (HE.wI pE 6042 w)
abbrev dE:DefRec:=HE.adg i8.nC
theorem hd:PySem.W.LeftO pE qE q_ (HE.SI qE [] []) (λs=>TY.map s.heap.get?) (λw=>TY.map (HE.wI pE 6042 w)) 6042/\∀w,FF (KE w)=VV w:=HE.head (p:=pE) (q:=qE) (loose:=q_) (lv:=[]) (R:=[]) (as:=TY) (N:=6042) (M:=2681) (F:=FF) (v:=VV) (by kernel_rfl) 9 (λs=>by kernel_rfl) 9 afT afU runC
def XO{l:PySem.W.OpenLaw}{fa:Addr}(X:K.In h)(G:h.Ns mainGlobals mg)(hfa:mg "law"\.ref fa)(hF:FF K=VV w) :
  ∃fd:FuncData,(∀(s:Shared)(v:Value),BindsTo s fd #[[v],[]] [("_law_script",v)])/\∀base:Heap,K.In base->base.Ns mainGlobals mg->eD l.prog w K mg base iA 11 fa fd qbe (bQ K 1 i8.RH):=by
 have Q {β:Type} (f:XX->β):=aaa f hF;have k5:=Bu X G (Q (·.1.1.2.1.1.2.2) :);have XQ:=Bu X G (Q (·.1.1.2.1.2.1.1) :);have XR:=Bu X G (Q (·.1.1.2.1.2.1.2) :);have RK:=Bu X G (Q (·.1.1.2.1.2.2.1) :);have jY:=Bu X G (Q (·.1.1.2.1.2.2.2.1) :);have XS:=Bu X G (Q (·.1.1.2.1.2.2.2.2) :);have A5:=Bu X G (Q (·.1.1.2.2.1.1.1) :);have NC:=Bu X G (Q (·.1.1.2.2.1.1.2) :);have gC:=Bu X G (Q (·.1.1.2.2.1.2.1) :);have yn:=Bu X G (Q (·.1.1.2.2.1.2.2.1) :);have dP:=Bu X G (Q (·.1.1.2.2.1.2.2.2) :);have XT:=Bu X G (Q (·.1.1.2.2.2.1.1) :);have XU:=Bu X G (Q (·.1.1.2.2.2.1.2) :);have km:=Bu X G (Q (·.1.1.2.2.2.2.1) :);have ND:=Bu X G (Q (·.1.1.2.2.2.2.2.1) :);have e:=hfa.symm.trans (Bw X G (Q (·.2.1.2.1.1.2.1) :));cases e;have aj:Lay.uw K 120:=#[#[(Q (·.1.2.1.1.2.1.2) :),(Q (·.1.2.1.1.2.2.1) :),(Q (·.1.2.1.1.2.2.2.1) :),(Q (·.1.2.1.1.2.2.2.2) :)],(Q (·.1.2.1.2.1.2.1) :),(Q (·.1.2.1.2.1.2.2) :),(Q (·.1.2.1.2.2.1.1) :),(Q (·.1.2.1.2.2.1.2) :),(Q (·.1.2.1.2.2.2.1) :),(Q (·.1.2.1.2.2.2.2.1) :),(Q (·.1.2.1.2.2.2.2.2) :)];have vP:=qJ (st:=Lay.jE) (Q (·.1.2.1.1.1.2.1) :) (Q (·.1.2.1.1.1.2.2) :) (Q (·.1.2.1.1.2.1.1) :);have HU:Dc K mg "Layout" "Layout.__init__" Lay.jE qaw 120 117 _:=#[vP,Bw X G (Q (·.1.1.2.2.2.2.2.2) :),vP.binds (λ_ _ _ _ _ _=>(eM.bn2 λ_ _=>rfl)),#[(Q (·.1.2.1.2.1.1.1) :),(Q (·.1.2.1.1.1.1.1) :),(Q (·.1.2.1.1.1.1.2) :),(Q (·.1.2.1.2.1.1.2) :)]];have dC:iY.StC K 186:=#[#[(Q (·.1.2.2.1.2.2.1) :),(Q (·.1.2.2.1.2.2.2.1) :),(Q (·.1.2.2.1.2.2.2.2) :),(Q (·.1.2.2.2.1.1.1) :)],(Q (·.1.2.2.2.1.2.2.1) :),(Q (·.1.2.2.2.1.2.2.2) :)];have Fz:=qJ (st:=iY.sf) (Q (·.1.2.2.1.1.2.2) :) (Q (·.1.2.2.1.2.1.1) :) (Q (·.1.2.2.1.2.1.2) :);have RL:Dc K mg "Sets" "Sets.__init__" iY.sf qaD 186 183 _:=#[Fz,Bw X G (Q (·.1.2.2.1.1.1.1) :),Fz.binds (λ_ _ _ _ _ _=>(eM.bn3 λ_ _ _=>rfl)),#[(Q (·.1.2.2.2.1.1.2) :),(Q (·.1.2.2.1.1.1.2) :),(Q (·.1.2.2.1.1.2.1) :),(Q (·.1.2.2.2.1.2.1) :)]];have br:Nt.YC K 252:=#[#[(Q (·.2.1.1.1.1.1.2) :),(Q (·.2.1.1.1.1.2.1) :),(Q (·.2.1.1.1.1.2.2) :),(Q (·.2.1.1.1.2.1.1) :)],(Q (·.2.1.1.1.2.2.2.1) :),(Q (·.2.1.1.1.2.2.2.2) :),(Q (·.2.1.1.2.1.1.1) :)];have A6:=qJ (st:=Nt.nA) (Q (·.1.2.2.2.2.2.2.1) :) (Q (·.1.2.2.2.2.2.2.2) :) (Q (·.2.1.1.1.1.1.1) :);have NF:Dc K mg "Facts" "Facts.__init__" Nt.nA qaw 252 249 _:=#[A6,Bw X G (Q (·.1.2.2.2.2.1.1) :),A6.binds (λ_ _ _ _ _ _=>(eM.bn2 λ_ _=>rfl)),#[(Q (·.2.1.1.1.2.1.2) :),(Q (·.1.2.2.2.2.1.2) :),(Q (·.1.2.2.2.2.2.1) :),(Q (·.2.1.1.1.2.2.1) :)]];have M5:K5V.Mg5 K mg:=#[jY,gC,dP,k5,XQ,RK,A5,yn,NC,#[89,Bw X G (Q (·.1.1.1.1.2.2.2.2) :),λH=>.inr #[_,_,_,(Q (·.1.1.1.2.1.1.1) :),9,9,Gen.wJ 9,.cons #[_,9] (.cons #[_,9] (.nil))]],#[88,Bw X G (Q (·.1.1.1.2.1.1.2) :),λH=>.inr #[_,_,_,(Q (·.1.1.1.2.1.2.1) :),9,9,Gen.wJ 9,.cons #[_,9] (.cons #[_,9] (.cons #[_,9] (.nil)))]]];have MF:Lay.MgF mg:=#[dP];have MLy:Lay.adH mg:=#[jY,XT];have N2:Nm.Mg2 mg:=#[#[_,Bw X G (Q (·.1.1.1.1.1.1.1) :)],#[_,Bw X G (Q (·.1.1.1.1.1.1.2) :)],k5,XR,jY,XS];have MU:Us.MgU w K mg:=#[yn,km,ND,#[49,Bw X G (Q (·.1.1.1.2.1.2.2) :),#[_,_,(Q (·.1.1.1.2.2.1.1) :),(by first|rfl|decide),.cons #[rfl,#[_,rfl],.ref 50,rfl,λ_ _=>cj (vs:=[V.int 1]) (.inr #[_,_,_,(Q (·.1.1.2.1.1.2.1) :),9,9,Gen.wJ 9,.cons #[_,9] (.nil)]) (aD.cons bw (aD.nil))] (.cons #[9,#[_,9],.ref 51,9,λ_ _=>cj (vs:=[V.int 2]) (.inr #[_,_,_,(Q (·.1.1.2.1.1.1.2) :),9,9,Gen.wJ 9,.cons #[_,9] (.nil)]) (aD.cons bw (aD.nil))] (.cons #[9,#[_,9],.ref 52,9,λ_ _=>cj (vs:=[V.int 2,V.int 04]) (.inr #[_,_,_,(Q (·.1.1.2.1.1.1.1) :),9,9,Gen.wJ 9,.cons #[_,9] (.cons #[_,9] (.nil))]) (aD.cons bw (aD.cons bw (aD.nil)))] (.cons #[9,#[_,9],.ref 53,9,λ_ _=>cj (vs:=[V.int 2,V.int 3]) (.inr #[_,_,_,(Q (·.1.1.1.2.2.2.2.2) :),9,9,Gen.wJ 9,.cons #[_,9] (.cons #[_,9] (.nil))]) (aD.cons bw (aD.cons bw (aD.nil)))] (.cons #[9,#[_,9],.ref 54,9,λ_ _=>cj (vs:=[V.int 1,V.int 2,V.int 3]) (.inr #[_,_,_,(Q (·.1.1.1.2.2.2.2.1) :),9,9,Gen.wJ 9,.cons #[_,9] (.cons #[_,9] (.cons #[_,9] (.nil)))]) (aD.cons bw (aD.cons bw (aD.cons bw (aD.nil))))] (.cons #[9,#[_,9],.ref 55,9,λ_ _=>cj (vs:=[V.int 1]) (.inr #[_,_,_,(Q (·.1.1.1.2.2.2.1) :),9,9,Gen.wJ 9,.cons #[_,9] (.nil)]) (aD.cons bw (aD.nil))] (.cons #[9,#[_,9],.ref 56,9,λ_ _=>cj (vs:=[V.int 1]) (.inr #[_,_,_,(Q (·.1.1.1.2.2.1.2) :),9,9,Gen.wJ 9,.cons #[_,9] (.nil)]) (aD.cons bw (aD.nil))] (.nil))))))),by show ([("give":Str),("put":Str),("do":Str),("get":Str),("set":Str),("if":Str),("while":Str)]).Nodup;decide +kernel]],#[34,Bw X G (Q (·.1.1.1.1.1.2.1) :),λH=>.inr #[_,_,_,(Q (·.1.1.1.1.1.2.2) :),9,9,Gen.wJ 9,.cons #[_,9] (.cons #[_,9] (.nil))]]];have MX:Nx.S6 mg:=#[km,ND];have MP:iY.MgP mg:=#[dP,km,gC,NC];have MN:Nt.S6 K mg:=#[yn,jY,gC,dP,#[35,Bw X G (Q (·.1.1.1.1.2.1.1) :),λH=>.inr #[_,_,_,(Q (·.1.1.1.1.2.1.2) :),9,9,Gen.wJ 9,.cons #[_,9] (.cons #[_,9] (.cons #[_,9] (.cons #[_,9] (.cons #[_,9] (.nil)))))]]];have MB:Nt.MgB mg:=#[dP];have MC:Nt.MgC K mg:=#[km,jY,gC,#[36,Bw X G (Q (·.1.1.1.1.2.2.1) :),λH=>.inr #[_,_,_,(Q (·.1.1.1.1.2.2.2.1) :),9,9,Gen.wJ 9,.cons #[_,9] (.cons #[_,9] (.cons #[_,9] (.nil)))]]];have MS:Nt.MgS mg:=#[jY,gC,dP];have MG:fR.Xu mg:=#[jY,gC,A5,XU];have ML:i8.MgL mg:=#[jY,gC];have F:=qJ (st:=i8.nC) (Q (·.2.1.2.1.1.2.2) :) (Q (·.2.1.2.1.2.1.1) :) (Q (·.2.1.2.1.2.1.2) :);have DL:Df K mg "law" i8.nC qbe 446 _:=#[F,hfa,F.binds (λ_ _ _ _ _ _=>aeP λ_=>rfl)];refine#[W.fnOf "law" "law" (cn i8.nC) (bH i8.nC) (ar i8.nC) .none (.none) (.none) (.str "law_slicewise_k44_slices_of_several_sets" 726) none (.ref 445) (.none),λs v=>.of_eq 9,λbase _ _=>?_];have zT:Tk l.prog w base:=trivial;have tH:=dN zT X G (Q (·.2.1.2.1.2.2.1) :) λD=>Nt.Hn D;have NG:=dN zT X G (Q (·.2.1.2.1.2.2.2.1) :) λD=>iY.W5 D;have kn:=dM X G (Q (·.2.1.2.1.2.2.2.2) :) λD=>iY.CU D MP NG;have oO:=dN zT X G (Q (·.2.1.2.2.1.1.1) :) λD=>Nm.Qu D N2;have tI:=dM X G (Q (·.2.1.2.2.1.1.2) :) λD=>Nm.z6 D N2 oO;have tJ:=dM X G (Q (·.2.1.2.2.1.2.1) :) λD=>iY.Ao D tI;have Dx:=dM X G (Q (·.2.1.2.2.1.2.2.1) :) λD=>Us.Ay D MU tI;have XW:=dM X G (Q (·.2.1.2.2.1.2.2.2) :) λD=>Us.Q5 D MU Dx oO;have FC:=dN zT X G (Q (·.2.1.2.2.2.1.1) :) λD=>Nt.Md D MN;have RM:=dM X G (Q (·.2.1.2.2.2.1.2) :) λD=>Us.Ml D MU oO;have RN:=dN zT X G (Q (·.2.1.2.2.2.2.1) :) λD=>K5V.KZ D M5;have yo:=dN zT X G (Q (·.2.1.2.2.2.2.2.1) :) λD=>Lay.uu D MF;have A7:=Lay.GY HU MLy aj RN yo;have Dy:=dN zT X G (Q (·.2.1.2.2.2.2.2.2) :) λD=>Nt.AG D MB aj;have HV:=dN zT X G (Q (·.2.2.1.1.1.1.1) :) λD=>Nx.Cw D;have NH:=dN zT X G (Q (·.2.2.1.1.1.1.2) :) λD=>Nx.G8 D aj;have yp:=dN zT X G (Q (·.2.2.1.1.1.2.1) :) λD=>Nx.uA D aj;have A8:=dM X G (Q (·.2.2.1.1.1.2.2) :) λD=>Nx.xv D MX aj HV NH yp;have A9:=dM X G (Q (·.2.2.1.1.2.1.1) :) λD=>Nt.xX D MN aj A8;have NI:=dM X G (Q (·.2.2.1.1.2.1.2) :) λD=>Nt.Ho D MN NG tH FC;have XY:=iY.QW (P:=l.prog) (w:=w) (base:=base) RL dC;have HW:=dN zT X G (Q (·.2.2.1.1.2.2.1) :) λD=>iY.CW D MP;have yq:=dM X G (Q (·.2.2.1.1.2.2.2.1) :) λD=>iY.uD D dC kn;have yr:=dN zT X G (Q (·.2.2.1.1.2.2.2.2) :) λD=>iY.uE D MP aj;have RO:=dM X G (Q (·.2.2.1.2.1.1.1) :) λD=>iY.L9 D aj dC yq tJ kn yr;have RP:=dM X G (Q (·.2.2.1.2.1.1.2) :) λD=>iY.Mt D aj MP RO;have NJ:=dM X G (Q (·.2.2.1.2.1.2.1) :) λD=>iY.Hs D aj dC A7 XY RP HW;have RQ:=dN zT X G (Q (·.2.2.1.2.1.2.2.1) :) λD=>Nt.MJ D;have yt:=dM X G (Q (·.2.2.1.2.1.2.2.2) :) λD=>Nt.uI D br aj RQ;have Dz:=dM X G (Q (·.2.2.1.2.2.1.1) :) λD=>Nt.AI D yt;have A_:=dM X G (Q (·.2.2.1.2.2.1.2) :) λD=>Nt.yc D MB br aj tJ Dz;have yu:=dM X G (Q (·.2.2.1.2.2.2.1) :) λD=>Nt.uJ D aj Dy;have tK:=dM X G (Q (·.2.2.1.2.2.2.2.1) :) λD=>Nt.p7 D aj tH;have oP:=dM X G (Q (·.2.2.1.2.2.2.2.2) :) λD=>Nt.ny D aj tK;have Ba:=dM X G (Q (·.2.2.2.1.1.1.1) :) λD=>Nt.yd D MB aj RM oP;have uL:=dM X G (Q (·.2.2.2.1.1.1.2) :) λD=>Nt.sF D MN aj A9 FC NI;have Bb:=dM X G (Q (·.2.2.2.1.1.2.1) :) λD=>Nt.yh D br aj XW NG;have HX:=dM X G (Q (·.2.2.2.1.1.2.2) :) λD=>Nt.Dd D MC br aj Bb A_ yu Ba;have RS:=Nt.MV NF br aj A7 NJ uL;have HY:C_ K "net_of" "net_of" Nt.cK 269 (W.fnOf "net_of" "net_of" (cn Nt.cK) (bH Nt.cK) (ar Nt.cK) (.ref 264) (.none) (.none) (.str "slicewise.net" 542) none (.ref 268) (.none)):=#[#[_,_,_,_,_,_,_,_,_,_,9,(Q (·.2.1.1.2.1.2.1) :),(Q (·.2.1.1.2.1.2.2) :)],(Q (·.2.1.1.2.2.1.1) :)];have HZ:Binds K (W.fnOf "net_of" "net_of" (cn Nt.cK) (bH Nt.cK) (ar Nt.cK) (.ref 264) (.none) (.none) (.str "slicewise.net" 542) none (.ref 268) (.none)) qaQ []:=qr (m:=2) 9 (Q (·.2.1.1.2.2.1.2) :) 9 9 (eM.tG λ_=>(eM.tG λ_=>(eM.NB #[_,9,9])));have H_:Binds K (W.fnOf "net_of" "net_of" (cn Nt.cK) (bH Nt.cK) (ar Nt.cK) (.ref 264) (.none) (.none) (.str "slicewise.net" 542) none (.ref 268) (.none)) qaQ [.bool false]:=qr (m:=1) 9 (Q (·.2.1.1.2.2.1.2) :) 9 9 (eM.tG λ_=>(eM.NB #[_,9,9]));have Bc:=Nt.HC (P:=l.prog) (w:=w) (base:=base) HY (Bw X G (Q (·.2.1.1.2.1.1.2) :)) HZ H_ MS RS tH HX;have DA:=dM X G (Q (·.2.2.2.1.2.1.1) :) λD=>Nt.Rz D MS kn;have NK:=dM X G (Q (·.2.2.2.1.2.1.2) :) λD=>Nt.HG D MS kn;have RT:=dM X G (Q (·.2.2.2.1.2.2.1) :) λD=>Nt.Nc D MS DA NK;have Ia:=dM X G (Q (·.2.2.2.1.2.2.2.1) :) λD=>Nt.Dl D RT DA;have Bd:C_ K "slice_of" "slice_of" Nt.bR 364 (W.fnOf "slice_of" "slice_of" (cn Nt.bR) (bH Nt.bR) (ar Nt.bR) (.ref 357) (.none) (.none) (.str "slicewise.slices" 676) none (.ref 363) (.none)):=#[#[_,_,_,_,_,_,_,_,_,_,9,(Q (·.2.1.1.2.2.2.2.1) :),(Q (·.2.1.1.2.2.2.2.2) :)],(Q (·.2.1.2.1.1.1.1) :)];have Be:Binds K (W.fnOf "slice_of" "slice_of" (cn Nt.bR) (bH Nt.bR) (ar Nt.bR) (.ref 357) (.none) (.none) (.str "slicewise.slices" 676) none (.ref 363) (.none)) qaT []:=qr (m:=3) 9 (Q (·.2.1.2.1.1.1.2) :) 9 9 (eM.tG λ_=>(eM.tG λ_=>(eM.tG λ_=>(eM.NB #[_,9,9]))));have Bf:Binds K (W.fnOf "slice_of" "slice_of" (cn Nt.bR) (bH Nt.bR) (ar Nt.bR) (.ref 357) (.none) (.none) (.str "slicewise.slices" 676) none (.ref 363) (.none)) qaT [.bool false]:=qr (m:=2) 9 (Q (·.2.1.2.1.1.1.2) :) 9 9 (eM.tG λ_=>(eM.tG λ_=>(eM.NB #[_,9,9])));have DB:=Nt.AZ (P:=l.prog) (w:=w) (base:=base) Bd (Bw X G (Q (·.2.1.1.2.2.2.1) :)) Be Bf DA Bc;have tM:=dN zT X G (Q (·.2.2.2.1.2.2.2.2) :) λD=>fR.Dp D MG;have yw:=dN zT X G (Q (·.2.2.2.2.1.1.1) :) λD=>fR.Ni D MG;have dD:=dN zT X G (Q (·.2.2.2.2.1.1.2) :) λD=>fR.Dq D;have DC:=dM X G (Q (·.2.2.2.2.1.2.1) :) λD=>fR.Xv D dD;have Bg:=dM X G (Q (·.2.2.2.2.1.2.2.1) :) λD=>fR.RD D MG dD;have uM:=dM X G (Q (·.2.2.2.2.1.2.2.2) :) λD=>fR.HL D dD DC Bg;have DD:=dM X G (Q (·.2.2.2.2.2.1.1) :) λD=>fR.XB D MG dD uM;have Bh:=dN zT X G (Q (·.2.2.2.2.2.1.2) :) λD=>fR.RE D MG;have tO:=dM X G (Q (·.2.2.2.2.2.2.1) :) λD=>fR.Ds D MG dD DD;have Bi:=dN zT X G (Q (·.2.2.2.2.2.2.2.1) :) λD=>i8.RG D ML;have tP:=dN zT X G (Q (·.2.2.2.2.2.2.2.2) :) λD=>i8.Dv D ML;exact i8.XH DL ML tM yw Bh tO Bi tP DB Bc Ia
def walk{l:PySem.W.OpenLaw}{q:Program}{loose:χ}{XP:(qae)->Heap->Prop}{d:DefRec}{K:World->qaf}(hn:l.most\63)(hdf:d.params.defaults=[])(F:∀(w:World) (mg:qae) (fa:Addr) (h:Heap),(K w).In h->h.Ns mainGlobals mg->mg d.name\.ref fa ->
    ∃fd:FuncData,(∀(s:Shared) (u:Value),BindsTo s fd #[[u],[]] [("_law_script",u)])/\∀base:Heap,(K w).In base->base.Ns mainGlobals mg->eD l.prog w (K w) mg base iA 11 fa fd qbe (bQ (K w) 1 i8.RH)) :
  PySem.W.WalkO q loose XP (λw h=>(K w).In h) l.row.toRowW d [] (λf vs=>PySem.call f vs):=by
 refine Att.yT hn hdf λw s₀ s₁ mg mb fa o pm cd doc a vs ns G Y ho hd fW ZE U3 hints hlen hg=>?_;let(fd,hb,hF):=F w mg fa _ Y G.T.g ZE;exact Jl (CX:=iA) (sp:=bQ (K w) 1 i8.RH) (k:=11) Y G.T.g G.T.b G.T.builtins G.T.nolimit hg U3 hints (kJ hlen 15) #[9,by decide,by decide] hF hb (λH _ hS=>
  #[[.lst (ns.map .int)],[],[],λ_ r=>r=.vw (.bl true),NS,λ_ z=>(nomatch z),λ_ z=>(nomatch z),iM 9 (aD.cons (by
     simp only[At];refine#[a,ns.map V.int,9,hS.imp (λz=>#[z,λm=>nomatch m]) id,?_];clear hS;clear hints hlen;induction ns with
     |nil=>exact aD.nil
     |cons n ns ih=>exact aD.cons bw ih) aD.nil),#[ns,9,hlen,9],λus r hr v H' _ z=>by
     subst hr;have:=z.1;simpa only[At] using this]) λ_ _ _ z=>z
end eM
open PySem PySem.W PyProof.Rows
set_option maxRecDepth 100000 in
set_option maxHeartbeats 0 in
theorem PySem.Challenge.cw_slicewise_k44_slices_of_several_sets_holds : PySem.Challenge.rw_slicewise_k44_slices_of_several_sets.Holds := by
 w_on
 refine PySem.W.holds_law eM.VJ λVJ=>?_;refine PySem.W.holds_openX (q:=eM.qE) (loose:=eM.q_) (Xt:=HE.SI eM.qE [] []) (XP:=PySem.W.XL eM.qE []) (d:=eM.dE) (kwd:=[]) (N:=6042) eM.hd.1 (λs e=>PySem.W.xl_of s (Bool.and_eq_true_iff.mp e).1) PySem.W.XL.keeps (by kernel_rfl) (by kernel_rfl) (by kernel_rfl) (λs e=>PySem.W.recFacts_of (Bool.and_eq_true_iff.mp e).2) (by kernel_rfl) VJ (by kernel_rfl) #[9,9,9,9,9,by decide +kernel] ?hw ?hc
 (case hw=>w_witness2)
 exact HE.Ki (eM.walk (l:=PySem.Challenge.rw_slicewise_k44_slices_of_several_sets) (K:=eM.KE) 9 9 (λw mg fa h KX G ZE=>eM.XO KX G ZE (eM.hd.2 w)))
