import PyProof.Rows.All
import Wide.All
import OpenK.AllK
import Wide.FinOn
import Lean
import PyProof.EqAt
import PyProof.EqKinds
import PyProof.TupleCall
import PyProof.NeKinds
import PyProof.Rows.SumAny
import PyProof.StrBlockL
import PyProof.StrBlockI
import PyProof.FitsReplace
import PyProof.Rows.SeqMore
import PyProof.Rows.TupAdd
import PyProof.Draws
import PyProof.ZipIter
import OpenK.ZGo
import PyProof.ListNew
import PyProof.Rows.SortStr
import PyProof.Rows.SortWalk
import PyProof.IsRules
import KE.KDictLaws
import PyProof.DictWalks
import PyProof.WalkInts
import PyProof.Rows.SetFrom
import PyProof.SetRoads
import PyProof.Rows.SortShellK
import PyProof.Rows.SortKeyStr
import PyProof.Rows.SortRuns
import PyProof.Rows.SortPure
import PyProof.DictItems
import PyProof.Rows.DictItemsRows
import KE.KPairComp
import PyProof.Rows.BitMore
import KE.KDictOf
import PyProof.CollectIter
import PyProof.SeqRoads2
import PySem.Challenge.RW_slicewise_k25_the_least_closed_table
set_option Elab.async false
set_option linter.all false
set_option genSizeOf false
set_option genInjectivity false
set_option compiler.extract_closed false
set_option genSizeOfSpec false
set_option bootstrap.genMatcherCode false
set_option maxRecDepth 100000
set_option maxHeartbeats 8000000
open Lean in
def pT(n:Nat)(s:Syntax):MacroM (TSyntax `rcasesPat):=match n with
 |0=>Macro.throwUnsupported
 |n+1=>match s with
  |`(($a,$b,*))=>do
   let l←(List.toArray (a::b.getElems.toList)).mapM (λx=>pT n x.raw)
   `(rcasesPat|⟨$l,*⟩)
  |`(_)=>`(rcasesPat|_)
  |_=>if s.isIdent then `(rcasesPat|$(.mk s):ident) else Macro.throwUnsupported
local macro_rules|`(tactic|let $p:term:=$e)=>do `(tactic|obtain $(←pT 9 p):rcasesPat:=$e)
local macro_rules|`(tactic|show $e)=>`(tactic|refine $e)
local macro_rules|`(tactic|calc $e:term)=>`(tactic|exact $e)
local macro_rules|`($a\$b)=>`($a=some $b)
local macro_rules(kind:=Lean.Parser.Command.declaration)|s=>do
 if s.getPos?.isNone then Lean.Macro.throwUnsupported
 let q←`(command|noncomputable def x:=0)
 return (if s[0][4].getNumArgs=0&&(s[1].getKind==``Lean.Parser.Command.definition||s[1].getKind==``Lean.Parser.Command.abbrev) then s.setArg 0 (s[0].setArg 4 q.raw[0][4]) else s).rewriteBottomUp (λx=>x.setInfo .none)
local macro_rules|`(#[$x,*])=>`(⟨$x,*⟩)
local macro_rules|`(())=>`(by lia)
set_option hygiene false
local macro_rules|`(9)=>`(rfl)
local macro_rules|`(8)=>`(s.heap.objs.size)
local macro_rules|`(7)=>`((.inl rfl))
local macro_rules|`(6)=>`(rs.length)
local macro_rules|`(5)=>`((by decide))
local macro_rules|`(4)=>`((by simp))
local macro_rules|`(3)=>`(X.env)
local macro_rules|`(14)=>`((ν af))
local macro_rules|`(15)=>`((model prog w))
local macro_rules|`(16)=>`((model X.prog X.w))
local macro_rules|`(17)=>`((by decide +kernel))
local macro_rules|`(18)=>`((by rfl))
local macro_rules|`(19)=>`(ts.length)
local macro_rules|`(22)=>`((bE rs))
local macro_rules|`(23)=>`((hr.mono (by decide)))
local macro_rules|`(24)=>`((.ref s.heap.objs.size))
local macro_rules|`(27)=>`(xs.length)
local macro_rules|`(28)=>`((bC X ts sc cl C fp s H))
local macro_rules|`(29)=>`(X.env.scope)
local macro_rules|`(34)=>`(X.prog)
local macro_rules|`(35)=>`((ar (ae 04) (ν af)))
local macro_rules|`(36)=>`((s.heap.objs.size+1))
local macro_rules|`(39)=>`((if isNm m.1=true then G.a1 else G.a2))
local macro_rules|`(40)=>`((υ (cq (aa (ai 04) (aa (υ (ar (ae 03) (ν af))) aj)))))
local macro_rules|`(41)=>`((aO.refl H))
local macro_rules|`(42)=>`(s.heap)
local macro_rules|`(48)=>`((.ListComp elt [#[tg,iter,ifs,0]] sc pos))
local macro_rules|`(50)=>`((rs.map aV))
local macro_rules|`(51)=>`((.Name x p))
local macro_rules|`(52)=>`(s1.heap.objs.size)
abbrev ζ:=@PySem.wpAny_bind
abbrev η:=@PySem.wpAny_pure
abbrev θ:=@if_neg
abbrev ι:=@if_pos
abbrev μ:=@PyProof.Rows.wpS_bind
abbrev ξ:=@PyProof.Rows.wpS_pure
abbrev ο:=@decide_eq_true
abbrev π:=@PySem.sizeLine_eq
abbrev ς:=@decide_eq_false
abbrev χ:=@of_decide_eq_true
abbrev ψ:=@PySem.wpAny_call_entry
abbrev Γ:=@PySem.wpAny_callSpecial?_slot
abbrev Δ:=@PySem.wpAny_newObj_type
abbrev Θ:=@PySem.wpAny_setField_rec
abbrev Λ:=@PySem.wpAny_field
abbrev Ξ:=@PySem.wpAny_truthy_bool
abbrev Ψ:=@or_false
abbrev Ω:=@PySem.wpAny_mono
abbrev fv:=@congrArg
abbrev rk:=@PySem.wpAny_holding
abbrev aaa:=@beq_eq_false_iff_ne
abbrev aab:=@PySem.wpAny_typeNameOfWhole_itemiter
abbrev aac:=@PyProof.Rows.wpS_forRange
abbrev aad:=@PySem.wpAny_seqItems
abbrev aae:=@PySem.wpAny_typeNameOfWhole_keyiter
abbrev aaf:=@PyProof.Rows.bitNot_nonneg
abbrev aag:=@PySem.wpAny_rule
abbrev aah:=@PySem.wpAny_typeNameOf_itemiter
abbrev aai:=@PySem.wpAny_passesOwn
abbrev aaj:=@decide_eq_true_eq
abbrev aak:=@PySem.wpAny_dictEntries
abbrev aal:=@PySem.wpAny_getItem_str_slice
abbrev aam:=@PySem.wpAny_typeOf
abbrev aan:=@PyProof.Rows.wpS_modify
abbrev aao:=@PySem.wpAny_dictEpoch
abbrev aap:=@PySem.wpAny_attempt
abbrev aaq:=@PySem.codeAny_mono
abbrev aar:=@PyProof.Rows.bitNot_bitNot
abbrev aas:=@PySem.codeAny_builtin
abbrev aat:=@PySem.wpAny_Call_Name_kw
abbrev aau:=@PySem.tupleKind_room_in1
abbrev aav:=@PySem.wpAny_pyIter_list
abbrev aaw:=@PySem.wpAny_setField
abbrev aax:=@PyProof.Rows.wpS_mono
abbrev aay:=@PySem.wpAny_isOneOf_itemiter
abbrev aaz:=@PySem.wpAny_isInstance
abbrev aaA:=@PySem.wpAny_of_eq
abbrev aaB:=@PySem.wpAny_updateSeq_pair
abbrev aaC:=@PySem.wpAny_execs_nil
abbrev aaD:=@PySem.post_val_or_str
abbrev aaE:=@beq_iff_eq
abbrev aaF:=@PySem.typeIs_int
abbrev aaG:=@PySem.wpAny_fieldsOf
abbrev aaH:=@PySem.wpAny_onRaise
abbrev aaI:=@PySem.plainId_quiet
abbrev aaJ:=@if_false
abbrev aaK:=@if_true
variable{w:PySem.World}{s s':PySem.Shared}{x y qual:PySem.Str}{n i j m t' ep:Nat}{a f C dx it:PySem.Addr}{A:PySem.Around}{P prog:PySem.Program}{e b c iter:PySem.Expr}{fd:PySem.FuncData}{base h h':PySem.Heap}{α β:Type}{p apos bF dj pos' p2 tp:PySem.Pos}{u:PySem.Value}{O:HD}{o:PySem.Obj}{B:Prop}{sc:PySem.Scope}
abbrev HD:=List (Option PySem.Addr)
abbrev qaa:=List (PySem.Addr×PySem.Obj)
abbrev qad:=PySem.Value->PySem.Shared->Prop
abbrev qae:=PySem.Str->Option PySem.Value
abbrev qaf:=PySem.W.Frag
abbrev qag:=List PySem.Value
abbrev zm:=List PySem.Addr
abbrev ω:=List PySem.Str
abbrev qan:=List Int
abbrev qao:=List Nat
abbrev qap:=List PySem.Expr
abbrev qaq:=List PySem.Stmt
abbrev qar:=Option PySem.Addr
abbrev qav:List PySem.Str:=["program"]
abbrev qaw:List PySem.Str:=["self","program"]
abbrev qax:List PySem.Str:=["thing"]
abbrev qay:List PySem.Str:=["rows","row"]
abbrev qaz:List PySem.Str:=["self","names","cells"]
abbrev qaA:List PySem.Str:=["sets","rows","kind"]
abbrev qaB:List PySem.Str:=["layout","names","place"]
abbrev qaC:List PySem.Str:=["layout","sets","place"]
abbrev qaD:List PySem.Str:=["layout","sets"]
abbrev qaE:List PySem.Str:=["program","table"]
abbrev qaF:List PySem.Str:=["_law_script","_law_k"]
abbrev qaG:List PySem.Str:=["_law_cell","_law_many"]
abbrev qaH:List PySem.Str:=["_law_number","_law_words_here"]
abbrev qaI:List PySem.Str:=["_law_number","_law_name","_law_words_here","_law_later"]
abbrev qaJ:List PySem.Str:=["_law_number","_law_words_here","_law_later"]
abbrev qaK:List PySem.Str:=["_law_rows","_law_stack","_law_cell","_law_words_here","_law_later"]
abbrev qaL:List PySem.Str:=["_law_cell","_law_words_here"]
abbrev qaM:List PySem.Str:=["_law_cells","_law_words_here","_law_plan_here"]
abbrev qaN:List PySem.Str:=["_law_key_here"]
abbrev qaO:List PySem.Str:=["_law_program_here"]
abbrev qaP:List PySem.Str:=["_law_program_here","_law_home","_law_row"]
abbrev qaQ:List PySem.Str:=["_law_names","_law_cells","_law_origin"]
abbrev qaR:List PySem.Str:=["_law_names","_law_goal"]
abbrev qaS:List PySem.Str:=["_law_row"]
abbrev qaT:List PySem.Str:=["_law_names","_law_cells","_law_move"]
abbrev qaU:List PySem.Str:=["_law_names","_law_cells","_law_moves_here"]
abbrev qaV:List PySem.Str:=["_law_names","_law_cells"]
abbrev qaW:List PySem.Str:=["_law_script","_law_program_here","_law_words_here"]
abbrev qaX:List PySem.Str:=["table","home","name"]
abbrev qaY:List PySem.Str:=["table","rows","kind"]
abbrev qaZ:List PySem.Str:=["_law_script"]
abbrev fY(x:PySem.Str):Prop:=(x==("__debug__":PySem.Str))=false
abbrev qy(x:PySem.Str):Prop:=(x==("__classdict__":PySem.Str))=false
abbrev bN:=@List.length_map
abbrev dA:=@List.getElem?_eq_some_iff
abbrev de:=@PySem.Heap.get?_push_of_some
abbrev dX:=@List.mem_of_getElem?
abbrev gq:=@List.getElem?_eq_getElem
abbrev cT:=@List.mem_cons
abbrev d_:=@List.mem_cons_self
abbrev dQ:=@List.getElem?_map
abbrev fW:=@List.mem_append_left
abbrev cD:=@Nat.le_refl
abbrev fZ:=@List.mem_cons_of_mem
abbrev gE:=@List.mem_append_right
abbrev eh:=@List.not_mem_nil
abbrev f6:=@List.mem_singleton
abbrev hW:=@PySem.Heap.get?_push_size
abbrev fu:=@List.mem_append
abbrev dB:=@PySem.Heap.lt_size
abbrev fj:=@List.map_cons
abbrev jq:=@Bool.false_ne_true
abbrev iN:=@List.size_toArray
abbrev nN:=@List.getElem?_append_left
abbrev ni:=@PySem.F.slot_list_append
abbrev nq:=@PySem.F.type_list_append
abbrev iO:=@Bool.and_eq_true
abbrev kq:=@List.length_append
abbrev oq:=@Int.eq_ofNat_of_zero_le
abbrev sU:=@List.getElem?_append_right
abbrev gr:=@Nat.ne_of_lt
abbrev kA:=@Int.toNat_natCast
abbrev gH:=@List.mem_map
abbrev gJ:=@Nat.zero_le
abbrev kr:=@PySem.PassesOwn.never
abbrev jS:=@Nat.le_trans
abbrev rp:=@List.filterMap_cons
abbrev qH:=@Nat.lt_of_lt_of_le
abbrev wm:=@List.getElem?_set_ne
abbrev ny:=@PySem.boot_len
abbrev ou:=@List.nodup_cons
abbrev nP:=@List.mem_range
abbrev qz:=@List.map_append
abbrev sV:=@List.length_range
abbrev wo:=@List.append_assoc
abbrev sW:=@List.mem_flatMap
abbrev yZ:=@List.length_dropLast
abbrev rq:=@Int.emod_nonneg
abbrev wq:=@List.length_cons
abbrev Fj:=@List.getLast?_eq_getElem?
abbrev y0:=@Int.emod_lt_of_pos
abbrev y3:=@PySem.W.mg_none_of
abbrev EU:=@List.getElem?_set_self
abbrev Fm:=@List.getElem?_replicate
abbrev EV:=@Array.getElem?_toList
abbrev CT:=@Array.toList_append
abbrev yT:=@List.mem_filter
abbrev rA:=@List.map_map
abbrev Ba:=@Nat.lt_succ_self
abbrev Bb:=@List.append_nil
abbrev Kj:=@List.mem_iff_getElem?
abbrev Fn:=@List.map_congr_left
abbrev CU:=@List.getElem_mem
abbrev TF:=@PySem.F.slot_dict_keyiterator_next
abbrev KG:=@Option.map_eq_some_iff
abbrev y4:=@Bool.true_and
abbrev CV:=@List.length_zip
abbrev Kk:=@List.replicate_succ
abbrev Of:=@List.length_eq_zero_iff
abbrev CW:=@PySem.Heap.size_push
abbrev Fo:=@List.take_length
abbrev Up:=@PySem.F.slot_dict_itemiterator_next
abbrev KH:=@Array.length_toList
abbrev Og:=@List.getElem?_range
abbrev Kl:=@Nat.lt_succ_of_lt
abbrev CY:=@Nat.lt_irrefl
abbrev CZ:=@List.any_cons
abbrev Oh:=@List.getElem?_eq_none
abbrev Fp:=@List.foldl_cons
abbrev C0:=@Nat.ne_of_gt
abbrev TH:=@List.getD_eq_getElem?_getD
abbrev P4:=@List.getElem?_dropLast
abbrev Oi:=@PySem.mem_of_lookup
abbrev P5:=@List.length_replicate
abbrev P6:=@List.perm_append_comm
abbrev KI:=@List.lookup_cons
abbrev KJ:=@List.all_eq_true
abbrev Oj:=@List.zip_cons_cons
abbrev KL:=@List.any_eq_true
abbrev KN:=@PySem.F.kt_called_dict
abbrev Km:=@Bool.false_and
abbrev Kn:=@List.nodup_nil
abbrev Ol:=@List.foldl_append
abbrev TJ:=@List.take_of_length_le
abbrev Fq:=@Int.zero_add
abbrev Ko:=@PySem.Paired.length
abbrev Om:=@List.length_take
abbrev TK:=@List.length_filter_le
abbrev Uq:=@List.mem_or_eq_of_mem_set
abbrev Ur:=@List.drop_eq_getElem_cons
abbrev Kq:=@Nat.min_self
abbrev P7:=@List.take_add_one
abbrev Us:=@Array.getElem?_eq_none
abbrev YH:=@PyProof.Rows.callWith_type1
abbrev TL:=@List.set_cons_succ
abbrev P8:=@PySem.W.kia_one
abbrev Ut:=@List.take_append_drop
abbrev YI:=@PySem.F.slot_tuple_iterator_next
abbrev YJ:=@Array.perm_iff_toList_perm
abbrev Oo:=@PySem.W.mg_of
abbrev TM:=@List.ext_getElem?
abbrev Uu:=@List.getElem?_mapIdx
abbrev YK:=@List.pairwise_iff_getElem
abbrev Uv:=@List.getLast?_concat
abbrev Uw:=@Array.toList_extract
abbrev YL:=@Classical.byContradiction
abbrev KO:=@Nat.le_succ
abbrev TN:=@Option.bind_some
abbrev TQ:=@List.filter_cons
abbrev Ux:=@PySem.Heap.SameBut.update
abbrev Uy:=@List.length_pos_iff
abbrev ZV:=@PyProof.Rows.slot_tuple_getitem
abbrev YM:=@List.getElem?_cons_zero
abbrev YN:=@PySem.F.plainAttrs_dict
abbrev P9:=@Bool.false_or
abbrev Uz:=@Int.natCast_nonneg
abbrev TR:=@List.find?_cons
abbrev ZW:=@PySem.F.slot_list_getattribute
abbrev YO:=@PySem.Calls.callWith_builtin
abbrev UA:=@List.flatten_cons
abbrev P_:=@List.map_nil
abbrev YQ:=@List.length_singleton
abbrev YR:=@Bool.beq_eq_decide_eq
abbrev UB:=@List.length_drop
abbrev YS:=@List.mem_of_mem_drop
abbrev YT:=@Array.toList_reverse
abbrev YU:=@List.mem_of_mem_take
abbrev YV:=@PySem.Around.under_plainId
abbrev YW:=@PySem.Heap.get?_update_ne
abbrev UC:=@Option.map_some
abbrev UD:=@Bool.eq_iff_iff
abbrev UE:=@List.range_succ
abbrev UG:=@Bool.or_eq_true
abbrev UH:=@Nat.not_lt_zero
abbrev ZX:=@List.getElem?_zip_eq_some
abbrev TU:=@Nat.le_of_lt
abbrev YX:=@List.mem_filterMap
abbrev ZY:=@PySem.F.args_tuple_add_2
abbrev YY:=@List.filterMap_map
abbrev YZ:=@Nat.lt_of_le_of_lt
abbrev Y4:=@PySem.Obj.data_mapFields
abbrev TV:=@Nat.lt_trans
abbrev ZZ:=@List.filterMap_cons_some
abbrev UI:=@Bool.and_false
abbrev UJ:=@Nat.mul_le_mul
abbrev Z0:=@PySem.F.entry_tuple_add
abbrev Z1:=@List.filter_cons_of_pos
abbrev Z2:=@List.filter_cons_of_neg
abbrev Y5:=@List.reverse_perm
abbrev Z3:=@PySem.F.slot_tuple_add
abbrev Z4:=@List.zipWith_cons_cons
inductive E2{t0 t1:Type}(p:t0->t1->Prop):Prop
 |mk (a:t0) (b:t1) (h:p a b)
inductive E3{t0 t1 t2:Type}(p:t0->t1->t2->Prop):Prop
 |mk (a:t0) (b:t1) (c:t2) (h:p a b c)
inductive E4{t0 t1 t2 t3:Type}(p:t0->t1->t2->t3->Prop):Prop
 |mk (a:t0) (b:t1) (c:t2) (d:t3) (h:p a b c d)
inductive E5{t0 t1 t2 t3 t4:Type}(p:t0->t1->t2->t3->t4->Prop):Prop
 |mk (a:t0) (b:t1) (c:t2) (d:t3) (e:t4) (h:p a b c d e)
inductive E6{t0 t1 t2 t3 t4 t5:Type}(p:t0->t1->t2->t3->t4->t5->Prop):Prop
 |mk (a:t0) (b:t1) (c:t2) (d:t3) (e:t4) (f:t5) (h:p a b c d e f)
inductive E7{t0 t1 t2 t3 t4 t5 t6:Type}(p:t0->t1->t2->t3->t4->t5->t6->Prop):Prop
 |mk (a:t0) (b:t1) (c:t2) (d:t3) (e:t4) (f:t5) (g:t6) (h:p a b c d e f g)
inductive E8{t0 t1 t2 t3 t4 t5 t6 t7:Type}(p:t0->t1->t2->t3->t4->t5->t6->t7->Prop):Prop
 |mk (a:t0) (b:t1) (c:t2) (d:t3) (e:t4) (f:t5) (g:t6) (h:t7) (h:p a b c d e f g h)
inductive E9{t0 t1 t2 t3 t4 t5 t6 t7 t8:Type}(p:t0->t1->t2->t3->t4->t5->t6->t7->t8->Prop):Prop
 |mk (a:t0) (b:t1) (c:t2) (d:t3) (e:t4) (f:t5) (g:t6) (h:t7) (i:t8) (h:p a b c d e f g h i)
inductive E11{t0 t1 t2 t3 t4 t5 t6 t7 t8 t9 UK:Type}(p:t0->t1->t2->t3->t4->t5->t6->t7->t8->t9->UK->Prop):Prop
 |mk (a:t0) (b:t1) (c:t2) (d:t3) (e:t4) (f:t5) (g:t6) (h:t7) (i:t8) (j:t9) (k:UK) (h:p a b c d e f g h i j k)
inductive E12{t0 t1 t2 t3 t4 t5 t6 t7 t8 t9 UK t11:Type}(p:t0->t1->t2->t3->t4->t5->t6->t7->t8->t9->UK->t11->Prop):Prop
 |mk (a:t0) (b:t1) (c:t2) (d:t3) (e:t4) (f:t5) (g:t6) (h:t7) (i:t8) (j:t9) (k:UK) (l:t11) (h:p a b c d e f g h i j k l)
namespace L2
open PySem PySem.Spec PyProof.Rows
abbrev Key:=Sum Int Str
def rB:Key->Value->Bool
 |.inl k,v=>Value.isInt k v
 |.inr x,v=>Value.isStrOf x v
def Z5(w:World):Key->Int
 |.inl k=>hashInt k
 |.inr x=>hashStr w x
theorem ck:∀{k:Key}{v:Value},rB k v=true->(∃i t,k=Sum.inl i/\v=Value.int i t)\/(∃x t,k=Sum.inr x/\v=Value.str x t)
 |.inl i,v,h=>by let(t,e):=Value.isInt_shape h;calc .inl #[i,t,9,e]
 |.inr x,v,h=>by let(t,e):=Value.isStrOf_shape h;calc .inr #[x,t,9,e]
def C1(i:Int)(t:Tok):rB (.inl i) (.int i t)=true:=by simp[rB,Value.isInt]
def C2(x:Str)(t:Tok):rB (.inr x) (.str x t)=true:=by simp[rB,Value.isStrOf]
def Qa(a b:Int):decide ((Sum.inl a:Key)=Sum.inl b)=(a==b):=by by_cases e:a=b;subst e;simp;have h:¬ (Sum.inl a:Key)=Sum.inl b:=λq=>e (Sum.inl.inj q);rw[ς h];calc (aaa.mpr e).symm
def Qb(a b:Str):decide ((Sum.inr a:Key)=Sum.inr b)=decide (a=b):=by by_cases e:a=b;subst e;simp;have h:¬ (Sum.inr a:Key)=Sum.inr b:=λq=>e (Sum.inr.inj q);rw[ς h,ς e]
def Qc(a:Int)(b:Str):decide ((Sum.inl a:Key)=Sum.inr b)=false:=ς (λq=>nomatch q)
def Qd(a:Str)(b:Int):decide ((Sum.inr a:Key)=Sum.inl b)=false:=ς (λq=>nomatch q)
def bR(prog:Program)(w:World):PySem.KeyKind prog w Key where
 is:=rB
 hash:=Z5 w
 inj:=λv a b ha hb=>by
  rcases ck ha with⟨i,t,rfl,rfl⟩|⟨x,t,rfl,rfl⟩
  rcases ck hb with⟨j,u,rfl,e⟩|⟨y,u,rfl,e⟩
  injection e with e1 _;rw[e1]
  calc nomatch e;rcases ck hb with⟨j,u,rfl,e⟩|⟨y,u,rfl,e⟩
  calc nomatch e;injection e with e1 _;rw[e1]
 byValue:=λk v h=>by rcases ck h with⟨i,t,rfl,rfl⟩|⟨x,t,rfl,rfl⟩<;>rfl
 pyHash:=λhv h=>by
  rcases ck hv with⟨i,t,rfl,rfl⟩|⟨x,t,rfl,rfl⟩
  calc wpAny_pyHash_int h;exact wpAny_pyHash_str h
 eqBool:=λhu hv h=>by
  rcases ck hu with⟨i,t,rfl,rfl⟩|⟨x,t,rfl,rfl⟩
  rcases ck hv with⟨j,u,rfl,rfl⟩|⟨y,u,rfl,rfl⟩
  rw[Qa] at h;calc wpAny_eqBool_int h;rw[Qc] at h;calc SeqAt.EqAt.int_str i t y u _ _ _ _ h;rcases ck hv with⟨j,u,rfl,rfl⟩|⟨y,u,rfl,rfl⟩
  rw[Qd] at h;calc SeqAt.EqAt.str_int x t j u _ _ _ _ h;rw[Qb] at h;exact wpAny_eqBool_str h
 «strs»:=λk x t v h=>by
  rcases ck h with⟨i,u,rfl,e⟩|⟨y,u,rfl,e⟩
  calc nomatch e;injection e with e1 _
  subst e1;cases v<;>rfl
def wB(prog:Program)(w:World)(i:Int)(t:Tok):(bR prog w).is (.inl i) (.int i t)=true:=C1 i t
def wC(prog:Program)(w:World)(x:Str)(t:Tok):(bR prog w).is (.inr x) (.str x t)=true:=C2 x t
inductive V where
 |bO|bl (b:Bool)|int (i:Int)|str (x:Str)|Z6 (b:Array UInt8)|Z7 (b:UInt64)|ref (a:Addr)|ty (n:String)
 deriving DecidableEq
def RelV:V->Value->Prop
 |.bO,u=>u=Value.none
 |.bl b,u=>u=Value.bool b
 |.int i,u=>∃t,u=Value.int i t
 |.str x,u=>∃t,u=Value.str x t
 |.Z6 b,u=>∃t,u=Value.bytes b t
 |.Z7 b,u=>∃t,u=Value.float b t
 |.ref a,u=>u=Value.ref a
 |.ty n,u=>u=Value.type n
abbrev Vals:List V->qag->Prop:=Paired RelV
def Vals.length{xs:List V}{us:qag}(r:Vals xs us):27=us.length:=Ko r
theorem Vals.get:∀{xs:List V}{us:qag}{i:Nat}{x:V},Vals xs us->xs[i]?\x->∃u,us[i]?\u/\RelV x u
 |_,_,_,_,.nil,e=>by simp at e
 |_,_,0,_,.cons r _,e=>by simp at e;subst e;calc#[_,9,r]
 |_,_,i+1,x,.cons _ t,e=>by let(u,h1,h2):=Vals.get t (by simpa using e);calc#[u,by simpa using h1,h2]
theorem Vals.set{x:V}{u:Value}(r:RelV x u):∀{xs:List V}{us:qag}(i:Nat),Vals xs us->Vals (xs.set i x) (us.set i u)
 |_,_,_,.nil=>.nil
 |_,_,0,.cons _ t=>.cons r t
 |_,_,i+1,.cons q t=>.cons q (Vals.set r i t)
theorem Vals.append:∀{xs ys:List V}{us ws:qag},Vals xs us->Vals ys ws->Vals (xs++ys) (us++ws)
 |_,_,_,_,.nil,s=>s
 |_,_,_,_,.cons r t,s=>.cons r (Vals.append t s)
theorem Vals.take:∀{xs:List V}{us:qag}(n:Nat),Vals xs us->Vals (xs.take n) (us.take n)
 |_,_,0,_=>.nil
 |_,_,_+1,.nil=>.nil
 |_,_,n+1,.cons r t=>.cons r (Vals.take n t)
theorem Vals.drop:∀{xs:List V}{us:qag}(n:Nat),Vals xs us->Vals (xs.drop n) (us.drop n)
 |_,_,0,r=>r
 |_,_,_+1,.nil=>.nil
 |_,_,n+1,.cons _ t=>Vals.drop n t
def kB:Option V->Option Value->Prop
 |some v,some u=>RelV v u
 |none,none=>True
 |_,_=>False
def KV{κ:Type}:List (κ×V)->List (κ×Value)->Prop:=Paired λ(p:κ×V) (q:κ×Value)=>p.1=q.1/\RelV p.2 q.2
def kV:Key->V
 |.inl i=>.int i
 |.inr x=>.str x
inductive HO where
 |lst (xs:List V)
 |tup (xs:List V)
 |dK (aY:List (Key×V))|dT (aY:List (List Key×V))
 |set (S:Int->Bool) (n:Nat)
 |ins (C dx:Addr) (fs:List (Str×V))
 |own (x:Addr)
 |xd (fs:List (Str×V))
 |met (f x:Addr)
 |Z8 (lo hi:Int)
 |f7 (o:Obj) (u:HO)
 |Qe (ps:Array Value)
 |ext (φ:Heap->Prop)
abbrev Hp:=Addr->Option HO
def upd(H:Hp)(a:Addr)(o:HO):Hp:=λb=>if b=a then some o else H b
def aA{H:Hp}{o:HO}:upd H a o a\o:=by unfold upd;rw[ι 9]
def au{H:Hp}{b:Addr}{o:HO}(h:b≠a):upd H a o b=H b:=by unfold upd;rw[θ h]
def Bc{H:Hp}{b:Addr}{o u:HO}(h:H a\o)(h':H b\u)(d:o≠u):a≠b:=by intro e;subst e;rw[h] at h';calc d (Option.some.inj h')
def bz{H:Hp}{b:Addr}{o:HO}(h:H a\o)(h':H b=none):a≠b:=by intro e;subst e;rw[h] at h';cases h'
section
variable(P:Program)(w:World)
def bL(H:Hp)(h:Heap)(a:Addr):HO->Prop
 |.lst xs=>27<=sizeLine/\∃(aP:qag)(n:Nat),Vals xs aP/\h.get? a=some {cls:=.type "list",data:=.seq aP.toArray n}
 |.tup xs=>27<=sizeLine/\∃aP:qag,Vals xs aP/\IsTup h a aP.toArray
 |.dK aY=>aY.length<=sizeLine/\(a==sysModules)=false/\∃vs,KV aY vs/\h.DictOf (bR P w) a vs
 |.dT aY=>aY.length<=sizeLine/\(a==sysModules)=false/\∃xs:List (List Key×Addr×Value),
  Paired (λ(p:List Key×V) (q:List Key×Addr×Value)=>p.1=q.1/\H q.2.1\.tup (p.1.map kV)/\RelV p.2 q.2.2) aY xs /\
  ∃o es ep,h.get? a\o/\o.ExactDict/\o.data=.dict es ep/\es.toList=xs.map (entryOfKey (tupleKind (bR P w)))/\(xs.map (·.1)).Nodup
 |.set S n=>h.SetOf (intKind P w) a S n
 |.ins C dx fs=>H dx\.own a/\fs.length<=1000/\dx≠a/\h.get? a\W.instObj C dx /\
  ∃mA,h.Ns1 dx mA/\(∀f,kB (fs.lookup f) (mA f))/\PySem.Within mA (fs.map (·.1))
 |.own _=>∃o,h.get? a\o
 |.xd fs=>∃mA,h.Ns1 a mA/\∀f,kB (fs.lookup f) (mA f)
 |.Z8 lo hi=>∃t u v,h.get? a=some {cls:=.type "range",data:=.fields ([.int lo t,.int hi u,.int 1 v].toArray)}
 |.f7 o u=>h.get? a\o/\bL H h a u
 |.Qe ps=>h.get? a=some {cls:=.none,data:=.fields ps}
 |.met f x=>h.get? a\W.methodObj (.ref f) (.ref x)
 |.ext φ=>φ h/\(∃o,h.get? a\o)/\∀h1 h2:Heap,φ h1->(∀o,h1.get? a\o->h2.get? a\o)->φ h2
def jE(H:Hp)(h:Heap):Prop:=∀a o,H a\o->bL P w H h a o
end
section
variable{H H':Hp}{o:HO}
def bL.lt(x:bL P w H h a o):a<h.objs.size:=by
 cases o with
 |lst xs=>let(_,_,_,_,e):=x;calc dB e
 |tup xs=>let(_,_,_,p):=x;calc p.lt
 |dK aY=>let(_,_,_,_,o,_,_,e,_):=x;calc dB e
 |dT aY=>let(_,_,_,_,o,_,_,e,_):=x;calc dB e
 |set S n=>let(o,_,_,_,e,_):=x;calc dB e
 |ins C dx fs=>let(_,_,_,e,_):=x;calc dB e
 |own y=>let(_,e):=x;calc dB e
 |xd fs=>let(_,(_,_,_,e,_),_):=x;calc dB e
 |Z8 lo hi=>let(_,_,_,e):=x;calc dB e
 |f7 ob u=>let(e,_):=x;calc dB e
 |Qe ps=>calc dB (show h.get? a\_ from x)
 |met f y=>calc dB (show h.get? a\_ from x)
 |ext φ=>let(_,(_,e),_):=x;calc dB e
theorem Paired.kD{α β:Type}{F G:α->β->Prop}:∀{l₁:List α}{l₂:List β},Paired F l₁ l₂->(∀a b,F a b->G a b)->Paired G l₁ l₂
 |_,_,.nil,_=>.nil
 |_,_,.cons r t,f=>.cons (f _ _ r) (Paired.kD t f)
def bL.wD(x:bL P w H h a o)(k:∀b u,(b=a\/H b\.own a)->h.get? b\u->h'.get? b\u)(ho:∀b,H b\.own a->H' b\.own a)(ht:∀b xs,H b\.tup xs->H' b\.tup xs):bL P w H' h' a o:=by
 induction o with
 |lst xs=>let(z,aP,n,r,e):=x;calc#[z,aP,n,r,k _ _ 7 e]
 |tup xs=>let(z,aP,r,ob,e,c):=x;calc#[z,aP,r,ob,k _ _ 7 e,c]
 |dK aY=>let(z,y,vs,r,ob,es,ep,e,c):=x;calc#[z,y,vs,r,ob,es,ep,k _ _ 7 e,c]
 |dT aY=>let(z,y,xs,r,ob,es,ep,e,c):=x;calc#[z,y,xs,Paired.kD r λp q z=>#[z.1,ht _ _ z.2.1,z.2.2],ob,es,ep,k _ _ 7 e,c]
 |set S n=>let(ob,es,ep,t,e,c):=x;calc#[ob,es,ep,t,k _ _ 7 e,c]
 |ins C dx fs=>let(d,z,ne,e,mA,(od,es,ep,e2,c),r):=x;calc#[ho _ d,z,ne,k _ _ 7 e,mA,#[od,es,ep,k _ _ (.inr d) e2,c],r]
 |own y=>let(ob,e):=x;calc#[ob,k _ _ 7 e]
 |xd fs=>let(mA,(od,es,ep,e,c),r):=x;calc#[mA,#[od,es,ep,k _ _ 7 e,c],r]
 |Z8 lo hi=>let(t,u,v,e):=x;calc#[t,u,v,k _ _ 7 e]
 |f7 ob u ih=>let(e,q):=x;calc#[k _ _ 7 e,ih q]
 |Qe ps=>have e:=x;calc k a _ 7 e
 |met f y=>have e:=x;calc k a _ 7 e
 |ext φ=>let(p,(o,e),st):=x;calc#[st _ _ p λo q=>k _ _ 7 q,#[o,k _ _ 7 e],st]
def jE.lt(x:jE P w H h)(e:H a\o):a<h.objs.size:=(x a o e).lt
def jE.fresh(x:jE P w H h)(e:h.objs.size<=a):H a=none:=by
 cases q:H a with
 |none=>rfl
 |some u=>calc absurd (qH (x.lt q) e) (CY _)
def jE.kept(x:jE P w H h)(k:∀b u,h.get? b\u->h'.get? b\u):jE P w H h':=λa o e=>
 (x a o e).wD (λb u _ q=>k b u q) (λ_ q=>q) λ_ _ q=>q
def jE.laid(x:jE P w H h)(k:∀b u,h.get? b\u->h'.get? b\u)(hp:h.objs.size<=a)(new:bL P w (upd H a o) h' a o):jE P w (upd H a o) h':=λb u e=>by have hn:=x.fresh hp;by_cases hb:b=a;subst hb;rw[aA] at e;cases e;calc new;rw[au hb] at e;calc (x b u e).wD (λc v _ q=>k c v q) (λc q=>by rw[au (bz q hn)];calc q) λc xs q=>by rw[au (bz q hn)];calc q
end
def Rd(H:Hp)(a:Addr)(u:HO):Prop:=H a=some u\/∃o,H a\.f7 o u
def Rd.ok{H:Hp}{u:HO}(r:Rd H a u)(x:jE P w H h):bL P w H h a u:=by
 obtain r|⟨o,r⟩:=r
 calc x a u r;let(_,q):=x a _ r;calc q
def UL:Option HO->Prop
 |some (.lst _)=>True
 |some (.dK _)=>True
 |some (.dT _)=>True
 |some (.set _ _)=>True
 |some (.ins _ _ _)=>True
 |some (.ext _)=>True
 |_=>False
section
variable{H:Hp}{x e:Addr}{o':HO}
def jE.write(ok:jE P w H h)(mu:UL (H x))(he:e=x\/H e\.own x)(k:∀b u,b≠e->h.get? b\u->h'.get? b\u)(Oq:∃u,h'.get? e\u)(new:bL P w (upd H x o') h' x o'):jE P w (upd H x o') h':=λb u q=>by
 have UM:∀c y,H c\.own y->c≠x:=λc y r z=>by subst z;rw[r] at mu;exact mu
 have Qf:∀c xs,H c\.tup xs->c≠x:=λc xs r z=>by subst z;rw[r] at mu;exact mu
 by_cases hb:b=x;subst hb;rw[aA] at q;cases q;calc new;rw[au hb] at q;by_cases EW:b=e;have q':H b\.own x:=by
  obtain z|z:=he
  calc absurd (EW.trans z) hb;rw[EW];exact z
 rw[q] at q';cases q';let(v,hv):=Oq;calc#[v,by rw[EW];calc hv];show (ok b u q).wD (λc v hc r=>k c v ?_ r) (λc r=>by rw[au (UM c b r)];calc r) λc xs r=>by rw[au (Qf c xs r)];exact r
 obtain rfl|hc:=hc
 calc EW;rintro rfl;obtain z|z:=he
 calc UM c b hc z;rw[hc] at z;cases z;calc hb 9
end
structure Un(fs ex:zm)(H H':Hp)(h h':Heap):Prop where
 keep:∀b o,h.get? b\o->H b=none->b∉fs->b∉ex->h'.get? b\o
 slot:∀b o,h.get? b\o->H b=none->b∈fs->b∉ex->∃sl,h'.get? b=some {o with slots:=sl}
 free:∀b o,h.get? b\o->H b=none->b∉ex->H' b=none
 there:∀b o,h.get? b\o->b∉ex->∃o',h'.get? b\o'
 sX:∀b xs,H b\.tup xs->H' b\.tup xs
 ow:∀b o u,H b\.f7 o u->H' b\.f7 o u
 sY:∀b ps,H b\.Qe ps->∃more,H' b\.Qe (ps++more)
section
variable{fs Z9 ex Z_:zm}{H H1 H2:Hp}{h1 h2:Heap}{x e:Addr}{o:HO}
def Un.any(u:Un fs ex H H1 h h1){b:Addr}{ob:Obj}(q:h.get? b\ob)(n:H b=none)(hx:b∉ex):∃sl,h1.get? b=some {ob with slots:=sl}:=by by_cases hb:b∈fs;calc u.slot b ob q n hb hx;calc#[ob.slots,u.keep b ob q n hb hx]
def Un.kept(k:∀b u,h.get? b\u->h'.get? b\u):Un fs ex H H h h' :=
 #[λb ob q _ _ _=>k b ob q,λb ob q _ _ _=>#[ob.slots,k b ob q],λ_ _ _ n _=>n,λb ob q _=>#[ob,k b ob q],λ_ _ q=>q,λ_ _ _ q=>q,λ_ ps q=>#[([].toArray),by rw[q];simp]]
def Un.refl:Un fs ex H H h h:=Un.kept λ_ _ q=>q
def Un.laid(k:∀b u,h.get? b\u->h'.get? b\u)(hp:h.objs.size<=a)(hn:H a=none):Un fs ex H (upd H a o) h h' where
 keep:=λb u q _ _ _=>k b u q
 slot:=λb u q _ _ _=>#[u.slots,k b u q]
 free:=λb u q n _=>by rw[au (gr (qH (dB q) hp))];exact n
 there:=λb u q _=>#[u,k b u q]
 sX:=λb xs q=>by rw[au (bz q hn)];exact q
 ow:=λb u xs q=>by rw[au (bz q hn)];exact q
 sY:=λb ps q=>#[([].toArray),by rw[au (bz q hn),q];simp]
def Un.write(mu:UL (H x))(he:e=x\/H e\.own x)(k:∀b u,b≠e->h.get? b\u->h'.get? b\u)(Oq:∃u,h'.get? e\u):Un fs ex H (upd H x o) h h':=by
 have hx:∀b,H b=none->b≠x:=λb n z=>by subst z;rw[n] at mu;exact mu
 have hb:∀b,H b=none->b≠e:=λb n z=>by
  subst z;obtain r|r:=he
  calc hx b n r;rw[n] at r;cases r
 have hm:∀b u,H b\u->¬ UL (some u)->b≠x:=λb u q nm z=>by subst z;rw[q] at mu;exact nm mu
 show#[λb u q n _ _=>k b u (hb b n) q,λb u q n _ _=>#[u.slots,k b u (hb b n) q],λb u q n _=>by rw[au (hx b n)];exact n,λb u q _=>?_,
  λb xs q=>by rw[au (hm b _ q λz=>z)];calc q,λb u xs q=>by rw[au (hm b _ q λz=>z)];calc q,λb ps q=>#[([].toArray),by rw[au (hm b _ q λz=>z),q];simp]]
 by_cases EW:b=e;subst EW;calc Oq;calc#[u,k b u EW q]
end
def Y6(h:Heap)(H:Hp):zm:=(List.range h.objs.size).filter λa=>(H a).isSome
def wF(h:Heap)(H:Hp):Heap:=W.hideAll h (Y6 h H)
def C3(h:Heap)(H:Hp):(wF h H).objs.size=h.objs.size:=W.hideAll_size _ _
def Fs{H:Hp}{b:Addr}(e:h.get? b\o)(n:H b=none):(wF h H).get? b\o :=
 W.hideAll_get _ e λhm=>by have q:=(yT.mp hm).2;rw[n] at q;simp at q
def KP{H:Hp}{b:Addr}(e:(wF h H).get? b\o):h.get? b\o/\H b=none:=by
 have e':=W.of_hideAll (Y6 h H) e;show#[e',?_];cases q:H b with
 |none=>rfl
 |some x=>have hm:b∈Y6 h H:=yT.mpr #[nP.mpr (dB e'),by simp[q]];have z:(wF h H).get? b=none:=W.hideAll_none (Y6 h H) hm;rw[z] at e;cases e
structure Mod(K:qaf)(mg:qae)(base:Heap):Prop where
 Y7:K.In base
 glob:base.Ns mainGlobals mg
 blt:∃mb,base.Ns builtinsNs mb/\∀x:Str,x≠"__name__"->mb x=bootBuiltins x
 nolimit:base.NoLimit
structure Cx where
 prog:Program
 w:World
 K:qaf
 mg:qae
 base:Heap
 A:Around
 N:ω
 s₀:Shared
 H₀:Hp
 env:Env
 outer:List Env
 stack:List Env
 ex:zm
 fn:Str->Bool
 calm:Bool
 pn:qaa
 xe:qad
def EX(l:List Env):zm:=l.filterMap (·.frame)
abbrev Cx.fs(X:Cx):zm:=EX X.outer
def lN(sc:Scope)(x:Str):Prop:=sc.names.lookup x=some .local\/sc.names.lookup x\.cell\/sc.names.lookup x\.free
theorem _root_.jvv{sc x}(h:(match sc.names.lookup x with|some .local|some .cell|some .free=>true|_=>false)=true):lN sc x:=by unfold lN;split at h<;>simp_all
def Loc(sc:Scope)(x:Str):Prop:=sc.names.lookup x=some .local\/sc.names.lookup x\.cell
def Look(env:Env)(h:Heap)(m:qae)(x:Str)(u:Value):Prop :=
 (env.kindOf x\.local/\m x\u)\/((env.kindOf x\.cell\/env.kindOf x\.free)/\∃c,env.cells.lookup x\c/\h.IsCell c (some u))
structure Cx.Ok(X:Cx):Prop where
 mod:Mod X.K X.mg X.base
 kind:X.env.scope.kind=.function
 glob:X.env.globals=mainGlobals
 blt:X.env.builtins=builtinsNs
 above:X.s₀.heap.objs.size<=X.env.locals
 inj:∀x y c,X.env.cells.lookup x\c->X.env.cells.lookup y\c->x=y
 has:∀x,(X.env.kindOf x\.cell\/X.env.kindOf x\.free)->∃c,X.env.cells.lookup x\c
 UN:∀x c,X.fn x=true->X.env.cells.lookup x\c->X.s₀.heap.objs.size<=c
 hd:X.calm=true->X.A.handled=none
 frames:X.A.frames\X.stack
 Y8:X.stack=X.outer\/(X.stack=3::X.outer/\X.env.frame\X.env.locals)
 exf:∀b∈X.ex,b≠X.env.locals/\∀x c,X.env.cells.lookup x\c->c≠b
 bs:∀b o,X.base.get? b\o->X.s₀.heap.get? b\o/\X.H₀ b=none
 KQ:X.base.objs.size<=X.s₀.heap.objs.size
 Ft:∀b o,X.base.get? b\o->b∉X.ex
 KR:∀b∈X.ex,b∉X.fs
 nz:X.s₀.heap.FunFrames X.base X.outer
 Qg:∀b∈X.fs,X.H₀ b=none
structure Inv(X:Cx)(ε:qaa)(σ:List (Option V))(H:Hp)(s:Shared):Prop where
 ok:X.Ok
 os:s.os=X.s₀.os
 bare:AllBare s.gens
 base:Un X.fs X.ex X.H₀ H X.s₀.heap 42
 loc:∃m,s.heap.Ns X.env.locals m/\∀(i:Nat)(x:Str)(v:V),X.N[i]?\x->σ[i]?\some v->lN 29 x->∃u,RelV v u/\Look 3 42 m x u
 cell:∀x c,X.env.cells.lookup x\c->∃v,s.heap.IsCell c v
 free:H X.env.locals=none
 gK:∀x c,X.env.cells.lookup x\c->H c=none
 pin:∀p∈X.pn++ε,s.heap.get? p.1\p.2/\H p.1=none/\p.1≠X.env.locals/\p.1∉X.fs/\∀v,p.2.data≠.cell v
 bB:jE 34 X.w H 42
 len:σ.length=X.N.length
section
variable{X:Cx}{ε:qaa}{σ:List (Option V)}{H H':Hp}
def Cx.Ok.acM(ok:X.Ok){b:Addr}(e:X.base.get? b\o):b∉X.fs:=λhb=>by have:=(ok.nz.mem hb).1;rw[e] at this;cases this
def Inv.bs(I:Inv X ε σ H s):∀b o,X.base.get? b\o->s.heap.get? b\o/\H b=none:=λb o e=>
 #[I.base.keep b o (I.ok.bs b o e).1 (I.ok.bs b o e).2 (I.ok.acM e) (I.ok.Ft b o e),I.base.free b o (I.ok.bs b o e).1 (I.ok.bs b o e).2 (I.ok.Ft b o e)]
def Inv.bk(I:Inv X ε σ H s):∀b o,X.base.get? b\o->s.heap.get? b\o:=λb o e=>(I.bs b o e).1
def Inv.mod(I:Inv X ε σ H s):Mod X.K X.mg X.base:=I.ok.mod
def Inv.wt(I:Inv X ε σ H s):X.K.In 42:=I.ok.mod.Y7.keeps I.bk
def Inv.lt(I:Inv X ε σ H s):X.env.locals<8:=let #[_,hn,_]:=I.loc;hn.lt
def Inv.sz(I:Inv X ε σ H s):X.s₀.heap.objs.size<=8:=jS I.ok.above (TU I.lt)
def Inv.acN(I:Inv X ε σ H s)(h:8<=a):a∉X.fs:=λhb=>by let(_,o,ho,_):=I.ok.nz.mem hb;calc absurd (qH (dB ho) (jS I.sz h)) (CY _)
def Inv.KS(I:Inv X ε σ H s):∀x c,X.env.cells.lookup x\c->c≠X.env.locals:=λx c e z=>by let(v,o,ho,hd):=I.cell x c e;let(m,(o',es,ep,nA,UO,_),_):=I.loc;rw[z,nA] at ho;cases ho;rw[UO] at hd;cases hd
def Inv.nz(I:Inv X ε σ H s):s.heap.FunFrames X.base X.outer:=by
 have all:∀l,(∀b∈EX l,b∈X.fs)->X.s₀.heap.FunFrames X.base l->s.heap.FunFrames X.base l:=by
  intro l;induction l with
  |nil=>intro _ _;trivial
  |cons env r ih=>intro hs hl;let(hk,(L,o,hf,hn,ho,hd),hr):=hl;have hL:=hs L (by unfold EX;rw[rp,hf];calc d_);let(sl,e):=I.base.slot L o ho (I.ok.Qg L hL) hL λz=>I.ok.KR L z hL;exact#[hk,#[L,_,hf,hn,e,hd],ih (λb hb=>hs b (by unfold EX;rw[rp,hf];calc fZ _ hb)) hr]
 calc all X.outer (λ_ hb=>hb) I.ok.nz
def Inv.stack(I:Inv X ε σ H s):s.heap.FunFrames X.base X.stack:=by
 obtain e|⟨e,hf⟩:=I.ok.Y8
 rw[e];calc I.nz;rw[e];let(m,hn,_):=I.loc;calc .cons (by rw[I.ok.kind];decide) hf hn (Heap.get?_none_of_le (jS I.ok.KQ I.ok.above)) I.nz
def Inv.y7(I:Inv X ε σ H s):∀b∈EX X.stack,b∈X.env.locals::X.fs:=λb hb=>by
 obtain e|⟨e,hf⟩:=I.ok.Y8
 rw[e] at hb;calc fZ _ hb;rw[e] at hb;unfold EX at hb;rw[rp,hf] at hb;calc hb
def Inv.Bd(I:Inv X ε σ H s):∀b∈EX X.stack,H b=none:=λb hb=>by
 rcases cT.mp (I.y7 b hb) with e|hb
 rw[e];calc I.free;let(_,o,ho,_):=I.ok.nz.mem hb;calc I.base.free b o ho (I.ok.Qg b hb) λz=>I.ok.KR b z hb
def Inv.step{g':Array GenState}{d':Drawn}{ch:zm}(I:Inv X ε σ H s)(Kr:∀b∈ch,(b∈X.ex\/X.s₀.heap.objs.size<=b)/\b≠X.env.locals/\(∀x c,X.env.cells.lookup x\c->c≠b)/\∀p∈X.pn++ε,p.1≠b)(keep:∀b o,b≠X.env.locals->b∉X.fs->b∉ch->s.heap.get? b\o->H b=none->h'.get? b\o)(slot:∀b o,b≠X.env.locals->b∈X.fs->b∉ch->s.heap.get? b\o->H b=none->∃sl,h'.get? b=some {o with slots:=sl})(free:∀b o,b∉ch->s.heap.get? b\o->H b=none->H' b=none)(there:∀b o,b∉ch->s.heap.get? b\o->∃o',h'.get? b\o')(sX:∀b xs,H b\.tup xs->H' b\.tup xs)(ow:∀b o u,H b\.f7 o u->H' b\.f7 o u)(sY:∀b ps,H b\.Qe ps->∃more,H' b\.Qe (ps++more))(ns:∀m,s.heap.Ns X.env.locals m->h'.Ns X.env.locals m)(bB:jE 34 X.w H' h')(hg:AllBare g') :
  Inv X ε σ H' {s with heap:=h',gens:=g',drawn:=d',toks:=t'}:=by
 have neL:∀b o,X.s₀.heap.get? b\o->b≠X.env.locals:=λb o e=>gr (qH (dB e) I.ok.above);have Y9:∀b o,X.s₀.heap.get? b\o->b∉X.ex->b∉ch:=λb o e hx hb=>by
  rcases (Kr b hb).1 with z|z
  calc hx z;exact absurd (qH (dB e) z) (CY _)
 have cellK:∀x c,X.env.cells.lookup x\c->∀v,s.heap.IsCell c v->h'.IsCell c v:=λx c e v #[o,ho,hd]=>by have Fu:=λz=>(Kr c z).2.2.1 x c e 9;by_cases hc:c∈X.fs;let(sl,q):=slot c o (I.KS x c e) hc Fu ho (I.gK x c e);calc#[_,q,hd];exact#[o,keep c o (I.KS x c e) hc Fu ho (I.gK x c e),hd]
 show#[I.ok,I.os,hg,#[λb o e n hb hx=>?_,λb o e n hb hx=>?_,λb o e n hx=>?_,λb o e hx=>?_,λb xs e=>sX b xs (I.base.sX b xs e),λb o xs e=>ow b o xs (I.base.ow b o xs e),λb ps e=>?_],?_,λx c e=>?_,?_,λx c e=>?_,λp hp=>?_,bB,I.len];calc keep b o (neL b o e) hb (Y9 b o e hx) (I.base.keep b o e n hb hx) (I.base.free b o e n hx);let(sl,e1):=I.base.slot b o e n hb hx;let(sl',e2):=slot b _ (neL b o e) hb (Y9 b o e hx) e1 (I.base.free b o e n hx);calc#[sl',e2];let(o',e1):=I.base.there b o e hx;calc free b o' (Y9 b o e hx) e1 (I.base.free b o e n hx);let(o',e1):=I.base.there b o e hx;calc there b o' (Y9 b o e hx) e1;let(m1,e1):=I.base.sY b ps e;let(m2,e2):=sY b _ e1;calc#[m1++m2,by rw[e2,Array.append_assoc]];let(m,hn,hl):=I.loc;show#[m,ns m hn,λi x v e1 e2 e3=>?_];let(u,r,l):=hl i x v e1 e2 e3;show#[u,r,?_];obtain l|⟨k,c,e,z⟩:=l
 calc .inl l;calc .inr #[k,c,e,cellK x c e _ z];let(v,z):=I.cell x c e;calc#[v,cellK x c e v z];let(m,(o,_,_,ho,_),_):=I.loc;calc free _ o (λz=>(Kr _ z).2.1 9) ho I.free;let(v,o,ho,hd):=I.cell x c e;calc free c o (λz=>(Kr c z).2.2.1 x c e 9) ho (I.gK x c e);let(e,n,ne,nf,d):=I.pin p hp;have Fu:=λz=>(Kr p.1 z).2.2.2 p hp 9;calc#[keep p.1 p.2 ne nf Fu e n,free p.1 p.2 Fu e n,ne,nf,d]
def Inv.un(I:Inv X ε σ H s)(u:Un X.fs [] H H' 42 h')(bB:jE 34 X.w H' h'):Inv X ε σ H' {s with heap:=h',toks:=t'}:=by
 let(m,(o,es,ep,ho,r),_):=id I.loc;let(sl,hL):=u.any ho I.free 4;calc I.step (ch:=[]) (λ_ z=>nomatch z) (λb o _ hb _ e n=>u.keep b o e n hb 4) (λb o _ hb _ e n=>u.slot b o e n hb 4) (λb o _ e n=>u.free b o e n 4) (λb o _ e=>u.there b o e 4) u.sX u.ow u.sY (λm' hm=>by let(o',KU,Qh,nA,r'):=hm;rw[ho] at nA;cases nA;calc#[_,KU,Qh,hL,r']) bB I.bare
def Inv.call{g':Array GenState}{d':Drawn}{ch:zm}(I:Inv X ε σ H s)(u:Un (EX X.stack) ch H H' 42 h')(bB:jE 34 X.w H' h')(hg:AllBare g')(Kr:∀b∈ch,(b∈X.ex\/X.s₀.heap.objs.size<=b)/\b≠X.env.locals/\(∀x c,X.env.cells.lookup x\c->c≠b)/\∀p∈X.pn++ε,p.1≠b) :
  Inv X ε σ H' {s with heap:=h',gens:=g',drawn:=d',toks:=t'}:=by
 let(m,(o,es,ep,ho,r),_):=id I.loc;let(sl,hL):=u.any ho I.free λz=>(Kr _ z).2.1 9;calc I.step Kr (λb o hL hb hc e n=>u.keep b o e n (λz=>(cT.mp (I.y7 b z)).elim hL hb) hc) (λb o _ _ hc e n=>u.any e n hc) (λb o hc e n=>u.free b o e n hc) (λb o hc e=>u.there b o e hc) u.sX u.ow u.sY (λm' hm=>by let(o',KU,Qh,nA,r'):=hm;rw[ho] at nA;cases nA;calc#[_,KU,Qh,hL,r']) bB hg
def Inv.turned(I:Inv X ε σ H s)(k:∀b o,b≠it->s.heap.get? b\o->h'.get? b\o)(hn:H it=none)(hL:it≠X.env.locals)(h1:it∈X.ex\/X.s₀.heap.objs.size<=it)(h2:∀x c,X.env.cells.lookup x\c->c≠it)(h3:∀p∈X.pn++ε,p.1≠it):Inv X ε σ H {s with heap:=h',toks:=t'}:=by
 have KW:∀b u,H b\u->b≠it:=λb u e z=>by rw[z,hn] at e;cases e
 show I.step (ch:=[it]) (λb hb=>?_) (λb o _ _ hc e _=>k b o (λz=>hc (by simp[z])) e) (λb o _ _ hc e _=>#[o.slots,k b o (λz=>hc (by simp[z])) e]) (λ_ _ _ _ n=>n)
  (λb o hc e=>#[o,k b o (λz=>hc (by simp[z])) e]) (λ_ _ e=>e) (λ_ _ _ e=>e) (λb ps e=>#[([].toArray),by rw[e];simp]) (λm hm=>?_) (λb u e=>?_) I.bare
 have e:b=it:=by simpa using hb
 subst e;calc#[h1,hL,h2,h3];let(o,es,ep,ho,r):=hm;calc#[o,es,ep,k _ o (Ne.symm hL) ho,r];show (I.bB b u e).wD (λc v hc q=>k c v ?_ q) (λ_ q=>q) λ_ _ q=>q;obtain z|z:=hc
 rw[z];calc KW b u e;calc KW c _ z
def Inv.tok(I:Inv X ε σ H s)(t:Nat):Inv X ε σ H {s with toks:=t}:=I.un Un.refl I.bB
def Inv.kept(I:Inv X ε σ H s)(k:∀b u,s.heap.get? b\u->h'.get? b\u):Inv X ε σ H {s with heap:=h',toks:=t'}:=I.un (Un.kept k) (I.bB.kept k)
def Inv.laid{o:HO}(I:Inv X ε σ H s)(k:∀b u,s.heap.get? b\u->h'.get? b\u)(hp:8<=a)(new:bL 34 X.w (upd H a o) h' a o) :
 Inv X ε σ (upd H a o) {s with heap:=h',toks:=t'}:=I.un (Un.laid k hp (I.bB.fresh hp)) (I.bB.laid k hp new)
def Inv.write{x e:Addr}{o:HO}(I:Inv X ε σ H s)(mu:UL (H x))(he:e=x\/H e\.own x)(k:∀b u,b≠e->s.heap.get? b\u->h'.get? b\u)(Oq:∃u,h'.get? e\u)(new:bL 34 X.w (upd H x o) h' x o):Inv X ε σ (upd H x o) {s with heap:=h',toks:=t'}:=I.un (Un.write mu he k Oq) (I.bB.write mu he k Oq new)
def Inv.weak{σ':List (Option V)}(I:Inv X ε σ H s)(hl:σ'.length=σ.length)(w:∀(i:Nat) v,σ'[i]?\some v->σ[i]?\some v):Inv X ε σ' H s :=
 #[I.ok,I.os,I.bare,I.base,let #[m,hn,Ks]:=I.loc;#[m,hn,λi x v e1 e2 e3=>Ks i x v e1 (w i v e2) e3],I.cell,I.free,I.gK,I.pin,I.bB,hl.trans I.len]
def Inv.Be{Bf:qaa}(I:Inv X ε σ H s)(h:∀p∈Bf,s.heap.get? p.1\p.2/\H p.1=none/\p.1≠X.env.locals/\p.1∉X.fs/\∀v,p.2.data≠.cell v):Inv X Bf σ H s :=
 #[I.ok,I.os,I.bare,I.base,I.loc,I.cell,I.free,I.gK,λp hp=>(fu.mp hp).elim (λz=>I.pin p (fW _ z)) (h p),I.bB,I.len]
def wG{N:ω}(hN:N.Nodup)(a:N[i]?\x)(b:N[j]?\x):i=j:=by let(h1,e1):=dA.mp a;let(h2,e2):=dA.mp b;calc (List.getElem_inj hN).mp (e1.trans e2.symm)
def rC{M:Model}{E:qad}{v:V}{Q:Unit->Shared->Prop}(I:Inv X ε σ H s)(hN:X.N.Nodup)(hi:X.N[i]?\x)(hx:Loc 29 x)(r:RelV v u)(h:∀s',Inv X ε (σ.set i (some v)) H s'->(∃a,Heap.SameBut a 42 s'.heap/\(a=X.env.locals\/X.env.cells.lookup x\a))->Q Unit.unit s')(hf:X.fn x=true\/X.env.scope.names.lookup x\.local:=by first|calc .inl rfl|calc .inr rfl|assumption):wpAny M A (storeName 3 x u) Q E s:=by
 let(m,hn,hl):=id I.loc;have Qi:(X.env.scope.kind==.class || (X.env.scope.kind==.module && X.env.locals != X.env.globals))=false:=by rw[I.ok.kind];rfl
 have hiσ:i<σ.length:=by rw[I.len];exact (dA.mp hi).1
 have KS:=I.KS;have tracked:∀{a:Addr}{h':Heap},(∃o,s.heap.get? a\o/\H a=none)->Heap.SameBut a 42 h'->jE 34 X.w H h':=λ{a h'} ha hs b ob e=>by
  let(_,_,Ot):=ha;show (I.bB b ob e).wD (λc w' hc q=>(hs.2 c ?_).trans q) (λ_ q=>q) λ_ _ q=>q;rintro rfl;obtain rfl|hc:=hc
  rw[Ot] at e;cases e;rw[Ot] at hc;cases hc
 obtain hk|hk:=hx
 show wpAny_storeName_local hk hn (λh' hn' hs=>?_) Qi;let(oL,_,_,UP,_):=id hn;show h _ #[I.ok,I.os,I.bare,#[λb o e n hb hx=>?_,λb o e n hb hx=>?_,I.base.free,λb o e hx=>?_,I.base.sX,I.base.ow,I.base.sY],#[_,hn',λj y v' e1 e2 e3=>?_],λy c e=>?_,I.free,I.gK,λp hp=>?_,tracked #[oL,UP,I.free] hs,by simpa using I.len] #[_,hs,.inl 9];calc (hs.2 b (gr (qH (dB e) I.ok.above))).trans (I.base.keep b o e n hb hx);let(sl,e1):=I.base.slot b o e n hb hx;calc#[sl,(hs.2 b (gr (qH (dB e) I.ok.above))).trans e1];let(o',e1):=I.base.there b o e hx;calc#[o',(hs.2 b (gr (qH (dB e) I.ok.above))).trans e1];by_cases hj:j=i;subst hj;rw[hi] at e1;cases e1;rw[EU hiσ] at e2;cases e2;calc#[u,r,.inl #[hk,by simp]];rw[wm (Ne.symm hj)] at e2;let(u',r',q):=hl j y v' e1 e2 e3;show#[u',r',?_];obtain⟨k,e⟩|⟨k,c,e,z⟩:=q
 show .inl #[k,?_];have:y≠x:=λe=>hj (wG hN e1 (e▸hi));simp[this,e];calc .inr #[k,c,e,z.sameBut hs (KS y c e)];let(w',z):=I.cell y c e;calc#[w',z.sameBut hs (KS y c e)];let(e,n,ne,nf,d):=I.pin p hp;calc#[(hs.2 p.1 ne).trans e,n,ne,nf,d];have hfn:X.fn x=true:=by
  obtain z|z:=hf
  calc z;rw[z] at hk;cases hk
 let(c,hc):=I.ok.has x (.inl hk);let(w',z):=I.cell x c hc;show wpAny_storeName_cell I.ok.kind hk hc z (λh' oy hs=>?_);let(oc,hoc,acO):=id z;show h {s with heap:=h'} #[I.ok,I.os,I.bare,#[λb o e n hb hx=>?_,λb o e n hb hx=>?_,I.base.free,λb o e hx=>?_,I.base.sX,I.base.ow,I.base.sY],#[m,hn.sameBut hs (Ne.symm (KS x c hc)),λj y v' e1 e2 e3=>?_],λy c' e=>?_,I.free,I.gK,λp hp=>?_,tracked #[oc,hoc,I.gK x c hc] hs,by simpa using I.len] #[c,hs,.inr hc];calc (hs.2 b (gr (qH (dB e) (I.ok.UN x c hfn hc)))).trans (I.base.keep b o e n hb hx);let(sl,e1):=I.base.slot b o e n hb hx;calc#[sl,(hs.2 b (gr (qH (dB e) (I.ok.UN x c hfn hc)))).trans e1];let(o',e1):=I.base.there b o e hx;calc#[o',(hs.2 b (gr (qH (dB e) (I.ok.UN x c hfn hc)))).trans e1];by_cases hj:j=i;subst hj;rw[hi] at e1;cases e1;rw[EU hiσ] at e2;cases e2;calc#[u,r,.inr #[.inl hk,c,hc,oy]];rw[wm (Ne.symm hj)] at e2;let(u',r',q):=hl j y v' e1 e2 e3;show#[u',r',?_];obtain q|⟨k,c',e,z'⟩:=q
 calc .inl q;show .inr #[k,c',e,z'.sameBut hs ?_];rintro rfl;calc hj (wG hN e1 (I.ok.inj _ _ _ e hc▸hi));by_cases hcc:c'=c;subst hcc;calc#[_,oy];let(w2,z2):=I.cell y c' e;calc#[w2,z2.sameBut hs hcc];let(e,n,ne,nf,d):=I.pin p hp;show#[(hs.2 p.1 ?_).trans e,n,ne,nf,d];intro q;rw[q,hoc] at e;have q':=Option.some.inj e;calc d w' (by rw[<- q'];calc acO)
def oz{M:Model}{E:qad}{v:V}{Q:Unit->Shared->Prop}(I:Inv X ε σ H s)(hN:X.N.Nodup)(hi:X.N[i]?\x)(hx:Loc 29 x)(r:RelV v u)(h:∀s',Inv X ε (σ.set i (some v)) H s'->Q Unit.unit s')(hf:X.fn x=true\/X.env.scope.names.lookup x\.local:=by first|calc .inl rfl|calc .inr rfl|assumption):wpAny M A (storeName 3 x u) Q E s :=
 rC I hN hi hx r (λs' I' _=>h s' I') hf
def Inv.UQ{ch:zm}(I:Inv X ε σ H s)(ho:s'.os=s.os)(u:Un (EX X.stack) ch H H' 42 s'.heap)(bB:jE 34 X.w H' s'.heap)(hg:AllBare s'.gens)(Kr:∀b∈ch,(b∈X.ex\/X.s₀.heap.objs.size<=b)/\b≠X.env.locals/\(∀x c,X.env.cells.lookup x\c->c≠b)/\∀p∈X.pn++ε,p.1≠b):Inv X ε σ H' s':=by let(h',g',d',t',o'):=s';have e:=ho;subst e;calc I.call u bB hg Kr
end
abbrev XK:=Value->qar->Hp->Prop
abbrev St:=List (Option V)
abbrev VK:=V->Hp->Prop
abbrev TE:=St->Hp->VK->Prop
abbrev TT:=St->Hp->(Bool->Hp->Prop)->Prop
abbrev TA:=St->Hp->(List V->Hp->Prop)->Prop
structure Ends where
 nx:St->Hp->Prop
 rt:VK
 bk:St->Hp->Prop:=λ_ _=>False
 ct:St->Hp->Prop:=λ_ _=>False
abbrev TS:=Ends->St->Hp->Prop
def EP(X:Cx)(ε:qaa)(σ:St)(Q:VK)(u:Value)(s':Shared):Prop:=E2 λv H'=>Inv X ε σ H' s'/\RelV v u/\Q v H'
def TP(X:Cx)(ε:qaa)(σ:St)(Q:Bool->Hp->Prop)(b:Bool)(s':Shared):Prop:=∃H',Inv X ε σ H' s'/\Q b H'
def AP(X:Cx)(ε:qaa)(σ:St)(Q:List V->Hp->Prop)(us:qag)(s':Shared):Prop:=E2 λvs H'=>Inv X ε σ H' s'/\Vals vs us/\Q vs H'
def SP(X:Cx)(ε:qaa)(D:Ends)(f:Flow)(s':Shared):Prop :=
 match f with
 |.next=>∃σ' H',Inv X ε σ' H' s'/\D.nx σ' H'
 |.brk=>∃σ' H',Inv X ε σ' H' s'/\D.bk σ' H'
 |.cont=>∃σ' H',Inv X ε σ' H' s'/\D.ct σ' H'
 |.ret u=>∃v σ' H',Inv X ε σ' H' s'/\RelV v u/\D.rt v H'
def PE(X:Cx)(e:Expr)(t:TE):Prop :=
 ∀(ε:qaa)(s:Shared)(σ:St)(H:Hp)(Q:VK),Inv X ε σ H s->t σ H Q->wpAny 16 X.A (eval e 3) (EP X ε σ Q) X.xe s
def PT(X:Cx)(e:Expr)(t:TT):Prop :=
 ∀(ε:qaa)(s:Shared)(σ:St)(H:Hp)(Q:Bool->Hp->Prop),Inv X ε σ H s->t σ H Q->wpAny 16 X.A (isTrue e 3 (eval e 3)) (TP X ε σ Q) X.xe s
def PW(X:Cx)(e:Expr)(t:TT):Prop :=
 ∀(whole:Sem Value)(ε:qaa)(s:Shared)(σ:St)(H:Hp)(Q:Bool->Hp->Prop),Inv X ε σ H s->t σ H Q->wpAny 16 X.A (isTrue e 3 whole) (TP X ε σ Q) X.xe s
def PW.pt{X:Cx}{t:TT}(h:PW X e t):PT X e t:=h _
def PA(X:Cx)(es:qap)(t:TA):Prop :=
 ∀(pos:Pos)(ε:qaa)(s:Shared)(σ:St)(H:Hp)(Q:List V->Hp->Prop),Inv X ε σ H s->t σ H Q->wpAny 16 X.A (spliced (backTo pos (starEach es 3))) (AP X ε σ Q) X.xe s
def PS(X:Cx)(st:Stmt)(t:TS):Prop :=
 ∀(ε:qaa)(s:Shared)(σ:St)(H:Hp)(D:Ends),Inv X ε σ H s->t D σ H->wpAny 16 X.A (exec st 3) (SP X ε D) X.xe s
def jT(X:Cx)(st:qaq)(t:TS):Prop :=
 ∀(ε:qaa)(s:Shared)(σ:St)(H:Hp)(D:Ends),Inv X ε σ H s->t D σ H->wpAny 16 X.A (execs st 3) (SP X ε D) X.xe s
def cy{t:Sem α}{Q Q':α->Shared->Prop}{M:Model}{E:qad}(h:wpAny M A t Q E s)(hQ:∀a s,Q a s->Q' a s):wpAny M A t Q' E s:=Ω h hQ λ_ _ x=>x
section
variable{X:Cx}
def Fv(i:Nat):TE:=λσ H Q=>∃v,σ[i]?\some v/\Q v H
def tC(v:V):TE:=λ_ H Q=>Q v H
def cc{pos:Pos}(hN:X.N[i]?\x)(hv:lN 29 x)(hd:fY x:=by decide)(f9:qy x:=by decide):PE X (.Name x pos) (Fv i):=by
 intro ε s σ H Q I h;let(v,e,h):=h;let(m,hn,hl):=I.loc;let(u,r,l):=hl i x v hN e hv;have fin:EP X ε σ Q u s:=#[v,H,I,r,h];obtain⟨hk,hm⟩|⟨hk,c,hc,Bg⟩:=l
 calc wpAny_Name (wpAny_loadName_local I.ok.kind hk hn hm fin) hd;obtain hk|hk:=hk
 calc wpAny_Name (wpAny_loadName_cell I.ok.kind hk hc Bg fin) hd;calc wpAny_Name (wpAny_loadName_free I.ok.kind hk hc Bg fin f9) hd
def Qj{i j pos}:PE X (.Constant (.int i) j pos) (tC (.int i)):=λ_ _ _ H _ I h=>wpAny_Constant_int #[.int i,H,I.tok _,#[_,9],h]
def UR{b j pos}:PE X (.Constant (.bool b) j pos) (tC (.bl b)):=λ_ _ _ H _ I h=>Constant_bool #[.bl b,H,I,9,h]
def Qk{j pos}:PE X (.Constant .none j pos) (tC .bO):=λ_ _ _ H _ I h=>Constant_none #[.bO,H,I,9,h]
def Ql{x j pos}:PE X (.Constant (.str x) j pos) (tC (.str x)):=λ_ _ _ H _ I h=>Calls.Constant_str #[.str x,H,I.tok _,#[_,9],h]
def Gl(X:Cx)(x:Str):Prop:=X.env.kindOf x=some .globalImplicit
def sZ{E:qad}{ε:qaa}{σ:St}{H:Hp}{pos:Pos}{Q:qad}(I:Inv X ε σ H s)(hg:Gl X x)(hm:X.mg x\u)(h:Q u s)(hd:fY x:=by decide):wpAny 16 X.A (eval (.Name x pos) 3) Q E s :=
 Calls.Name_function_global I.ok.kind hg (Calls.loadGlobal_global (by rw[I.ok.glob];calc I.mod.glob.keeps I.bk) hm h) hd
def lQ{E:qad}{ε:qaa}{σ:St}{H:Hp}{pos:Pos}{Q:qad}(I:Inv X ε σ H s)(hg:Gl X x)(hm:X.mg x=none)(hv:bootBuiltins x\u)(h:Q u s)(hn:x≠"__name__":=by decide)(hd:fY x:=by decide):wpAny 16 X.A (eval (.Name x pos) 3) Q E s:=by let(mb,h1,h2):=I.mod.blt;calc Calls.Name_function_global I.ok.kind hg (Calls.loadGlobal_builtin (by rw[I.ok.glob];calc I.mod.glob.keeps I.bk) hm (by rw[I.ok.blt];calc h1.keeps I.bk) ((h2 x hn).trans hv) h) hd
def KY{v:V}{pos:Pos}(hg:Gl X x)(hm:X.mg x\u)(r:RelV v u)(hd:fY x:=by decide):PE X (.Name x pos) (tC v) :=
 λ_ _ _ H _ I h=>sZ I hg hm #[v,H,I,r,h] hd
def KZ{v:V}{pos:Pos}(hg:Gl X x)(hm:X.mg x=none)(hv:bootBuiltins x\u)(r:RelV v u)(hn:x≠"__name__":=by decide)(hd:fY x:=by decide):PE X (.Name x pos) (tC v) :=
 λ_ _ _ H _ I h=>lQ I hg hm hv #[v,H,I,r,h] hn hd
variable{a:Expr}{ta tb:TE}{pos:Pos}
def tB(t:TE):TT:=λσ H Q=>t σ H λx H1=>∃c,x=.bl c/\Q c H1
def Fw{t:TE}(h:PE X e t)(he:∀whole,isTrue e 3 whole=(do let v <- whole;standAt e.pos;holding [v] (truthy v)):=by intro _;rfl):PT X e (tB t):=by intro ε s σ H Q I hw;show isTrue_plain (cy (h ε s σ H _ I hw) λv s1 #[x,H1,I1,r1,q1]=>?_) (he _);let(d,rfl,q):=q1;cases r1;calc Ξ #[H1,I1,q]
variable{tA US:TT}{rest:qap}
def acP(t u:TT):TT:=λσ H Q=>t σ H λc H1=>if c=true then u σ H1 Q else Q false H1
def tOr(t u:TT):TT:=λσ H Q=>t σ H λc H1=>if c=true then Q true H1 else u σ H1 Q
def acQ(t:TT):TT:=λσ H Q=>t σ H λc H1=>Q (!c) H1
def pw_and1(ha:PT X a tA):PW X (.BoolOp .And [a] pos) tA:=by
 intro wh ε s σ H Q I h;show isTrue_and (cy (ha ε s σ H Q I h) λc s1 e=>?_);cases c with
 |true=>calc isTrue_and_nil e
 |false=>calc e
def pw_or1(ha:PT X a tA):PW X (.BoolOp .Or [a] pos) tA:=by
 intro wh ε s σ H Q I h;show isTrue_or (cy (ha ε s σ H Q I h) λc s1 e=>?_);cases c with
 |false=>calc isTrue_or_nil e
 |true=>calc e
def pw_and(ha:PT X a tA)(hb:PW X (.BoolOp .And (b::rest) pos) US):PW X (.BoolOp .And (a::b::rest) pos) (acP tA US):=by
 intro wh ε s σ H Q I h;show isTrue_and (cy (ha ε s σ H _ I h) λc s1 #[H1,I1,q1]=>?_);cases c with
 |true=>calc hb wh ε s1 σ H1 Q I1 q1
 |false=>calc#[H1,I1,q1]
def pw_or(ha:PT X a tA)(hb:PW X (.BoolOp .Or (b::rest) pos) US):PW X (.BoolOp .Or (a::b::rest) pos) (tOr tA US):=by
 intro wh ε s σ H Q I h;show isTrue_or (cy (ha ε s σ H _ I h) λc s1 #[H1,I1,q1]=>?_);cases c with
 |true=>calc#[H1,I1,q1]
 |false=>calc hb wh ε s1 σ H1 Q I1 q1
def Qm(ha:PT X a tA):PT X (.UnaryOp .Not a pos) (acQ tA):=by intro ε s σ H Q I h;calc isTrue_not (ha ε s σ H (λc H1=>Q (!c) H1) I h)
def UT(ta tb:TE):TE:=λσ H Q=>ta σ H λx H1=>∃c,x=.bl c/\if c=true then tb σ H1 Q else Q (.bl false) H1
def acR(ta tb:TE):TE:=λσ H Q=>ta σ H λx H1=>∃c,x=.bl c/\if c=true then Q (.bl true) H1 else tb σ H1 Q
def UU(ta:TE):TE:=λσ H Q=>ta σ H λx H1=>∃c,x=.bl c/\Q (.bl (!c)) H1
def Qn{op}{t:TE}(h:PE X a t):PE X (.BoolOp op [a] pos) t:=λε s σ H Q I hw=>BoolOp_one (h ε s σ H Q I hw)
def Qo(ha:PE X a ta)(hb:PE X (.BoolOp .And (b::rest) pos) tb):PE X (.BoolOp .And (a::b::rest) pos) (UT ta tb):=by
 intro ε s σ H Q I h;show BoolOp_and (cy (ha ε s σ H _ I h) λv s1 #[x,H1,I1,r1,q1]=>?_);let(c,rfl,q1):=q1;cases r1;show Ξ ?_;cases c with
 |true=>calc hb ε s1 σ H1 Q I1 q1
 |false=>calc#[.bl false,H1,I1,9,q1]
def UW(ha:PE X a ta)(hb:PE X (.BoolOp .Or (b::rest) pos) tb):PE X (.BoolOp .Or (a::b::rest) pos) (acR ta tb):=by
 intro ε s σ H Q I h;show BoolOp_or (cy (ha ε s σ H _ I h) λv s1 #[x,H1,I1,r1,q1]=>?_);let(c,rfl,q1):=q1;cases r1;show Ξ ?_;cases c with
 |false=>calc hb ε s1 σ H1 Q I1 q1
 |true=>calc#[.bl true,H1,I1,9,q1]
def Qp(ha:PE X a ta):PE X (.UnaryOp .Not a pos) (UU ta):=by intro ε s σ H Q I h;show UnaryOp_ (cy (ha ε s σ H _ I h) λv s1 #[x,H1,I1,r1,q1]=>?_);let(c,rfl,q1):=q1;cases r1;calc not_of (Ξ #[.bl (!c),H1,I1,9,q1])
def tIf(t:TT)(ta tb:TE):TE:=λσ H Q=>t σ H λc H1=>if c=true then ta σ H1 Q else tb σ H1 Q
def Fx(hc:PT X c tA)(ha:PE X a ta)(hb:PE X b tb):PE X (.IfExp c a b pos) (tIf tA ta tb):=by
 intro ε s σ H Q I h;show wpAny_IfExp (cy (hc ε s σ H _ I h) λd s1 #[H1,I1,q1]=>?_);cases d with
 |true=>calc ha ε s1 σ H1 Q I1 q1
 |false=>calc hb ε s1 σ H1 Q I1 q1
end
def f_(K:qaf)(H:Hp)(a:Addr)(xs:List V):Prop :=
 Rd H a (.lst xs) \/
  ∃(o:Obj)(aP:Array Value)(n:Nat),K.lookup a\o/\o.cls=.type "list"/\o.dict=none/\o.data=.seq aP n/\aP.size<=sizeLine/\Vals xs aP.toList
def dO(K:qaf)(H:Hp)(a:Addr)(xs:List V):Prop :=
 Rd H a (.tup xs) \/
  ∃(o:Obj)(aP:Array Value)(n:Nat),K.lookup a\o/\o.cls=.type "tuple"/\o.data=.seq aP n/\aP.size<=sizeLine/\Vals xs aP.toList
def acS:Value->Option V
 |.none=>some .bO
 |.bool b=>some (.bl b)
 |.int i _=>some (.int i)
 |.str x _=>some (.str x)
 |.bytes b _=>some (.Z6 b)
 |.float b _=>some (.Z7 b)
 |.ref a=>some (.ref a)
 |.type n=>some (.ty n)
 |_=>none
def RelV.abs{x:V}(r:RelV x u):acS u\x:=by
 cases x with
 |bO=>cases r;rfl
 |bl _=>cases r;rfl
 |ref _=>cases r;rfl
 |ty _=>cases r;rfl
 |_=>let(t,rfl):=r;rfl
def RelV.inj{x y:V}(r:RelV x u)(q:RelV y u):x=y:=Option.some.inj (r.abs.symm.trans q.abs)
theorem Vals.inj:∀{xs ys:List V}{us:qag},Vals xs us->Vals ys us->xs=ys
 |_,_,_,.nil,.nil=>rfl
 |_,_,_,.cons r t,.cons r' t'=>by rw[r.inj r',Vals.inj t t']
section
variable{X:Cx}{ε:qaa}{σ:St}{H:Hp}{xs ys:List V}
def f_.of{K:qaf}(h:H a\.lst xs):f_ K H a xs:=.inl (.inl h)
def dO.of{K:qaf}(h:H a\.tup xs):dO K H a xs:=.inl (.inl h)
theorem Inv.list(I:Inv X ε σ H s)(h:f_ X.K H a xs):∃aP:qag,Vals xs aP/\PlainL 42 a aP.toArray/\27<=sizeLine:=by
 obtain h|⟨o,aP,n,hk,hc,hd,hs,hz,r⟩:=h
 let(z,aP,n,r,e):=h.ok I.bB;calc#[aP,r,#[_,n,e,9,9,9],z];show#[aP.toList,r,#[o,n,I.wt a o hk,hc,hd,by simpa using hs],?_];have e:=r.length;simp only[KH] at e
 lia
theorem Inv.tuple(I:Inv X ε σ H s)(h:dO X.K H a xs):∃aP:qag,Vals xs aP/\IsTup 42 a aP.toArray/\27<=sizeLine:=by
 obtain h|⟨o,aP,n,hk,hc,hs,hz,r⟩:=h
 let(z,aP,r,p):=h.ok I.bB;calc#[aP,r,p,z];show#[aP.toList,r,#[o,I.wt a o hk,hc,n,by simpa using hs],?_];have e:=r.length;simp only[KH] at e
 lia
def Inv.kG(I:Inv X ε σ H s)(h:f_ X.K H a xs)(h':f_ X.K H a ys):xs=ys:=by
 let(aP,r,(o,n,e,_,_,d),_):=I.list h;let(nB,r',(o',n',e',_,_,d'),_):=I.list h';rw[e] at e';cases e';rw[d] at d';injection d' with d1 _
 have:aP=nB:=by simpa using fv Array.toList d1
 subst this;calc r.inj r'
def Inv.lT(I:Inv X ε σ H s)(h:dO X.K H a xs)(h':dO X.K H a ys):xs=ys:=by
 let(aP,r,(o,e,_,n,d),_):=I.tuple h;let(nB,r',(o',e',_,n',d'),_):=I.tuple h';rw[e] at e';cases e';rw[d] at d';injection d' with d1 _
 have:aP=nB:=by simpa using fv Array.toList d1
 subst this;calc r.inj r'
end
abbrev Cx.qI(X:Cx)(E:qad):Cx:={X with xe:=E}
abbrev Cx.C4(X:Cx):Cx:=X.qI λ_ _=>False
def Cx.Ok.qI{X:Cx}(ok:X.Ok)(E:qad):(X.qI E).Ok :=
 #[ok.mod,ok.kind,ok.glob,ok.blt,ok.above,ok.inj,ok.has,ok.UN,ok.hd,ok.frames,ok.Y8,ok.exf,ok.bs,ok.KQ,ok.Ft,ok.KR,ok.nz,ok.Qg]
def Cx.Ok.lU{X:Cx}{E:qad}(ok:(X.qI E).Ok):X.Ok :=
 #[ok.mod,ok.kind,ok.glob,ok.blt,ok.above,ok.inj,ok.has,ok.UN,ok.hd,ok.frames,ok.Y8,ok.exf,ok.bs,ok.KQ,ok.Ft,ok.KR,ok.nz,ok.Qg]
section
variable{X:Cx}{ε:qaa}{σ:St}{H:Hp}{E:qad}
def Inv.qI(I:Inv X ε σ H s)(E:qad):Inv (X.qI E) ε σ H s:=#[I.ok.qI E,I.os,I.bare,I.base,I.loc,I.cell,I.free,I.gK,I.pin,I.bB,I.len]
def Inv.lU(I:Inv (X.qI E) ε σ H s):Inv X ε σ H s:=#[I.ok.lU,I.os,I.bare,I.base,I.loc,I.cell,I.free,I.gK,I.pin,I.bB,I.len]
def SP.lU{D:Ends}{f:Flow}(h:SP (X.qI E) ε D f s'):SP X ε D f s':=by
 cases f with
 |ret u=>let(v,σ',H',I,r,q):=h;calc#[v,σ',H',I.lU,r,q]
 |_=>let(σ',H',I,q):=h;calc#[σ',H',I.lU,q]
def jT.C4{st:qaq}{t:TS}(h:jT X.C4 st t):jT X st t:=λε s σ H D I hw=>
 Ω (h ε s σ H D (I.qI _) hw) (λ_ _ q=>q.lU) λ_ _ z=>False.elim z
end
section
variable{X:Cx}{st:Stmt}{rest:qaq}{t u:TS}{te:TE}{pos:Pos}
def Ou:TS:=λD σ H=>D.nx σ H
def acT(t u:TS):TS:=λD σ H=>t {D with nx:=u D} σ H
def Bh:jT X [] Ou:=λ_ _ σ H _ I h=>aaC #[σ,H,I,h]
def iT(h1:PS X st t)(h2:jT X rest u):jT X (st::rest) (acT t u):=by
 intro ε s σ H D I h;show wpAny_execs_cons (cy (h1 ε s σ H {D with nx:=u D} I h) λf s1 q=>?_);cases f with
 |next=>let(σ',H',I',q):=q;calc h2 ε s1 σ' H' D I' q
 |ret v=>calc q
 |_=>calc q
def kH(h1:PS X st t):jT X [st] t:=by
 intro ε s σ H D I h;show wpAny_execs_cons (cy (h1 ε s σ H D I h) λf s1 q=>?_);cases f with
 |next=>calc aaC q
 |ret v=>calc q
 |_=>calc q
def K0:PS X (.Pass pos) Ou:=λ_ _ σ H _ I h=>wpAny_Pass #[σ,H,I,h]
def Inv.quiet{ε:qaa}{σ:St}{H:Hp}(I:Inv X ε σ H s):interactive 3=false:=by simp[interactive,I.ok.kind]
def UX(te:TE):TS:=λD σ H=>te σ H λ_ H1=>D.nx σ H1
def K6(he:PE X e te)(hs:swapsWith e none pos.line 3=pure false:=by rfl):PS X (.Expr e pos) (UX te):=by intro ε s σ H D I h;calc wpAny_Expr_any (cy (he ε s σ H _ I h) λv s1 #[x,H1,I1,r1,q1]=>#[σ,H1,I1,q1]) I.quiet hs
def acU(te:TE):TS:=λD σ H=>te σ H D.rt
def y8(he:PE X e te):PS X (.Return (some e) pos) (acU te):=by intro ε s σ H D I h;calc wpAny_Return_some (cy (he ε s σ H _ I h) λv s1 #[x,H1,I1,r1,q1]=>#[x,σ,H1,I1,r1,q1])
def acV(c:TT)(t u:TS):TS:=λD σ H=>c σ H λb H1=>if b=true then t D σ H1 else u D σ H1
def Ov{a b:qaq}{tc:TT}(hc:PT X c tc)(ha:jT X a t)(hb:jT X b u):PS X (.If c a b pos) (acV tc t u):=by
 intro ε s σ H D I h;show wpAny_If (cy (hc ε s σ H _ I h) λd s1 #[H1,I1,q1]=>?_);cases d with
 |true=>calc ha ε s1 σ H1 D I1 q1
 |false=>calc hb ε s1 σ H1 D I1 q1
end
abbrev TG:=V->St->Hp->(St->Hp->Prop)->Prop
abbrev K7:=List V->St->Hp->(St->Hp->Prop)->Prop
def PG(X:Cx)(target:Expr)(t:TG):Prop :=
 ∀(ε:qaa)(s:Shared)(σ:St)(H:Hp)(v:V)(u:Value)(Q:St->Hp->Prop),Inv X ε σ H s->RelV v u->t v σ H Q ->
  wpAny 16 X.A (assign target 3 u) (λ_ s'=>∃σ' H',Inv X ε σ' H' s'/\Q σ' H') X.xe s
def Fy(X:Cx)(ts:qap)(t:K7):Prop :=
 ∀(ε:qaa)(s:Shared)(σ:St)(H:Hp)(vs:List V)(us:qag)(Q:St->Hp->Prop),Inv X ε σ H s->Vals vs us->t vs σ H Q ->
  wpAny 16 X.A (assignInOrder ((assignEach ts 3).map (·.2)) us) (λ_ s'=>∃σ' H',Inv X ε σ' H' s'/\Q σ' H') X.xe s
abbrev Qq:=V->V->V->Hp->(Hp->Prop)->Prop
def UY(X:Cx)(t:Qq):Prop :=
 ∀(ε:qaa)(s:Shared)(σ:St)(H:Hp)(o i v:V)(ov iv u:Value)(Q:Hp->Prop),Inv X ε σ H s->RelV o ov->RelV i iv->RelV v u->t o i v H Q ->
  wpAny 16 X.A (setItem ov iv u) (λ_ s'=>∃H',Inv X ε σ H' s'/\Q H') X.xe s
abbrev TIp:=V->V->Hp->VK->Prop
def PIp(X:Cx)(op:Operator)(t:TIp):Prop :=
 ∀(ε:qaa)(s:Shared)(σ:St)(H:Hp)(x y:V)(v u:Value)(Q:VK),Inv X ε σ H s->RelV x v->RelV y u->t x y H Q ->
  wpAny 16 X.A (inplaceOp op v u) (EP X ε σ Q) X.xe s
section
variable{X:Cx}{pos:Pos}
def oA(i:Nat):TG:=λv σ H Q=>Q (σ.set i (some v)) H
def s_(hN:X.N.Nodup)(hi:X.N[i]?\x)(hx:Loc 29 x)(hf:X.fn x=true\/X.env.scope.names.lookup x\.local:=by first|calc .inl rfl|calc .inr rfl|assumption):PG X (.Name x pos) (oA i):=by intro ε s σ H v u Q I r h;calc wpAny_assign_Name (oz I hN hi hx r (λs' I'=>#[_,H,I',h]) hf)
def acW:K7:=λvs σ H Q=>vs=[]/\Q σ H
def UZ(t:TG)(u:K7):K7:=λvs σ H Q=>E2 λv r=>vs=v::r/\t v σ H λσ' H'=>u r σ' H' Q
def Bi:Fy X [] acW:=by intro ε s σ H vs us Q I r h;let(e,h):=h;subst e;cases r;calc assignInOrder_nil #[σ,H,I,h]
def oB{es:qap}{t:TG}{u:K7}(h1:PG X e t)(h2:Fy X es u)(hs:(assignEach (e::es) 3).map (·.2)=assign e 3::(assignEach es 3).map (·.2):=by rfl):Fy X (e::es) (UZ t u):=by
 intro ε s σ H vs us Q I r h;let(v,vr,e1,h):=h;subst e1;cases r with
 |cons r rr=>rw[hs];calc assignInOrder_cons (cy (h1 ε s σ H _ _ _ I r h) λ_ s1 #[σ1,H1,I1,q1]=>h2 ε s1 σ1 H1 _ _ Q I1 rr q1)
def acX(K:qaf)(n:Nat)(t:K7):TG:=λv σ H Q=>E2 λa xs=>v=.ref a/\dO K H a xs/\27=n/\t xs σ H Q
def Fz{es:qap}{k:Nat}{t:K7}(hc:X.calm=true)(h:Fy X es t)(hn:(assignEach es 3).length=n:=by rfl)(C5:(assignEach es 3).findIdx? (·.1)=none:=by rfl):PG X (.Tuple es k pos) (acX X.K n t):=by intro ε s σ H v u Q I r hw;let(a,xs,e1,hq,hl,hw):=hw;subst e1;cases r;let(aP,rv,ht,hz):=I.tuple hq;show assign_Tuple_tuple (I.ok.hd hc) ht (by simp[hn,<- hl,rv.length]) C5 λh' hx=>?_;have I1:=I.kept (t':=s.toks) λb o e=>hx b o (gr (dB e)) e;calc h ε _ σ H xs _ Q I1 (by simpa using rv) hw
def acY(to ti:TE)(t:Qq):TG:=λv σ H Q=>to σ H λo H1=>ti σ H1 λi H2=>t o i v H2 λH3=>Q σ H3
def Qr{o i:Expr}{to ti:TE}{t:Qq}(ho:PE X o to)(hi:PE X i ti)(hs:UY X t)(ha:∀v,assign (.Subscript o i pos) 3 v=(do
    let ov <- holding [v] (eval o X.env)
    let iv <- holding [v,ov] (eval i X.env)
    standAt pos
    holding [v,ov,iv] (setItem ov iv v)
    release [v,ov,iv] []):=by intro _;rfl):PG X (.Subscript o i pos) (acY to ti t):=by
 intro ε s σ H v u Q I r h;calc ζ (rk (cy (ho ε s σ H _ I h) λov s1 #[x,H1,I1,r1,q1]=>ζ (rk (cy (hi ε s1 σ H1 _ I1 q1) λiv s2 #[y,H2,I2,r2,q2]=>ζ (wpAny_standAt (ζ (rk (cy (hs ε s2 σ H2 x y v ov iv u _ I2 r1 r2 r q2) λ_ s3 #[H3,I3,q3]=>wpAny_release #[σ,H3,I3,q3]))))))))
def K8(te:TE)(g:TG):TS:=λD σ H=>te σ H λx H1=>g x σ H1 D.nx
def y9{tg:Expr}{te:TE}{g:TG}(he:PE X e te)(hg:PG X tg g)(hs:swapsWithSole [tg] e pos.line 3=pure false:=by rfl)(hw:swappedStores [tg] e 3=pure none:=by rfl)(h1:(assignEach [tg] 3).map (·.2)=[assign tg 3]:=by rfl):PS X (.Assign [tg] e pos) (K8 te g):=by intro ε s σ H D I h;show wpAny_Assign_stores (cy (he ε s σ H _ I h) λv s1 #[x,H1,I1,r1,q1]=>?_) hs hw;rw[h1];calc cy (hg ε s1 σ H1 x v _ I1 r1 q1) λ_ s2 q=>q
def tf{te:TE}(hN:X.N.Nodup)(hi:X.N[i]?\x)(hx:Loc 29 x)(he:PE X e te)(hs:swapsWith e (some (.Name x pos')) pos.line 3=pure false:=by rfl)(hf:X.fn x=true\/X.env.scope.names.lookup x\.local:=by first|calc .inl rfl|calc .inr rfl|assumption) :
  PS X (.Assign [.Name x pos'] e pos) (K8 te (oA i)):=by
 intro ε s σ H D I h;calc wpAny_Assign_Name (cy (he ε s σ H _ I h) λv s1 #[y,H1,I1,r1,q1]=>oz I1 hN hi hx r1 (λs2 I2=>#[_,H1,I2,q1]) hf) hs
def acZ(i:Nat)(te:TE)(ti:TIp):TS:=λD σ H=>∃x,σ[i]?\some x/\te σ H λy H1=>ti x y H1 λz H2=>D.nx (σ.set i (some z)) H2
def Qs{te:TE}{op:Operator}{ti:TIp}(hN:X.N.Nodup)(hi:X.N[i]?\x)(hx:Loc 29 x)(he:PE X e te)(ho:PIp X op ti)(hf:X.fn x=true\/X.env.scope.names.lookup x\.local:=by first|calc .inl rfl|calc .inr rfl|assumption) :
  PS X (.AugAssign (.Name x pos') op e pos) (acZ i te ti):=by
 intro ε s σ H D I h;let(v,e1,h):=h;let(m,hn,hl):=I.loc;have vis:lN 29 x:=by obtain k|k:=hx;calc .inl k;exact .inr (.inl k)
 let(u,r,l):=hl i x v hi e1 vis;show wpAny_AugAssign_Name ?_;have go:wpAny 16 X.A (eval e 3) (λw s₂=>wpAny 16 X.A (inplaceOp op u w) (λr s₃=>wpAny 16 X.A (storeName 3 x r) (λ_=>SP X ε D .next) X.xe s₃) X.xe s₂) X.xe s:=cy (he ε s σ H _ I h) λw s1 #[y,H1,I1,r1,q1]=>cy (ho ε s1 σ H1 v y u w _ I1 r r1 q1) λz s2 #[zv,H2,I2,r2,q2]=>oz I2 hN hi hx r2 (λs3 I3=>#[_,H2,I3,q2]) hf;obtain⟨hk,hm⟩|⟨hk,c,hc,Bg⟩:=l
 calc wpAny_loadName_local I.ok.kind hk hn hm go;obtain hk|hk:=hk
 calc wpAny_loadName_cell I.ok.kind hk hc Bg go;obtain k|k:=hx
 have:X.env.scope.names.lookup x\.free:=hk;rw[k] at this;cases this;have:X.env.scope.names.lookup x\.free:=hk;rw[k] at this;cases this
end
section
variable{X:Cx}{pos:Pos}
def Qt(c:TT)(tb:TS):TS:=λD σ H=>∃W:Nat->St->Hp->Prop,(∃m,W m σ H)/\∀m σ H,W m σ H ->
 c σ H λb H1=>if b=true then ∃N:St->Hp->Prop,(∀σ' H',N σ' H'->∃m',m'<m/\W m' σ' H')/\tb {D with nx:=N,ct:=N,bk:=D.nx} σ H1 else D.nx σ H1
def oC{body:qaq}{tc:TT}{tb:TS}(hp:PassesOwn 16 X.A 3 X.xe)(hc:PT X c tc)(hb:jT X body tb):PS X (.While c body [] pos) (Qt tc tb):=by
 intro ε s σ H D I h;let(W,(m0,w0),turn):=h;show wpAny_While (codeAny_whileLoop (λn s'=>∃σ' H',Inv X ε σ' H' s'/\W n σ' H') ?_ m0 #[σ,H,I,w0]);rintro n s1 ⟨σ1,H1,I1,w1⟩;show aai hp (cy (hc ε s1 σ1 H1 _ I1 (turn n σ1 H1 w1)) λb s2 #[H2,I2,q2]=>?_);cases b with
 |true=>
  let(N,hN,q2):=q2;show aai hp (cy (hb ε s2 σ1 H2 _ I2 q2) λf s3 q3=>?_);cases f with
  |next=>let(σ3,H3,I3,n3):=q3;let(m',hm,w3):=hN σ3 H3 n3;calc#[m',hm,σ3,H3,I3,w3]
  |cont=>let(σ3,H3,I3,n3):=q3;let(m',hm,w3):=hN σ3 H3 n3;calc#[m',hm,σ3,H3,I3,w3]
  |brk=>calc q3
  |ret v=>calc q3
 |false=>calc aaC #[σ1,H2,I2,q2]
end
structure It where
 go:Nat->Hp->Prop
 TX:Nat->Hp->V->Hp->Prop
 stop:Nat->Hp->Prop
def lV(X:Cx)(ε:qaa)(H:Hp)(b:Addr):Prop :=
 H b=none/\b≠X.env.locals/\b∉X.fs/\(b∈X.ex\/X.s₀.heap.objs.size<=b)/\(∀x c,X.env.cells.lookup x\c->c≠b)/\∀p∈X.pn++ε,p.1≠b
def Inv.nC{X:Cx}{ε:qaa}{σ:St}{H H':Hp}{b:Addr}(I:Inv X ε σ H s)(hb:8<=b)(hn:H' b=none):lV X ε H' b:=by show#[hn,C0 (qH I.lt hb),I.acN hb,.inr (jS I.sz hb),λx c e z=>?_,λp hp z=>?_];let(v,q):=I.cell x c e;calc absurd (qH q.lt (by rw[z];calc hb)) (CY _);calc absurd (qH (dB (I.pin p hp).1) (by rw[z];calc hb)) (CY _)
structure Turn(P:Program)(w:World)(K:qaf)(tg:Expr)(J:It)(fp:zm)(it:Addr)(tn:Nat->Heap->Prop):Prop where
 mem:it∈fp
 obj:∀i h,tn i h->∀b∈fp,∃o,h.get? b\o/\∀v,o.data≠.cell v
 keep:∀i h h',tn i h->(∀b∈fp,∀o,h.get? b\o->h'.get? b\o)->tn i h'
 item:∀(X:Cx),34=P->X.w=w->X.K=K->X.calm=true->∀(i:Nat)(ε:qaa)(s:Shared)(σ:St)(H:Hp)(E:qad),Inv X ε σ H s->(∀b∈fp,lV X ε H b)->tn i 42->J.go i H ->
  wpAny (model P w) X.A (pyNext (.ref it)) (λr s1=>∃u,r\u /\
   wpAny (model P w) X.A (letOwnedTupleGo tg (.ref it) u) (λ_ s2=>∃x H',Inv X ε σ H' s2/\RelV x u/\J.TX i H x H'/\tn (i+1) s2.heap/\∀b∈fp,H' b=none) E s1) E s
 done:∀(X:Cx),34=P->X.w=w->X.K=K->X.calm=true->∀(i:Nat)(ε:qaa)(s:Shared)(σ:St)(H:Hp)(E:qad),Inv X ε σ H s->(∀b∈fp,lV X ε H b)->tn i 42->J.stop i H ->
  wpAny (model P w) X.A (pyNext (.ref it)) (λr s1=>r=none/\Inv X ε σ H s1) E s
 self:∀(A:Around)(i:Nat)(s:Shared)(Q:qad)(E:qad),tn i 42->Q (.ref it) s->wpAny (model P w) A (pyIter (.ref it)) Q E s
abbrev TI:=St->Hp->(It->Hp->Prop)->Prop
def PIE(X:Cx)(ε:qaa)(σ:St)(tg:Expr)(R:It->Hp->Prop)(Y_:Value)(s2:Shared):Prop :=
 ∃(it:Addr)(fp:zm)(tn:Nat->Heap->Prop)(J:It)(H':Hp),Y_=.ref it/\Inv X ε σ H' s2/\Turn 34 X.w X.K tg J fp it tn/\tn 0 s2.heap/\(∀b∈fp,lV X ε H' b)/\R J H'
def PI(X:Cx)(tg iter:Expr)(wi:TI):Prop :=
 ∀(ε:qaa)(s:Shared)(σ:St)(H:Hp)(R:It->Hp->Prop),Inv X ε σ H s->wi σ H R ->
  wpAny 16 X.A (eval iter 3) (λv s1=>wpAny 16 X.A (pyIter v) (PIE X ε σ tg R) X.xe s1) X.xe s
def wH{M:Model}{E:qad}{tg:Expr}{n:String}{vs:Array Value}{Q:Unit->Shared->Prop}(ho:s.heap.get? it\o)(hc:o.cls=.type n)(hd:o.data=.fields vs)(hn:["enumerate","zip","dict_itemiterator","dict_reverseitemiterator","odict_iterator","itertools.zip_longest","itertools.pairwise"].contains n=false)(hQ:Q Unit.unit s):wpAny M A (letOwnedTupleGo tg (.ref it) u) Q E s:=by
 cases tg<;>first
  |calc η hQ
  | (cases u<;>first
      |calc η hQ
      | (show ζ (wpAny_load ho ?_)
         rw[hc,hd];change wpAny M A (if (["enumerate","zip","dict_itemiterator","dict_reverseitemiterator","odict_iterator","itertools.zip_longest","itertools.pairwise"].contains n && vs[0]?==some (rawInt _))=true then _ else _) Q E s;rw[θ (by intro h;rw[hn,Km] at h;cases h)];calc η hQ))
def Itl(K:qaf)(a:Addr):It :=
 #[λi H=>∃xs x,f_ K H a xs/\xs[i]?\x,λi H x H'=>H'=H/\∀xs,f_ K H a xs->xs[i]?\x,λi H=>∃xs,f_ K H a xs/\27<=i]
def Itt(K:qaf)(a:Addr):It :=
 #[λi H=>∃xs x,dO K H a xs/\xs[i]?\x,λi H x H'=>H'=H/\∀xs,dO K H a xs->xs[i]?\x,λi H=>∃xs,dO K H a xs/\27<=i]
def Y'(lo:Int)(n:Nat):It:=#[λi _=>i<n,λi H x H'=>H'=H/\x=.int (lo+i),λi _=>n<=i]
def C6{K:qaf}{tg:Expr}(a it:Addr):Turn P w K tg (Itl K a) [it] it (λi h=>h.IsListIter it a i) where
 mem:=by simp
 obj:=λi h st b hb=>by
  have e:b=it:=by simpa using hb
  subst e;let(o,e,c,d):=st;exact#[o,e,λv z=>by rw[d] at z;cases z]
 keep:=λi h h' st k=>st.at λo e=>k it 4 o e
 item:=by intro X hP hw hK hc i ε s σ H E I hf st hg;subst hP hw hK;let(xs,x,hq,hx):=hg;let(aP,rv,p,hz):=I.list hq;let(u,hu,ru):=rv.get hx;let(f0,f1,f2,f3,f4,f5):=hf it 4;show wpAny_pyNext_list_item st p.isList (by simpa using hu) λh' bp sb=>?_;have I1:=I.turned (t':=s.toks) (λb o hb e=>(sb.2 b hb).trans e) f0 f1 f3 f4 f5;let(o,e,c,d):=id bp;exact#[u,9,wH e c d 5 #[x,H,I1,ru,#[9,λys hy=>by rw[I.kG hy hq];calc hx],bp,λb hb=>(hf b hb).1]]
 done:=by intro X hP hw hK hc i ε s σ H E I hf st hg;subst hP hw hK;let(xs,hq,hx):=hg;let(aP,rv,p,hz):=I.list hq;let(f0,f1,f2,f3,f4,f5):=hf it 4;have hl:=rv.length;exact wpAny_pyNext_list_end (I.ok.hd hc) st p.isList (by simp;lia) λh' eb=>#[9,I.turned (t':=s.toks) (λb o hb e=>eb b o hb e) f0 f1 f3 f4 f5]
 self:=λ_ _ _ _ _ st h=>wpAny_pyIter_listiter st h
def y_{K:qaf}{tg:Expr}(a it:Addr):Turn P w K tg (Itt K a) [it] it (λi h=>h.IsTupleIter it a i) where
 mem:=by simp
 obj:=λi h st b hb=>by
  have e:b=it:=by simpa using hb
  subst e;let(o,e,c,d):=st;exact#[o,e,λv z=>by rw[d] at z;cases z]
 keep:=λi h h' st k=>st.at λo e=>k it 4 o e
 item:=by intro X hP hw hK hc i ε s σ H E I hf st hg;subst hP hw hK;let(xs,x,hq,hx):=hg;let(aP,rv,p,hz):=I.tuple hq;let(u,hu,ru):=rv.get hx;let(f0,f1,f2,f3,f4,f5):=hf it 4;show wpAny_pyNext_tuple_item st (show s.heap.IsTuple a aP.toArray from p) (by simpa using hu) λh' bp sb=>?_;have I1:=I.turned (t':=s.toks) (λb o hb e=>(sb.2 b hb).trans e) f0 f1 f3 f4 f5;let(o,e,c,d):=id bp;exact#[u,9,wH e c d 5 #[x,H,I1,ru,#[9,λys hy=>by rw[I.lT hy hq];calc hx],bp,λb hb=>(hf b hb).1]]
 done:=by intro X hP hw hK hc i ε s σ H E I hf st hg;subst hP hw hK;let(xs,hq,hx):=hg;let(aP,rv,p,hz):=I.tuple hq;let(f0,f1,f2,f3,f4,f5):=hf it 4;have hl:=rv.length;exact wpAny_pyNext_tuple_end (I.ok.hd hc) st (show s.heap.IsTuple a aP.toArray from p) (by simp;lia) λh' eb=>#[9,I.turned (t':=s.toks) (λb o hb e=>eb b o hb e) f0 f1 f3 f4 f5]
 self:=λ_ _ _ _ _ st h=>wpAny_pyIter_tupleiter st h
def za{K:qaf}{tg:Expr}(it:Addr)(lo:Int)(n:Nat):Turn P w K tg (Y' lo n) [it] it (λi h=>IsRangeIter h it (lo+(i:Nat) * 1) ((n:Int)-(i:Nat)) 1) where
 mem:=by simp
 obj:=λi h st b hb=>by
  have e:b=it:=by simpa using hb
  subst e;exact#[_,st,λv z=>by have z':=z;cases z']
 keep:=λi h h' st k=>k it 4 _ st
 item:=by intro X hP hw hK hc i ε s σ H E I hf st hg;subst hP hw hK;let(f0,f1,f2,f3,f4,f5):=hf it 4;have W:=Walks.range (prog:=34) (w:=X.w) (I.ok.hd hc) it lo 1 n;show W.item i s _ _ hg st λv h' tk hv bp kk=>?_;let(t,rfl):=hv;have I1:Inv X ε σ H {s with heap:=h',toks:=tk}:=I.turned (λb o hb e=>kk b o (by simpa using hb) e) f0 f1 f3 f4 f5;show#[_,9,wH bp 9 9 5 #[.int (lo+i),H,I1,#[t,?_],#[9,9],bp,λb hb=>(hf b hb).1]];rw[Int.mul_one]
 done:=by intro X hP hw hK hc i ε s σ H E I hf st hg;subst hP hw hK;let(f0,f1,f2,f3,f4,f5):=hf it 4;exact wpAny_pyNext_range_end (I.ok.hd hc) st (by have:n<=i:=hg;lia) λh' eb=>#[9,I.turned (λb o hb e=>eb b o hb e) f0 f1 f3 f4 f5]
 self:=λ_ _ _ _ _ st h=>wpAny_pyIter_rangeiter st h
section
variable{X:Cx}{tg:Expr}
theorem FC{ε:qaa}{σ:St}{H:Hp}{R:It->Hp->Prop}{E:qad}{lo hi:Int}{t u v:Tok}{tk:Nat}(I:Inv X ε σ H s)(h1 : -(2 ^ 62)<=lo)(h2:lo<2 ^ 62)(h3 : -(2 ^ 62)<=hi)(h4:hi<2 ^ 62)(q:R (Y' lo (hi-lo).toNat) H):wpAny 16 X.A (pyIter 24) (PIE X ε σ tg R) E {s with heap:=s.heap.push {cls:=.type "range",data:=.fields ([.int lo t,.int hi u,.int 1 v].toArray)},toks:=tk}:=by
 show wpAny_pyIter_range (IsRange.new ..) (small_one h1 h2 h3 h4) ?_;have I1:Inv X ε σ H {s with heap:=s.heap.push {cls:=.type "range",data:=.fields ([.int lo t,.int hi u,.int 1 v].toArray)},toks:=tk}:=I.kept λb o e=>de _ e;show#[(s.heap.push {cls:=.type "range",data:=.fields ([.int lo t,.int hi u,.int 1 v].toArray)}).objs.size,[(s.heap.push {cls:=.type "range",data:=.fields ([.int lo t,.int hi u,.int 1 v].toArray)}).objs.size],_,_,H,9,
  I1.kept λb o e=>de _ e,za _ lo (hi-lo).toNat,?_,λb hb=>?_,q]
 have e1:lo+((0:Nat):Int) * 1=lo:=by simp
 have e2:(((hi-lo).toNat:Nat):Int)-((0:Nat):Int)=Builtin.Range.rangeSize lo hi 1:=by rw[rangeSize_one];split<;>lia
 rw[e1,e2];calc hW _ 9;have e:b=(s.heap.push {cls:=.type "range",data:=.fields ([.int lo t,.int hi u,.int 1 v].toArray)}).objs.size:=by simpa using hb
 subst e;calc I1.nC (cD _) (I1.bB.fresh (cD _))
def U0(ta:TA):TI:=λσ H R=>ta σ H λvs H1=>∃j:Int,vs=[.int j]/\-(2 ^ 62)<=j/\j<2 ^ 62/\R (Y' 0 j.toNat) H1
theorem C7{a:Expr}{ta:TA}{pos:Pos}(hg:Gl X "range")(hm:X.mg "range"=none)(ha:PA X [a] ta)(hs:starEach [a] 3=[(false,eval a 3)]:=by rfl):PI X tg (.Call (.Name "range" p) [a] [] pos) (U0 ta):=by
 intro ε s σ H R I h;show Call_ (lQ I hg hm boot_range (YH (cy (ha pos ε s σ H _ I h) λus s1 #[vs,H1,I1,r1,q1]=>?_) hs 9));let(j,e,q1,q2,q):=q1;subst e;cases r1 with
 |cons r rr=>cases rr;let(t,rfl):=r;calc call_range_1 (FC I1 () () q1 q2 (by simpa using q))
def U1(wi:TI)(g:TG)(tb:TS):TS:=λD σ H=>wi σ H λJ H1=>∃W:Nat->Nat->St->Hp->Prop,(∃m,W 0 m σ H1)/\∀i m σ H,W i m σ H ->
 (J.stop i H/\D.nx σ H)\/(J.go i H/\∃N:St->Hp->Prop,(∀σ' H',N σ' H'->∃m',m'<m/\W (i+1) m' σ' H')/\∀x H',J.TX i H x H'->g x σ H' λσ2 H2=>tb {D with nx:=N,ct:=N,bk:=D.nx} σ2 H2)
def oE(fp:zm)(h:Heap):qaa:=fp.filterMap λb=>(h.get? b).map λo=>(b,o)
def hX{fp:zm}{b:Addr}(hb:b∈fp)(e:h.get? b\o):(b,o)∈oE fp h:=YX.mpr #[b,hb,by rw[e];rfl]
def C8{fp:zm}{p:Addr×Obj}(hp:p∈oE fp h):p.1∈fp/\h.get? p.1\p.2:=by
 let(b,hb,e):=YX.mp hp;cases q:h.get? b with
 |none=>rw[q] at e;cases e
 |some o=>rw[q] at e;have e':=Option.some.inj e;subst e';calc#[hb,q]
def Inv.pinned{ε:qaa}{σ:St}{H:Hp}{fp:zm}(I:Inv X ε σ H s)(hf:∀b∈fp,lV X ε H b)(ho:∀b∈fp,∃o,s.heap.get? b\o/\∀v,o.data≠.cell v):Inv X (ε++oE fp 42) σ H s :=
 I.Be λp hp=>(fu.mp hp).elim (λz=>I.pin p (gE _ z)) λz=>by let(hb,e):=C8 z;let(f0,f1,f2,_):=hf p.1 hb;let(o,e',d):=ho p.1 hb;rw[e] at e';cases e';calc#[e,f0,f1,f2,d]
def Inv.kJ{ε pl:qaa}{σ:St}{H:Hp}(I:Inv X (ε++pl) σ H s):Inv X ε σ H s:=I.Be λp hp=>I.pin p (gE _ (fW _ hp))
def tq{body:qaq}{wi:TI}{g:TG}{tb:TS}{pos:Pos}(hp:PassesOwn 16 X.A 3 X.xe)(hc:X.calm=true)(hi:PI X tg iter wi)(hg:PG X tg g)(hb:jT X body tb)(hs:∀x,foldedSetIterable iter 3 x=pure x:=by intro _;rfl):PS X (.For tg iter body [] pos) (U1 wi g tb):=by
 intro ε s σ H D I h;show wpAny_For (cy (hi ε s σ H _ I h) λv s1 h1=>cy h1 λY_ s2 h2=>?_) hs;let(it,fp,tn,J,H2,e,I2,T,tu,f2,W,(m0,w0),turn):=h2;subst e;have Qu:∀{H':Hp},(∀b∈fp,H' b=none)->∀b∈fp,lV X ε H' b:=λhn b hb=>#[hn b hb,(f2 b hb).2];show codeAny_forLoop_any (λn s'=>∃i σ' H',Inv X ε σ' H' s'/\tn i s'.heap/\(∀b∈fp,H' b=none)/\W i n σ' H') ?_ m0 #[0,σ,H2,I2,tu,λb hb=>(f2 b hb).1,w0];rintro n s3 ⟨i,σ3,H3,I3,Qv,U2,w3⟩;rcases turn i n σ3 H3 w3 with⟨stop,qn⟩|⟨go,N,hN,step⟩
 . show aai hp (cy (T.done X 9 9 9 hc i ε s3 σ3 H3 X.xe I3 (Qu U2) Qv stop) λr s4 #[hr,I4]=>?_);subst hr;exact aaC #[σ3,H3,I4,qn]
 show aai hp (cy (T.item X 9 9 9 hc i ε s3 σ3 H3 X.xe I3 (Qu U2) Qv go) λr s4 #[u,hr,h4]=>?_);subst hr;show aai hp (cy h4 λ_ s5 #[x,H5,I5,r5,y5,Ow,fr5]=>?_);have I5':=I5.pinned (Qu fr5) (T.obj _ _ Ow);show aai hp (cy (hg _ s5 σ3 H5 x u _ I5' r5 (step x H5 y5)) λ_ s6 #[σ6,H6,I6,q6]=>aai hp (cy (hb _ s6 σ6 H6 _ I6 q6) λf s7 q7=>?_));have again:∀{σ7:St}{H7:Hp},Inv X (ε++oE fp s5.heap) σ7 H7 s7->N σ7 H7->∃m,m<n/\∃i σ' H',Inv X ε σ' H' s7/\tn i s7.heap/\(∀b∈fp,H' b=none)/\W i m σ' H':=λ{σ7 H7} I7 n7=>by let(m',hm,w7):=hN σ7 H7 n7;show#[m',hm,i+1,σ7,H7,I7.kJ,T.keep _ _ _ Ow λb hb o e=>(I7.pin (b,o) (gE _ (gE _ (hX hb e)))).1,λb hb=>?_,w7];let(o,e,d):=T.obj _ _ Ow b hb;exact (I7.pin (b,o) (gE _ (gE _ (hX hb e)))).2.1
 cases f with
 |brk=>let(σ7,H7,I7,q7):=q7;calc#[σ7,H7,I7.kJ,q7]
 |ret v=>let(x7,σ7,H7,I7,r7,q7):=q7;calc#[x7,σ7,H7,I7.kJ,r7,q7]
 |_=>let(σ7,H7,I7,n7):=q7;calc again I7 n7
end
abbrev R2:=V->V->Hp->VK->Prop
def fm(X:Cx)(f:Value->Value->Sem Value)(r:R2):Prop :=
 ∀(ε:qaa)(s:Shared)(σ:St)(H:Hp)(x y:V)(v u:Value)(Q:VK),Inv X ε σ H s->RelV x v->RelV y u->r x y H Q ->
  wpAny 16 X.A (f v u) (EP X ε σ Q) X.xe s
def UnR(X:Cx)(f:Value->Sem Value)(r:V->Hp->VK->Prop):Prop :=
 ∀(ε:qaa)(s:Shared)(σ:St)(H:Hp)(x:V)(v:Value)(Q:VK),Inv X ε σ H s->RelV x v->r x H Q ->
  wpAny 16 X.A (f v) (EP X ε σ Q) X.xe s
def c5(X:Cx)(f:Value)(r:List V->Hp->VK->Prop):Prop :=
 ∀(ε:qaa)(s:Shared)(σ:St)(H:Hp)(xs:List V)(us:qag)(Q:VK),Inv X ε σ H s->Vals xs us->r xs H Q ->
  wpAny 16 X.A (call f us) (EP X ε σ Q) X.xe s
def U3(r:R2)(ta tb:TE):TE:=λσ H Q=>ta σ H λx H1=>tb σ H1 λy H2=>r x y H2 Q
def tUn(r:V->Hp->VK->Prop)(ta:TE):TE:=λσ H Q=>ta σ H λx H1=>r x H1 Q
def rI(C:Int->Int->Prop)(g:Int->Int->V):R2:=λx y H Q=>E2 λi j=>x=.int i/\y=.int j/\C i j/\Q (g i j) H
def qA(g:Int->Int->V):R2:=λx y H Q=>E2 λi j=>x=.int i/\y=.int j/\Q (g i j) H
def rU(g:Int->V):V->Hp->VK->Prop:=λx H Q=>∃i,x=.int i/\Q (g i) H
section
variable{X:Cx}{a:Expr}{ta tb tc:TE}{pos:Pos}
def Qw(ha:PE X a ta)(hb:PE X b tb){ε:qaa}{σ:St}{H:Hp}{R:V->V->Hp->Prop}(I:Inv X ε σ H s)(h:ta σ H λx H1=>tb σ H1 λy H2=>R x y H2){Q:qad}{f:Value->Value->Sem Value}(hf:∀v u s2 x y H2,Inv X ε σ H2 s2->RelV x v->RelV y u->R x y H2->wpAny 16 X.A (f v u) Q X.xe s2) :
 wpAny 16 X.A (eval a 3) (λv s₁=>wpAny 16 X.A (eval b 3) (λu s₂=>wpAny 16 X.A (f v u) Q X.xe s₂) X.xe s₁) X.xe s:=cy (ha ε s σ H _ I h) λv s1 #[x,H1,I1,r1,q1]=>cy (hb ε s1 σ H1 _ I1 q1) λu s2 #[y,H2,I2,r2,q2]=>hf v u s2 x y H2 I2 r1 r2 q2
def Oy{op:Operator}{r:R2}(ho:fm X (binaryOp op) r)(ha:PE X a ta)(hb:PE X b tb):PE X (.BinOp a op b pos) (U3 r ta tb):=by intro ε s σ H Q I h;calc wpAny_BinOp (Qw ha hb I h λv u s2 x y H2 I2 rx ry q=>ho ε s2 σ H2 x y v u Q I2 rx ry q)
def U4{op:UnaryOp}{r:V->Hp->VK->Prop}(ho:UnR X (unaryOp op) r)(ha:PE X a ta):PE X (.UnaryOp op a pos) (tUn r ta):=by intro ε s σ H Q I h;calc UnaryOp_ (cy (ha ε s σ H _ I h) λv s1 #[x,H1,I1,r1,q1]=>ho ε s1 σ H1 x v Q I1 r1 q1)
def TY{f:Value->Value->Sem Value}{C:Int->Int->Prop}{g:Int->Int->Int}(rule:∀(i j:Int) (t u:Tok) (s:Shared) (Q:qad) (E:qad),C i j->Q (.int (g i j) s.toks) {s with toks:=s.toks+1}->wpAny 16 X.A (f (.int i t) (.int j u)) Q E s) :
  fm X f (rI C λi j=>.int (g i j)):=by
 intro ε s σ H x y v u Q I rx ry h;let(i,j,rfl,rfl,hc,q):=h;let(t,rfl):=rx;let(t',rfl):=ry;calc rule i j t t' s _ _ hc #[.int (g i j),H,I.tok _,#[_,9],q]
def C9{f:Value->Value->Sem Value}{g:Int->Int->Int}(rule:∀(i j:Int) (t u:Tok) (s:Shared) (Q:qad) (E:qad),Q (.int (g i j) s.toks) {s with toks:=s.toks+1}->wpAny 16 X.A (f (.int i t) (.int j u)) Q E s) :
  fm X f (qA λi j=>.int (g i j)):=by
 intro ε s σ H x y v u Q I rx ry h;let(i,j,rfl,rfl,q):=h;let(t,rfl):=rx;let(t',rfl):=ry;calc rule i j t t' s _ _ #[.int (g i j),H,I.tok _,#[_,9],q]
def Qx{f:Value->Value->Sem Value}{g:Int->Int->Bool}(rule:∀(i j:Int) (t u:Tok) (s:Shared) (Q:qad) (E:qad),Q (.bool (g i j)) s->wpAny 16 X.A (f (.int i t) (.int j u)) Q E s) :
  fm X f (qA λi j=>.bl (g i j)):=by
 intro ε s σ H x y v u Q I rx ry h;let(i,j,rfl,rfl,q):=h;let(t,rfl):=rx;let(t',rfl):=ry;calc rule i j t t' s _ _ #[.bl (g i j),H,I,9,q]
def U5(i j:Int):Prop:=0<j/\j<1073741824
def K9(i j:Int):Prop:=0<=j/\j<=1000000/\i.natAbs<2 ^ 64
def FD(i j:Int):Prop:=(-(2 ^ 64)<i/\i<2 ^ 64)\/(-(2 ^ 64)<j/\j<2 ^ 64)
def FD.ok{i j:Int}(h:FD i j):IntMulOk i j:=by
 obtain⟨h1,h2⟩|⟨h1,h2⟩:=h
 calc .of_left (intBits_le_64 h1 h2);calc .of_right (intBits_le_64 h1 h2)
def zc(k:Nat):(0:Int)<=2 ^ k:=Uz _
def Qy:fm X (binaryOp .Add) (qA λi j=>.int (i+j)):=C9 λ_ _ _ _ _ _ _ q=>add_int q
def Qz:fm X (binaryOp .Sub) (qA λi j=>.int (i-j)):=C9 λ_ _ _ _ _ _ _ q=>sub_int q
def QA:fm X (binaryOp .Mult) (rI FD λi j=>.int (i * j)):=TY λ_ _ _ _ _ _ _ hc q=>mul_int q hc.ok
theorem K_:fm X (binaryOp .FloorDiv) (rI U5 λi j=>.int (i / j)):=TY λi j _ _ _ _ _ hc q=>by have h1:=hc.1;have h2:=hc.2;calc floordiv_int () (by rw[Int.fdiv_eq_ediv_of_nonneg i ()];calc q) (.inl (PyProof.noPylong_small ()))
theorem QB:fm X (binaryOp .Mod) (rI (λ_ j=>0<j) λi j=>.int (i % j)):=TY λi j _ _ _ _ _ hc q=>mod_int' () (by rw[Int.fmod_eq_emod_of_nonneg i ()];calc q)
def QC:fm X (binaryOp .Pow) (rI K9 λi j=>.int (i ^ j.toNat)):=TY λ_ _ _ _ _ _ _ hc q=>pow_int_small hc.1 hc.2.1 hc.2.2 q
def QD:fm X (binaryOp .LShift) (rI K9 λi j=>.int (i * 2 ^ j.toNat)):=TY λ_ _ _ _ _ _ _ hc q=>lshift_int_small hc.1 hc.2.1 hc.2.2 q
def QE:fm X (binaryOp .RShift) (rI (λ_ j=>0<=j) λi j=>.int (i / 2 ^ j.toNat)):=TY λi j _ _ _ _ _ hc q=>
 rshift_int hc (by rw[Int.fdiv_eq_ediv_of_nonneg i (zc _)];calc q)
def QF:fm X (binaryOp .BitAnd) (qA λi j=>.int (Builtin.bitAnd i j)):=C9 λ_ _ _ _ _ _ _ q=>and_int q
def U6:fm X (binaryOp .BitOr) (qA λi j=>.int (Builtin.bitOr i j)):=C9 λ_ _ _ _ _ _ _ q=>or_int q
def K':fm X (inplaceOp .Add) (qA λi j=>.int (i+j)):=C9 λ_ _ _ _ _ _ _ q=>iadd_int q
def zd:fm X (inplaceOp .BitOr) (qA λi j=>.int (Builtin.bitOr i j)):=C9 λ_ _ _ _ _ _ _ q=>ior_int q
def unI{f:Value->Sem Value}{g:Int->Int}(rule:∀(i:Int) (t:Tok) (s:Shared) (Q:qad) (E:qad),Q (.int (g i) s.toks) {s with toks:=s.toks+1}->wpAny 16 X.A (f (.int i t)) Q E s) :
  UnR X f (rU λi=>.int (g i)):=by
 intro ε s σ H x v Q I rx h;let(i,rfl,q):=h;let(t,rfl):=rx;calc rule i t s _ _ #[.int (g i),H,I.tok _,#[_,9],q]
def QG:UnR X (unaryOp .USub) (rU λi=>.int (-i)):=unI λ_ _ _ _ _ q=>neg_int q
end
section
variable{X:Cx}{a:Expr}{ta tb tc:TE}{pos:Pos}
def zf{ε:qaa}{σ:St}{H:Hp}{Q:VK}{k k':Bool}(I:Inv X ε σ H s)(q:Q (.bl k) H)(e:k=k'):EP X ε σ Q (.bool k') s:=by subst e;calc#[.bl k,H,I,9,q]
def U7:fm X (compareOp .Lt) (qA λi j=>.bl (decide (i<j))):=Qx λ_ _ _ _ _ _ _ q=>lt_int q
def Oz:fm X (compareOp .LtE) (qA λi j=>.bl (decide (i<=j))):=Qx λ_ _ _ _ _ _ _ q=>le_int q
def U8:fm X (compareOp .Gt) (qA λi j=>.bl (decide (j<i))):=Qx λ_ _ _ _ _ _ _ q=>gt_int q
def C_:fm X (compareOp .In) (λx y H Q=>∃i j,x=.str i/\y=.str j/\Q (.bl (!(Builtin.Str.occurrences j i 0 j.length 1).isEmpty)) H):=by intro ε s σ H x y v u Q I rx ry h;let(i,j,rfl,rfl,q):=h;let(t,rfl):=rx;let(t',rfl):=ry;calc in_str (zf I q 9)
def La:fm X (compareOp .IsNot) (λx y H Q=>y=.bO/\Q (.bl (!decide (x=.bO))) H):=by
 intro ε s σ H x y v u Q I rx ry h;let(rfl,q):=h;cases ry;show isnot_none_gen (zf I q ?_);cases x<;>first
  | (cases rx;rfl)
  | (let(t,rfl):=rx;rfl)
def fm.or{f:Value->Value->Sem Value}{r r':R2}(h:fm X f r)(h':fm X f r'):fm X f (λx y H Q=>r x y H Q\/r' x y H Q):=by
 intro ε s σ H x y v u Q I rx ry q;obtain q|q:=q
 calc h ε s σ H x y v u Q I rx ry q;calc h' ε s σ H x y v u Q I rx ry q
def iU(b:Expr){op:CmpOp}(h:op≠.In:=by decide)(h2:op≠.NotIn:=by decide):behindInMarks op b=false:=by
 have e1:(op==CmpOp.In)=false:=by cases op<;>first|rfl|exact absurd 9 h
 have e2:(op==CmpOp.NotIn)=false:=by cases op<;>first|rfl|exact absurd 9 h2
 cases b<;>simp[behindInMarks,e1,e2]
def Lb{op:CmpOp}{r:R2}(ho:fm X (compareOp op) r)(ha:PE X a ta)(hb:PE X b tb)(hm:behindInMarks op b=false):PE X (.Compare a [op] [b] pos) (U3 r ta tb):=by intro ε s σ H Q I h;calc wpAny_Compare1 (Qw ha hb I h λv u s2 x y H2 I2 rx ry q=>ho ε s2 σ H2 x y v u Q I2 rx ry q) hm
def OA(t:TE):TT:=λσ H Q=>t σ H λx H'=>∃k,x=.bl k/\Q k H'
def Lc{op:CmpOp}{r:R2}(ho:fm X (compareOp op) r)(ha:PE X a ta)(hb:PE X b tb)(hm:behindInMarks op b=false):PT X (.Compare a [op] [b] pos) (OA (U3 r ta tb)):=by
 intro ε s σ H Q I h;show wpAny_isTrue_Compare1 (cy (ha ε s σ H _ I h) λv s1 #[x,H1,I1,r1,q1]=>cy (hb ε s1 σ H1 _ I1 q1) λu s2 #[y,H2,I2,r2,q2] =>
  cy (ho ε s2 σ H2 x y v u _ I2 r1 r2 q2) λc s3 #[z,H3,I3,r3,k,e,q3]=>?_) hm
 subst e;cases r3;calc Ξ #[H3,I3,q3]
def FH(r r':R2)(ta tb tc:TE):TE:=λσ H Q=>ta σ H λx H1=>tb σ H1 λy H2=>r x y H2 λz H3=>∃k,z=.bl k /\
 (if k=true then tc σ H3 λw' H4=>r' y w' H4 Q else Q (.bl false) H3)
def FJ{op QH:CmpOp}{r r':R2}(ho:fm X (compareOp op) r)(nA:fm X (compareOp QH) r')(ha:PE X a ta)(hb:PE X b tb)(hc:PE X c tc)(hm:lastMarks [op,QH] [b,c]=false:=by with_unfolding_all rfl):PT X (.Compare a [op,QH] [b,c] pos) (OA (FH r r' ta tb tc)):=by
 intro ε s σ H Q I h;show isTrue_chain (cy (ha ε s σ H _ I h) λv s1 #[x,H1,I1,r1,q1]=>test_link (cy (hb ε s1 σ H1 _ I1 q1) λu s2 #[y,H2,I2,r2,q2] =>
  cy (ho ε s2 σ H2 x y v u _ I2 r1 r2 q2) λd s3 #[z,H3,I3,r3,k,e,q3]=>?_)) hm
 subst e;cases r3;show Ξ ?_;cases k with
 |false=>let(k',e',q'):=q3;cases e';calc ite_ff #[H3,I3,q']
 |true=>show ite_tt (test_last (cy (hc ε s3 σ H3 _ I3 q3) λw' s4 #[z',H4,I4,r4,q4]=>cy (nA ε s4 σ H4 y z' u w' _ I4 r2 r4 q4) λd' s5 #[z2,H5,I5,r5,k2,e2,q5]=>?_));subst e2;cases r5;calc Ξ #[H5,I5,q5]
def lW:(sizeLine:Nat)<2 ^ 63:=by rw[π];decide
def zg:fm X (binaryOp .Add) (λx y H Q=>∃i j,x=.str i/\y=.str j/\i.length+j.length<=sizeLine/\Q (.str (i++j)) H):=by intro ε s σ H x y v u Q I rx ry h;let(i,j,rfl,rfl,hz,q):=h;let(t,rfl):=rx;let(t',rfl):=ry;calc add_str (λt' tk=>#[.str (i++j),H,I.tok _,#[_,9],q]) hz
def vals1{x:V}{us:qag}(r:Vals [x] us):∃u,us=[u]/\RelV x u:=by
 cases r with
 |cons r1 r2=>cases r2;calc#[_,9,r1]
def vals2{x y:V}{us:qag}(r:Vals [x,y] us):∃u w',us=[u,w']/\RelV x u/\RelV y w':=by
 cases r with
 |cons r1 r2=>
  cases r2 with
  |cons r3 r4=>cases r4;calc#[_,_,9,r1,r3]
def rD:c5 X (.type "int") (λxs H Q=>(∃i,xs=[.int i]/\Q (.int i) H)\/∃k,xs=[.bl k]/\Q (.int (if k then 1 else 0)) H):=by
 intro ε s σ H xs us Q I r h;obtain⟨i,rfl,q⟩|⟨k,rfl,q⟩:=h
 let(u,rfl,t,rfl):=vals1 r;calc call_int_int #[.int i,H,I,#[_,9],q];let(u,rfl,r1):=vals1 r;cases r1;calc call_int_bool #[.int (if k then 1 else 0),H,I.tok _,#[_,9],q]
end
structure Dd(h:Heap)(x dx C:Addr)(mA:qae):Prop where
 obj:h.get? x\W.instObj C dx
 ns:h.Ns1 dx mA
 ne:dx≠x
def De{mA:qae}(n:h.Ns1 dx mA):∃od,h.get? dx\od/\∀name,W.lookIn name od\mA name:=by
 let(o,es,ep,ho,hd,hk,_,hm):=n;show#[o,ho,λname=>?_];have e:=hm name;unfold nsFind findBy at e;rw[<- Array.find?_toList] at e;unfold W.lookIn;rw[hd];dsimp only;split
 rename_i y q
 rw[q] at e;exact fv some e
 rename_i q
 rw[q] at e;have a:es.toList.any (·.refKey)=false:=by rw[List.any_eq_false];intro y hy;let(z,t,jF):=hk y (Array.mem_toList_iff.mp hy);simp[DictEntry.refKey,jF]
 have a':¬ es.toList.any (·.refKey)=true:=by rw[a];exact jq
 rw[θ a'];calc fv some e
def Dd.look{x:Addr}{mA:qae}(I:Dd h x dx C mA):∃od,PySem.W.InstAt h x (W.instObj C dx) C (some od)/\∀name,W.lookIn name od\mA name :=
 let #[od,ho,hl]:=De I.ns
 #[od,#[I.obj,9,9,ho],hl]
section
variable{E:qad}{K:qaf}{x:Addr}{mA:qae}{name:Str}{v:Value}
def get_map{expr:Bool}{Q:qad}(X:K.In 42)(I:Dd 42 x dx C mA)(hg:W.plainGet K C name=true)(hh:W.hasDictIn K C=true)(ha:W.findIn K (.ref C) name\none)(hv:mA name\v)(wI:W.handedIn v=true)(h:Q v {s with toks:=s.toks+1}) :
  wpAny 15 A (getAttr (.ref x) name expr) Q E s:=by
 let(od,J,hl):=I.look;calc W.get_value X J (W.plainGet_of hg).1 (W.findObj_own hh ha 9 (by rw[hl,hv])) wI h
theorem Ld{ns:ω}{Q:Unit->Shared->Prop}(X:K.In 42)(I:Dd 42 x dx C mA)(hs:W.findIn K (.ref C) "__setattr__"\some (.builtin "object.__setattr__"))(hp:W.plainOver K C=true)(ht:W.takerIn K C name\none)(hh:W.hasDictIn K C=true)(hw:PySem.Within mA ns)(hsz:ns.length<=sizeLine)(h:∀h',Dd h' x dx C (λy=>if y=name then some v else mA y)->Heap.SameBut dx 42 h'->Q Unit.unit {s with heap:=h',toks:=s.toks+2}) :
  wpAny 15 A (setAttr (.ref x) name v) Q E s:=by
 let(od,J,hl):=I.look;show W.set_plain X J hs (W.osa_open X J hp ht λb=>?_);let(cd,hc,UO):=W.any_some hh;have hx:=I.obj;show ζ (η (ζ (ζ (wpAny_loadPart hx (ζ (PySem.W.Looks.here (W.looks_clsIn X hc) ?_))))));rw[UO];show η (ζ (η (ζ (wpAny_nsSet1 I.ns λh' U9 Dg=>?_))));let(oD,esD,epD,hoD,hdD,hcD):=U9.count (PySem.Within.cons name v hw);calc ζ (wpAny_lookBehind hoD (by rw[hdD];calc pastItsLine_dict (jS hcD (by rw[wq];lia))) (η (h _ #[(Dg.2 _ (Ne.symm I.ne)).trans I.obj,U9,I.ne] Dg)))
def FK{R:Result->Shared->Prop}{vs:qag}{kw:List (Str×Value)}(X:K.In 42)(hm:W.makesIn K C=true)(hi:W.findIn K (.ref C) "__init__"\some (.ref f))(hf:W.typeIn K (.ref f)\.type "function")(h:codeAny 15 (A.under (.builtin "type.__call__" #[.ref C::vs,kw])) (.call (.ref f) #[.ref 36::vs,kw]) (PySem.W.InitBack 36 R)
   {s with heap:=(s.heap.push W.emptyDict).push (W.instObj C 8)}) :
 codeAny 15 A (.call (.ref C) #[vs,kw]) R s:=W.make_core (W.makes_of X hm) (W.looks_findIn X hi) (λself=>W.bind_fn X self hf) 7 h
end
def iV(f:Str)(v:V):List (Str×V)->List (Str×V)
 |[]=>[(f,v)]
 | (g,x)::r=>if g=f then (g,v)::r else (g,x)::iV f v r
theorem mT(f g:Str)(v:V):∀fs:List (Str×V),(iV f v fs).lookup g=if g=f then some v else fs.lookup g
 |[]=>by change List.lookup g [(f,v)]=_;by_cases h:g=f;have hb:=aaE.mpr h;simp only[List.lookup,hb,ι h];have hb:=aaa.mpr h;simp only[List.lookup,hb,θ h]
 | (k,x)::r=>by have ih:=mT f g v r;rw[show iV f v ((k,x)::r)=(if k=f then (k,v)::r else (k,x)::iV f v r) from 9];by_cases hk:k=f;rw[ι hk];by_cases h:g=k;have hb:=aaE.mpr h;simp only[List.lookup,hb,ι (h.trans hk)];have hb:=aaa.mpr h;simp only[List.lookup,hb,θ (λe:g=f=>h (e.trans hk.symm))];rw[θ hk];by_cases h:g=k;have hb:=aaE.mpr h;simp only[List.lookup,hb,θ (λe:g=f=>hk (h.symm.trans e))];have hb:=aaa.mpr h;simp only[List.lookup,hb];calc ih
theorem lY(f:Str)(v:V):∀fs:List (Str×V),f∈(iV f v fs).map (·.1)/\∀g,g∈fs.map (·.1)->g∈(iV f v fs).map (·.1)
 |[]=>#[by simp[iV],λg h=>by simp at h]
 | (k,x)::r=>by
  let(i1,i2):=lY f v r;rw[show iV f v ((k,x)::r)=(if k=f then (k,v)::r else (k,x)::iV f v r) from 9];by_cases hk:k=f;rw[ι hk];subst hk;calc#[by simp,λg h=>by simpa using h];rw[θ hk];show#[?_,λg h=>?_];rw[fj];calc fZ _ i1;rw[fj] at h ⊢;rcases cT.mp h with e|e
  calc cT.mpr (.inl e);calc fZ _ (i2 g e)
theorem mU(f:Str)(v:V):∀fs:List (Str×V),(iV f v fs).length<=fs.length+1
 |[]=>by simp[iV]
 | (k,x)::r=>by have ih:=mU f v r;rw[show iV f v ((k,x)::r)=(if k=f then (k,v)::r else (k,x)::iV f v r) from 9];by_cases hk:k=f;rw[ι hk,wq,wq];lia;rw[θ hk,wq,wq];lia
def kB.some_of{v:V}{o:Option Value}(r:kB (some v) o):∃u,o\u/\RelV v u:=by
 cases o with
 |none=>calc (show False from r).elim
 |some u=>calc#[u,9,r]
def Dh{v:V}(r:RelV v u):W.handedIn u=true:=by
 cases v with
 |bO=>cases (show u=Value.none from r);rfl
 |bl b=>cases (show u=Value.bool b from r);rfl
 |int i=>let(t,e):=(show ∃t,u=Value.int i t from r);cases e;rfl
 |str x=>let(t,e):=(show ∃t,u=Value.str x t from r);cases e;rfl
 |Z6 b=>let(t,e):=(show ∃t,u=Value.bytes b t from r);cases e;rfl
 |Z7 b=>let(t,e):=(show ∃t,u=Value.float b t from r);cases e;rfl
 |ref a=>cases (show u=Value.ref a from r);rfl
 |ty n=>cases (show u=Value.type n from r);rfl
section
variable{H H':Hp}{fs Z9:List (Str×V)}
def Bj(bB:jE P w H h)(e:H a\.ins C dx fs):∃mA,Dd h a dx C mA/\(∀f,kB (fs.lookup f) (mA f))/\PySem.Within mA (fs.map (·.1))/\fs.length<=1000/\H dx\.own a:=by let(d,z,ne,ob,mA,n,r,q):=(show bL P w H h a (.ins C dx fs) from bB a _ e);calc#[mA,#[ob,n,ne],r,q,z,d]
end
structure FL(K:qaf)(C:Addr):Prop where
 pg:W.plainGet K C Str.empty=true
 hd:W.hasDictIn K C=true
 po:W.plainOver K C=true
 sa:W.findIn K (.ref C) "__setattr__"\some (.builtin "object.__setattr__")
def FL.get{K:qaf}{C:Addr}(c:FL K C)(f:Str):W.plainGet K C f=true:=c.pg
def cK(K:qaf)(C:Addr)(f:Str):Prop:=W.findIn K (.ref C) f=some none
def cK.U_{K:qaf}{f:Str}(n:cK K C f):W.takerIn K C f\none:=by unfold W.takerIn;rw[show W.findIn K (.ref C) f\none from n];rfl
section
variable{X:Cx}{ε:qaa}{σ:St}{H:Hp}{fs:List (Str×V)}{f:Str}{v:V}{E:qad}
def zh{b:Bool}{Q:qad}(I:Inv X ε σ H s)(e:H a\.ins C dx fs)(c:FL X.K C)(n:cK X.K C f)(l:fs.lookup f\v)(h:∀u s',Inv X ε σ H s'->RelV v u->Q u s'):wpAny 16 A (getAttr (.ref a) f b) Q E s:=by let(mA,O,r,_,_,_):=Bj I.bB e;let(u,hu,ru):=kB.some_of (by rw[<- l];calc r f);calc get_map I.wt O (c.get f) c.hd n hu (Dh ru) (h u _ (I.tok _) ru)
theorem zi{y:V}{Q:Unit->Shared->Prop}(I:Inv X ε σ H s)(e:H a\.ins C dx fs)(c:FL X.K C)(n:cK X.K C f)(hl:fs.length<1000)(ry:RelV y u)(h:∀s',Inv X ε σ (upd H a (.ins C dx (iV f y fs))) s'->Q Unit.unit s'):wpAny 16 A (setAttr (.ref a) f u) Q E s:=by
 let(mA,O,r,wi,_,ho):=Bj I.bB e;have hz:(fs.map (·.1)).length<=sizeLine:=by rw[bN,π];lia
 show Ld I.wt O c.sa c.po n.U_ c.hd wi hz λh' O' sb=>h _ ?_;have hd:∃o,h'.get? dx\o:=let #[o,_,_,e',_]:=O'.ns;#[o,e'];show I.write (by rw[e];calc True.intro) (.inr ho) (λb q hb z=>(sb.2 b hb).trans z) hd #[by rw[au O.ne];calc ho,?_,O.ne,O'.obj,_,O'.ns,λg=>?_,λg hg=>?_];have:=mU f y fs;lia;rw[mT];by_cases q:g=f;rw[ι q,ι q];calc ry;rw[θ q,θ q];calc r g;by_cases q:g=f;rw[q];calc (lY f y fs).1;show (lY f y fs).2 g (wi g λz=>hg ?_);change (if g=f then some u else mA g)=none;rw[θ q];calc z
def Inv.made(I:Inv X ε σ H s):Inv X ε σ (upd (upd H 8 (.own 36)) 36 (.ins C 8 []))
  {s with heap:=(s.heap.push W.emptyDict).push (W.instObj C 8)}:=by
 have e1:(s.heap.push W.emptyDict).get? 8\W.emptyDict:=hW 42 9;have e2:((s.heap.push W.emptyDict).push (W.instObj C 8)).get? 36\W.instObj C 8:=by
  have:=hW (s.heap.push W.emptyDict) (o:=W.instObj C 8) 9
  rwa [CW] at this
 have e3:(s.heap.push W.emptyDict).Ns 8 (λ_=>none):=#[W.emptyDict,([].toArray),_,e1,9,(λe he=>absurd he 4),λ_=>rfl];have I1:=I.laid (o:=.own 36) (t':=s.toks) (λb u q=>de _ q) (cD _) #[_,e1];show I1.laid (t':=s.toks) (λb u q=>de _ q) (Nat.le_of_eq (CW _ _)) ?_;have ne:8≠8+1:=gr (Ba _);show#[by rw[au ne,aA],gJ _,ne,e2,λ_=>none,(Heap.Ns1.of_empty e3).at λo q=>de _ q,λ_=>True.intro,λy hy=>absurd 9 hy]
def Lf{env:Env}{f:Str}{pos:Pos}{Q:qad}(hb:attributeBase e f env (eval e env)=eval e env)(h:wpAny 15 A (eval e env) (λo s₁=>wpAny 15 A (getAttr o f true) Q E s₁) E s):wpAny 15 A (eval (.Attribute e f pos) env) Q E s :=
 Attribute_any_ h (by rw[arm_eval_Attribute,hb])
end
def ac0(K:qaf)(ta:TE)(f:Str):TE:=λσ H Q=>ta σ H λx H1=>E5 λa C dx fs v=>x=.ref a/\H1 a\.ins C dx fs/\FL K C/\cK K C f/\fs.lookup f\v/\Q v H1
def ac1(K:qaf)(ta tv:TE)(f:Str):TS:=λD σ H=>tv σ H λy H1=>ta σ H1 λx H2=>E4 λa C dx fs=>x=.ref a/\H2 a\.ins C dx fs/\FL K C/\cK K C f/\fs.length<1000 /\
 D.nx σ (upd H2 a (.ins C dx (iV f y fs)))
section
variable{X:Cx}{o value:Expr}{f:Str}{pos:Pos}{ta tv:TE}
def zj(he:PE X e ta)(hb:attributeBase e f 3 (eval e 3)=eval e 3):PE X (.Attribute e f pos) (ac0 X.K ta f):=by intro ε s σ H Q I h;show Lf hb (cy (he ε s σ H _ I h) λu s1 #[x,H1,I1,rx,a,C,dx,fs,v,ex,ea,c,n,l,q]=>?_);subst ex;obtain rfl:=rx;calc zh I1 ea c n l λu' s2 I2 ru=>#[v,H1,I2,ru,q]
def QI(ha:PE X o ta)(hv:PE X value tv)(hs:swapsWith value (some (.Attribute o f pos')) pos.line 3=pure false):PS X (.Assign [.Attribute o f pos'] value pos) (ac1 X.K ta tv f):=by intro ε s σ H D I h;show plainObj_wpAny_Assign_Attribute (cy (hv ε s σ H _ I h) λu s1 #[y,H1,I1,ry,q]=>cy (ha ε s1 σ H1 _ I1 q) λov s2 #[x,H2,I2,rx,a,C,dx,fs,ex,ea,c,n,l,q2]=>?_) hs;subst ex;obtain rfl:=rx;calc zi I2 ea c n l ry λs3 I3=>#[σ,_,I3,q2]
end
structure bA(k:Nat)(A:Around):Prop where
 hd:A.handled=none
 dp:A.depth+03 * k+05<recursionLimit
 un:A.units+016 * k+200<cLine
def bA.mono{k:Nat}(r:bA k A)(h:j<=k):bA j A:=#[r.hd,by have:=r.dp;lia,by have:=r.un;lia]
def bA.deeper{k:Nat}(r:bA (k+1) A)(env:Env):bA k (A.deeper env) :=
 #[r.hd,by have:=r.dp;change A.depth+1+03 * k+05<_;lia,by have:=r.un;change A.units+03+016 * k+200<_;lia]
def zl{us:qag}{kw:List (Str×Value)}:(A.under (.builtin "type.__call__" #[.ref C::us,kw])).depth=A.depth+1:=by first|rfl|simp[Around.under,Code.weight,Code.isCreation,Code.isGuard,Code.isCaller,Code.frames,Code.isFrame,guardIds]
def zo{us:qag}{kw:List (Str×Value)}:(A.under (.builtin "type.__call__" #[.ref C::us,kw])).units=A.units+1:=by first|rfl|simp[Around.under,Code.cUnits,Code.frames,Code.isFrame]
def bA.make{k:Nat}(r:bA (k+1) A)(C:Addr)(us:qag)(kw:List (Str×Value)):bA k (A.under (.builtin "type.__call__" #[.ref C::us,kw])) :=
 #[r.hd,by have:=r.dp;rw[zl];lia,by have:=r.un;rw[zo];lia]
def bA.depth{k:Nat}(r:bA k A):A.depth<recursionLimit:=by have:=r.dp;lia
def ac2:TA:=λ_ H Q=>Q [] H
def U'(ta:TE)(tr:TA):TA:=λσ H Q=>ta σ H λx H1=>tr σ H1 λxs H2=>Q (x::xs) H2
section
variable{X:Cx}{es:qap}{te:TE}{t:TA}{pos:Pos}
def cW:PA X [] ac2:=λ_ _ _ _ H Q I h=>Calls.spliced_nil #[[],H,I,.nil,h]
def bw(ha:PE X e te)(hr:PA X es t)(hs:starEach (e::es) 3=(false,eval e 3)::starEach es 3:=by rfl):PA X (e::es) (U' te t):=by intro pos ε s σ H Q I h;rw[hs];calc Calls.spliced_cons (cy (ha ε s σ H _ I h) λu s1 #[x,H1,I1,r1,q1]=>cy (hr pos ε s1 σ H1 _ I1 q1) λus s2 #[xs,H2,I2,r2,q2]=>#[x::xs,H2,I2,.cons r1 r2,q2])
def ac3(t:TA):TE:=λσ H Q=>t σ H λxs H1=>27<=sizeLine/\∀p,H1 p=none->Q (.ref p) (upd H1 p (.tup xs))
def ac4(t:TA):TE:=λσ H Q=>t σ H λxs H1=>27<=sizeLine/\∀p,H1 p=none->Q (.ref p) (upd H1 p (.lst xs))
def j8{x1}(h:PA X es t):PE X (.Tuple es x1 pos) (ac3 t):=by intro ε s σ H Q I hq;show wpAny_Tuple_spliced (cy (h pos ε s σ H _ I hq) λus s1 #[xs,H1,I1,r,z,q]=>#[by rw[<- r.length];calc z,?_]);have hf:=I1.bB.fresh (cD _);show#[.ref 52,upd H1 52 (.tup xs),I1.laid (λb u e=>de _ e) (cD _) ?_,9,q _ hf];calc#[z,us,r,#[_,hW _ 9,9,_,9]]
def QJ(h:PA X es t):PE X (.List es pos) (ac4 t):=by intro ε s σ H Q I hq;show wpAny_List_spliced (cy (h pos ε s σ H _ I hq) λus s1 #[xs,H1,I1,r,z,q]=>#[by rw[<- r.length];calc z,?_]);have hf:=I1.bB.fresh (cD _);show#[.ref 52,upd H1 52 (.lst xs),I1.laid (λb u e=>de _ e) (cD _) ?_,9,q _ hf];calc#[z,us,0,r,hW _ 9]
end
abbrev Sp:=List V->Hp->VK->XK->Prop
abbrev EY:=List Env->Hp->Shared->XK->qad
structure zq(P:Program)(w:World)(K:qaf)(mg:qae)(base:Heap)(A:Around)(outer:List Env)(s:Shared)(H:Hp):Prop where
 frames:A.frames\outer
 mod:Mod K mg base
 bs:∀b o,base.get? b\o->s.heap.get? b\o/\H b=none
 KQ:base.objs.size<=8
 nz:s.heap.FunFrames base outer
 Qg:∀b∈EX outer,H b=none
 bB:jE P w H 42
 bare:AllBare s.gens
def CE(outer:List Env)(P:Program)(w:World)(H:Hp)(s:Shared)(Q:VK)(u:Value)(s':Shared):Prop :=
 ∃v H',s'.os=s.os/\AllBare s'.gens/\Un (EX outer) [] H H' 42 s'.heap/\jE P w H' s'.heap/\RelV v u/\Q v H'
def CR(CX:EY)(outer:List Env)(P:Program)(w:World)(H:Hp)(s:Shared)(Q:VK)(E:XK)(r:Result)(s':Shared):Prop :=
 match r with
 |.ok (.ret u)=>CE outer P w H s Q u s'
 |.ok _=>False
 |.error e=>CX outer H s E e s'
structure dz(P:Program)(w:World)(K:qaf)(mg:qae)(base:Heap)(CX:EY)(k:Nat)(f:Addr)(fd:FuncData)(ps:ω)(sp:Sp):Prop where
 len:∀vs H Q E,sp vs H Q E->vs.length=ps.length
 run:∀(A:Around)(outer:List Env)(s:Shared)(H:Hp)(args:Args)(us:qag)(vs:List V)(Q:VK)(E:XK),bA k A->zq P w K mg base A outer s H->BindsTo s fd args (ps.zip us)->Vals vs us->sp vs H Q E ->
  codeAny (model P w) A (.call (.ref f) args) (CR CX outer P w H s Q E) s
def zq.make{K:qaf}{mg:qae}{outer:List Env}{H:Hp}(e:zq P w K mg base A outer s H)(C:Addr)(us:qag)(kw:List (Str×Value)) :
 zq P w K mg base (A.under (.builtin "type.__call__" #[.ref C::us,kw])) outer s H:=#[by first|calc e.frames|(simpa[Around.under,Code.envs,Code.isFrame,pushEnvs] using e.frames),e.mod,e.bs,e.KQ,e.nz,e.Qg,e.bB,e.bare]
section
variable{X:Cx}{ε:qaa}{σ:St}{H:Hp}
def Inv.Va(I:Inv X ε σ H s):zq 34 X.w X.K X.mg X.base X.A X.stack s H :=
 #[I.ok.frames,I.ok.mod,I.bs,jS I.ok.KQ I.sz,I.stack,I.Bd,I.bB,I.bare]
def Inv.after{Q:VK}(I:Inv X ε σ H s)(h:CE X.stack 34 X.w H s Q u s'):EP X ε σ Q u s':=by let(v,H',os,bare,un,bB,r,q):=h;let(hh,g,d,t,os'):=s';obtain rfl:=os;calc#[v,H',I.call un bB bare (λb z=>absurd z 4),r,q]
end
def Vb(sp:Sp)(zt:List V)(E:XK)(t:TA):TE:=λσ H Q=>t σ H λvs H1=>sp (vs++zt) H1 Q E
def Vc(C:Addr)(sp:Sp)(zt:List V)(E:XK)(t:TA):TE:=λσ H Q=>t σ H λvs H1=>∀x dx,H1 x=none->H1 dx=none->dx≠x ->
 sp (.ref x::(vs++zt)) (upd (upd H1 dx (.own x)) x (.ins C dx [])) (λv H2=>v=.bO/\Q (.ref x) H2) E
def Binds(K:qaf)(fd:FuncData)(ps:ω)(ds:qag):Prop :=
 ∀(s:Shared)(us:qag),K.In 42->(us++ds).length=ps.length->BindsTo s fd #[us,[]] (ps.zip (us++ds))
def Binds.all{K:qaf}{ps:ω}(h:∀us:qag,us.length=ps.length->bindArgs fd #[us,[]]=pure (ps.zip us)):Binds K fd ps []:=λs us _ hl=>by rw[Bb] at hl ⊢;calc .of_eq (h us hl)
def Passes(CX:EY)(X:Cx)(E:XK):Prop:=∀(ε:qaa)(σ:St)(H:Hp)(s:Shared)(e:Value)(s':Shared),Inv X ε σ H s->CX X.stack H s E e s'->X.xe e s'
section
variable{X:Cx}{CX:EY}{k:Nat}{ps:ω}{sp:Sp}{zt:List V}{ds:qag}{E:XK}{m:Str}{pos:Pos}{o:Expr}{es:qap}{ta:TE}{t:TA}
def QK{ε:qaa}{σ:St}{H:Hp}{Q:VK}{us:qag}{vs:List V}(F:dz 34 X.w X.K X.mg X.base CX k f fd ps sp)(hr:bA k X.A)(hb:Binds X.K fd ps ds)(hd:Vals zt ds)(hx:Passes CX X E)(I:Inv X ε σ H s)(r:Vals vs us)(h:sp (vs++zt) H Q E):wpAny 16 X.A (call (.ref f) us) (EP X ε σ Q) X.xe s:=by
 have r2:=r.append hd;have hl:(us++ds).length=ps.length:=by rw[<- r2.length];exact F.len _ _ _ _ h
 show wpAny_call (aaq (F.run X.A X.stack s H #[us,[]] (us++ds) (vs++zt) Q E hr I.Va (hb s us I.wt hl) r2 h) λr s' hq=>?_);cases r with
 |error e=>calc hx ε σ H s e s' I hq
 |ok fl=>
  cases fl with
  |ret u=>calc I.after hq
  |_=>calc False.elim hq
def hY(F:dz 34 X.w X.K X.mg X.base CX k f fd ps sp)(hr:bA k X.A)(hg:Gl X x)(hm:X.mg x\.ref f)(hk:W.keepIn X.K (.ref f)=true)(hb:Binds X.K fd ps ds)(hd:Vals zt ds)(hx:Passes CX X E)(ha:PA X (e::es) t)(qJ:fY x:=by decide)(he:starEach (e::es) 3=(false,eval e 3)::starEach es 3:=by rfl)(j9:(backTo pos (starEach es 3)).any (·.1)=false:=by rfl) :
  PE X (.Call 51 (e::es) [] pos) (Vb sp zt E t):=by
 intro ε s σ H Q I h;calc aat (sZ I hg hm (W.callWith_K I.ok.mod.Y7 hk (cy (ha pos ε s σ H _ I h) λus s1 #[vs,H1,I1,r,q]=>#[I1.wt,QK F hr hb hd hx I1 r q]) he j9) qJ)
structure Mk(K:qaf)(C f:Addr):Prop where
 makes:W.makesIn K C=true
 init:W.findIn K (.ref C) "__init__"\some (.ref f)
 fn:W.isFn K (.ref f)=true
 kp:W.keepIn K (.ref C)=true
theorem FN{ε:qaa}{σ:St}{H:Hp}{Q:VK}{us:qag}{vs:List V}(M:Mk X.K C f)(F:dz 34 X.w X.K X.mg X.base CX k f fd ps sp)(hr:bA (k+1) X.A)(hb:Binds X.K fd ps ds)(hd:Vals zt ds)(hx:Passes CX X E)(I:Inv X ε σ H s)(r:Vals vs us)(h:∀x dx,H x=none->H dx=none->dx≠x->sp (.ref x::(vs++zt)) (upd (upd H dx (.own x)) x (.ins C dx [])) (λv H2=>v=.bO/\Q (.ref x) H2) E) :
  wpAny 16 X.A (call (.ref C) us) (EP X ε σ Q) X.xe s:=by
 have hq:=h 36 8 (I.bB.fresh (KO _)) (I.bB.fresh (cD _)) (gr (Ba _));have I2:=Inv.made (C:=C) I;have r2:Vals (V.ref 36::(vs++zt)) (Value.ref 36::(us++ds)):=.cons 9 (r.append hd);have hl:(Value.ref 36::us++ds).length=ps.length:=by have e:=r2.length;rw[F.len _ _ _ _ hq] at e;exact e.symm
 show wpAny_call (FK I.wt M.makes M.init (aaE.mp M.fn) (aaq (F.run _ X.stack _ _ #[Value.ref 36::us,[]] (Value.ref 36::(us++ds)) _ _ E (hr.make C us [])
  (I2.Va.make C us []) (hb _ (Value.ref 36::us) I2.wt hl) r2 hq) λr s' wu=>?_))
 cases r with
 |error e=>calc hx ε σ _ _ e s' I2 wu
 |ok fl=>
   cases fl with
   |ret u=>let(v,H',I3,rv,ev,q3):=I2.after wu;subst ev;calc#[rv,#[V.ref 36,H',I3,9,q3]]
   |_=>calc False.elim wu
def tw(M:Mk X.K C f)(F:dz 34 X.w X.K X.mg X.base CX k f fd ps sp)(hr:bA (k+1) X.A)(hg:Gl X x)(hm:X.mg x\.ref C)(hb:Binds X.K fd ps ds)(hd:Vals zt ds)(hx:Passes CX X E)(ha:PA X (e::es) t)(qJ:fY x:=by decide)(he:starEach (e::es) 3=(false,eval e 3)::starEach es 3:=by rfl)(j9:(backTo pos (starEach es 3)).any (·.1)=false:=by rfl) :
  PE X (.Call 51 (e::es) [] pos) (Vc C sp zt E t):=by
 intro ε s σ H Q I h;calc aat (sZ I hg hm (W.callWith_K I.ok.mod.Y7 M.kp (cy (ha pos ε s σ H _ I h) λus s1 #[vs,H1,I1,r,q]=>#[I1.wt,FN M F hr hb hd hx I1 r q]) he j9) qJ)
end
section
variable{X:Cx}{CX:EY}{k:Nat}{ps ks:ω}{sp:Sp}{E:XK}{m:Str}{pos qK:Pos}{o:Expr}{es:qap}{kws:List Keyword}{te ta:TE}{t tk:TA}{nm:Option Str}
variable{g:qag->qag->qag}{gV:List V->List V->List V}
end
structure aI(N P:ω)(sc:Scope):Prop where
 kind:sc.kind=.function
 co:sc.isCoroutine=false
 gen:sc.isGenerator=false
 nd:N.Nodup
 pre:N.take P.length=P
 par:∀x∈P,sc.names.lookup x\.local\/sc.names.lookup x\.cell
 QL:∀y∈sc.names,y.2≠.free
def gL{N P:ω}(a:sc.kind=.function:=by rfl)(b:sc.isCoroutine=false:=by rfl)(c:sc.isGenerator=false:=by rfl)(d:N.Nodup:=by decide +kernel)(e:N.take P.length=P:=by rfl)(f:∀x∈P,sc.names.lookup x\.local\/sc.names.lookup x\.cell:=by decide +kernel)(g:∀y∈sc.names,y.2≠.free:=by decide +kernel):aI N P sc:=#[a,b,c,d,e,f,g]
theorem rE{kindOf:Str->Option NameKind}{x:Str}:∀{binds:List (Str×Value)}{m:qae},(∀v,(x,v)∉binds)->bindL kindOf binds m x=m x
 |[],_,_=>rfl
 | (n,v)::r,m,h=>by
  unfold bindL;rw[rE λw hw=>h w (fZ _ hw)];split;have:x≠n:=by rintro rfl;exact h v d_
  simp[this];rfl
theorem rF{kindOf:Str->Option NameKind}{x:Str}:∀{binds:List (Str×Value)}{m:qae},(∀v,(x,v)∉binds)->bindC kindOf binds m x=m x
 |[],_,_=>rfl
 | (n,v)::r,m,h=>by
  unfold bindC;rw[rF λw hw=>h w (fZ _ hw)];split;rfl;have:x≠n:=by rintro rfl;exact h v d_
  simp[this]
theorem rG{kindOf:Str->Option NameKind}{x:Str}{v:Value}:∀{P:ω}{vs:qag}{i:Nat}{m:qae},P.Nodup->P[i]?\x->vs[i]?\v->kindOf x\.local ->
  bindL kindOf (P.zip vs) m x\v
 |[],_,_,_,_,h,_,_=>by simp at h
 |_::_,[],_,_,_,_,h,_=>by simp at h
 |p::P,w::vs,0,m,nd,h1,h2,hk=>by simp at h1 h2;subst h1;subst h2;change bindL kindOf ((p,w)::P.zip vs) m p=_;unfold bindL;rw[rE λv hv=>(ou.mp nd).1 (List.of_mem_zip hv).1,ι hk];simp
 |p::P,w::vs,i+1,m,nd,h1,h2,hk=>by unfold bindL;calc rG (ou.mp nd).2 (by simpa using h1) (by simpa using h2) hk
theorem rH{kindOf:Str->Option NameKind}{x:Str}{v:Value}:∀{P:ω}{vs:qag}{i:Nat}{m:qae},P.Nodup->P[i]?\x->vs[i]?\v->kindOf x≠some .local ->
  bindC kindOf (P.zip vs) m x\v
 |[],_,_,_,_,h,_,_=>by simp at h
 |_::_,[],_,_,_,_,h,_=>by simp at h
 |p::P,w::vs,0,m,nd,h1,h2,hk=>by simp at h1 h2;subst h1;subst h2;change bindC kindOf ((p,w)::P.zip vs) m p=_;unfold bindC;rw[rF λv hv=>(ou.mp nd).1 (List.of_mem_zip hv).1,θ hk];simp
 |p::P,w::vs,i+1,m,nd,h1,h2,hk=>by unfold bindC;calc rH (ou.mp nd).2 (by simpa using h1) (by simpa using h2) hk
def start(N:ω)(vs:List V):St:=vs.map some++List.replicate (N.length-vs.length) none
def j_(CX:EY)(P:Program)(w:World)(K:qaf)(mg:qae)(base:Heap)(N:ω)(qual:Str)(scope:Scope)(f:Addr)(cd:Value)(A:Around)(outer:List Env)(s:Shared)(H:Hp)(E:XK):Cx where
 prog:=P
 w:=w
 K:=K
 mg:=mg
 base:=base
 A:=A.deeper (envOfC qual scope 8 f cd)
 N:=N
 s₀:=s
 H₀:=H
 env:=envOfC qual scope 8 f cd
 outer:=outer
 stack:=envOfC qual scope 8 f cd::outer
 ex:=[]
 calm:=true
 fn:=λ_=>true
 pn:=[]
 xe:=λe s'=>wpAny (model P w) (A.deeper (envOfC qual scope 8 f cd)) (leaving (envOfC qual scope 8 f cd) e) (λ_ TZ=>CX outer H s E e TZ) (λe' TZ=>CX outer H s E e' TZ) s'
def wJ(h:sc.names.lookup x\.cell):∃c,(cellsFrom n sc.names []).lookup x\c:=by have q:=W.cellsFrom_some sc.names n [] (.inl h);calc Option.isSome_iff_exists.mp q
def Di{CX:EY}{K:qaf}{mg:qae}{N ps:ω}{scope:Scope}{cd:Value}{outer:List Env}{s1:Shared}{H:Hp}{E:XK}{us:qag}{vs:List V}(S:aI N ps scope)(hd:A.handled=none)(e0:zq P w K mg base A outer s H)(hl:vs.length=ps.length)(r:Vals vs us)(x:InCallC s 8 (bindL (envOfC qual scope 8 f cd).kindOf (ps.zip us) λ_=>none) (cellsFrom 36 scope.names []) (bindC (envOfC qual scope 8 f cd).kindOf (ps.zip us) λ_=>none) s1) :
  Inv (j_ CX P w K mg base N qual scope f cd A outer s H E) [] (start N vs) H s1:=by
 have j9:ps.length<=N.length:=by have:=fv List.length S.pre;rw[Om] at this;lia
 let(h1,tk,rfl,hk):=x.done;have Vd:∀b:Addr,b∉(j_ CX P w K mg base N qual scope f cd A outer s H E).ex:=λb z=>absurd (show b∈([]:zm) from z) 4;show#[#[e0.mod,S.kind,9,9,cD _,λy z c h1 h2=>?_,λy hy=>?_,λy c _ h=>?_,λ_=>hd,Around.frames_deeper e0.frames,.inr #[9,9],λb z=>absurd z (Vd b),e0.bs,e0.KQ,λb _ _=>Vd b,λb z=>absurd z (Vd b),e0.nz,e0.Qg],
  rfl,e0.bare,Un.kept hk,#[_,x.toInCall.ns,λi y v h1 h2 h3=>?_],λy c h=>#[_,x.cell y c h],e0.bB.fresh (cD _),λy c h=>?_,λp hp=>absurd (show p∈([]:qaa) from hp) 4,e0.bB.kept hk,?_]
 calc name_of_addr x.apart (Oi h1) (Oi h2);have hy:=hy;obtain hy|hy:=hy
 calc wJ hy;calc absurd 9 (S.QL _ (Oi hy));calc TU (x.above y c (Oi h));have hi:i<vs.length:=by unfold start at h2;by_cases hi:i<vs.length;calc hi;rw[sU (by simpa using hi)] at h2;rw[Fm] at h2;split at h2<;>cases h2
 have ha:vs[i]?\v:=by
  unfold start at h2;rw[nN (by simpa using hi),dQ] at h2;cases e:vs[i]? with
  |none=>rw[e] at h2;cases h2
  |some a=>rw[e] at h2;cases h2;rfl
 let(u,hu,rv):=r.get ha;have hp:ps[i]?\y:=by rw[<- S.pre,List.getElem?_take_of_lt ()];exact h1
 have ndP:ps.Nodup:=by rw[<- S.pre];exact S.nd.sublist (List.take_sublist _ _)
 show#[u,rv,?_];rcases S.par y (dX hp) with k|k
 calc .inl #[k,rG ndP hp hu k];let(c,e):=wJ k;show .inr #[.inl k,c,e,?_];have q:=x.cell y c e;rw[rH ndP hp hu (by change scope.names.lookup y≠_;rw[k];decide)] at q;calc q;calc e0.bB.fresh (TU (x.above y c (Oi h)));unfold start;change _=N.length;rw[kq,bN,P5]
 lia
theorem FQ{CX:EY}{K:qaf}{mg:qae}{k:Nat}{name:Str}{params:Arguments}{body:qaq}{scope:Scope}{dV kV doc pm bP ct oc:Value}{an od:qar}{Dj:Array (Option Value)}{N ps:ω}{sp:Sp}(lk:K.lookup f=some #[oc,od,.func (W.fnOf name qual params body scope dV kV doc pm an bP ct),Dj])(f9:W.codeIn K bP qual=true)(S:aI N ps scope)(len:∀vs H Q E,sp vs H Q E->vs.length=ps.length)(fA:∀(A:Around) (outer:List Env) (s:Shared) (H:Hp) (vs:List V) (Q:VK) (E:XK),bA k (A.deeper (envOfC qual scope 8 f bP))->sp vs H Q E ->
    ∃t,jT (j_ CX P w K mg base N qual scope f bP A outer s H E) body t/\t {nx:=λ_ H'=>Q .bO H',rt:=Q} (start N vs) H) :
  dz P w K mg base CX (k+1) f (W.fnOf name qual params body scope dV kV doc pm an bP ct) ps sp:=by
 show#[len,λA outer s H args us vs Q E hr e0 hb r T1=>?_];have hl:=len _ _ _ _ T1;have KX:=e0.mod.Y7.keeps λb o e=>(e0.bs b o e).1;have lim:=e0.mod.nolimit.keeps λb o e=>(e0.bs b o e).1;have Ve:∀y∈ps.zip us,scope.names.lookup y.1\.local\/(scope.names.lookup y.1\.cell/\((cellsFrom 36 scope.names []).lookup y.1).isSome=true):=λ#[n,v] hy=>by
  rcases S.par n (List.of_mem_zip hy).1 with q|q
  calc .inl q;exact .inr #[q,W.cellsFrom_some _ _ _ (.inl q)]
 show codeAny_call_function hr.depth (KX _ _ lk) 9 S.co S.gen 9 (W.codeRec_of KX f9) (hb _ _ _ _ (wpAny_newFunctionEnv_cells S.kind Ve λenv he s1 x=>?_));subst he;show#[lim.keeps x.toInCall.keep,codeAny_func ?_];let(t,ht,hq):=fA A outer s H vs Q E (hr.deeper _) T1;have I:Inv (j_ CX P w K mg base N qual scope f bP A outer s H E) [] (start N vs) H s1:=Di S hr.hd e0 hl r x;show Ω (ht [] s1 (start N vs) H _ I hq) (λfl s' hs=>?_) λe s' hs=>hs;have fin:∀{σ':St}{H':Hp}{v:V}{u:Value},Inv (j_ CX P w K mg base N qual scope f bP A outer s H E) [] σ' H' s'->RelV v u->Q v H'->CE outer P w H s Q u s' :=
  λ{σ' H' v u} J rv q=>#[v,H',J.os,J.bare,J.base,J.bB,rv,q]
 cases fl with
 |ret u=>let(v,σ',H',J,rv,q):=hs;calc fin J rv q
 |next=>let(σ',H',J,q):=hs;calc fin (v:=V.bO) J 9 q
 |brk=>let(_,_,_,q):=hs;calc False.elim q
 |cont=>let(_,_,_,q):=hs;calc False.elim q
section
variable{X:Cx}{pos:Pos}{es:qap}{t:TA}{id T:String}{r:List V->Hp->VK->Prop}
def tCB(r:List V->Hp->VK->Prop)(t:TA):TE:=λσ H Q=>t σ H λvs H1=>r vs H1 Q
def oF(hc:c5 X (.builtin id) r)(hg:Gl X x)(hm:X.mg x=none)(hv:bootBuiltins x\.builtin id)(ha:PA X (e::es) t)(hn:x≠"__name__":=by decide)(qJ:fY x:=by decide)(he:starEach (e::es) 3=(false,eval e 3)::starEach es 3:=by rfl)(j9:(backTo pos (starEach es 3)).any (·.1)=false:=by rfl):PE X (.Call 51 (e::es) [] pos) (tCB r t):=by intro ε s σ H Q I h;calc aat (lQ I hg hm hv (PyProof.Rows.callWith_builtin1 (cy (ha pos ε s σ H _ I h) λus s1 #[vs,H1,I1,r1,q1]=>hc ε s1 σ H1 vs us Q I1 r1 q1) he j9) hn qJ)
def rJ(hc:c5 X (.type T) r)(hg:Gl X x)(hm:X.mg x=none)(hv:bootBuiltins x\.type T)(ha:PA X (e::es) t)(hn:x≠"__name__":=by decide)(qJ:fY x:=by decide)(he:starEach (e::es) 3=(false,eval e 3)::starEach es 3:=by rfl)(j9:(backTo pos (starEach es 3)).any (·.1)=false:=by rfl):PE X (.Call 51 (e::es) [] pos) (tCB r t):=by intro ε s σ H Q I h;calc aat (lQ I hg hm hv (YH (cy (ha pos ε s σ H _ I h) λus s1 #[vs,H1,I1,r1,q1]=>hc ε s1 σ H1 vs us Q I1 r1 q1) he j9) hn qJ)
end
end L2
variable{K:qaf}{X:L2.Cx}{H H':L2.Hp}{σ:L2.St}{E Q:qad}{v:L2.V}{ε:qaa}{mg:qae}{ps ys:ω}{es elts:qap}{ks:List (List L2.Key)}{ta te:L2.TE}{is:qao}{us:qag}{aY:List (List L2.Key×L2.V)}{body rest:qaq}{fp:zm}
abbrev qac:=List (PySem.Str×L2.V)
abbrev qak:=List L2.V
namespace HT
open PySem PyProof.Rows
section
open PySem.SeqAt
open PySem.AutoSeq1 (wpAny_loadPart')
open PySem.MeetsSeq PySem.MeetsSeq2 PySem.MeetsSeq3
end
section
def Lg{t b:Addr}{vs ws:qag}(ht:IsTup 42 t vs.toArray)(hb:IsTup 42 b ws.toArray)(hv:vs≠[])(h1:ws=[]->Q (.ref t) s)(h2:ws≠[]->Q 24 {s with heap:=s.heap.push {cls:=.type "tuple",data:=.seq (vs++ws).toArray} })(hsz:vs.length+ws.length<=sizeLine):wpAny 15 A (binaryOp .Add (.ref t) (.ref b)) Q E s:=by
 let((cls,dd,data,sl),ho,hc,n,hd):=id ht;let((Vf,T2,data2,T3),yU,Lh,n2,hd2):=id hb;subst hc hd Lh hd2;have e:vs.toArray++ws.toArray=(vs++ws).toArray:=by simp
 by_cases hw:ws=[];exact concat_meets #[_,ho,9] #[_,yU,9] noFill_tuple_add seq_tuple_add Z3 Z0 (ZY _ _)
  (tuple_addW1 t b vs.toArray ws.toArray n n2 dd T2 sl T3 (by simpa using hv) (by simp[hw])) #[ho,yU,h1 hw]
 show concat_meets #[_,ho,9] #[_,yU,9] noFill_tuple_add seq_tuple_add Z3 Z0 (ZY _ _)
  (tuple_addW2 t b vs.toArray ws.toArray n n2 dd T2 sl T3 (by simpa using hv) (by simpa using hw) (by rw[iN,iN];calc hsz)) #[ho,yU,?_]
 rw[e];calc h2 hw
def eA(n d:Nat):Option Int->Nat
 |none=>d
 |some v=>if v<0 then (v+(n:Int)).toNat else min v.toNat n
def FR(n d:Nat):eA n d none=d:=rfl
def Li(n d k:Nat):eA n d (some (k:Int))=min k n:=by change (if k<0 then (k+(n:Int)).toNat else min (k:Int).toNat n)=min k n;rw[θ (),kA]
def ac5(n d:Nat)(hd:d<=n)(o:Option Int):eA n d o<=n:=by
 cases o with
 |none=>calc hd
 |some v=>change (if v<0 then (v+n).toNat else min v.toNat n)<=n;by_cases hv:v<0;rw[ι hv];lia;rw[θ hv];calc Nat.min_le_right _ _
def Bk(v:Int)(n d:Nat):(if v<0 then max (v+(n:Int)) 0 else min v (n:Int))=((eA n d (some v):Nat):Int):=by change (if v<0 then max (v+n) 0 else min v n)=(((if v<0 then (v+n).toNat else min v.toNat n):Nat):Int);by_cases hv:v<0;simp only[ι hv];lia;simp only[θ hv];lia
def zu(lo hi:Option Int)(n:Nat):Builtin.Slice.sliceAdjust lo hi 1 (n:Int)=(((eA n 0 lo:Nat):Int),((eA n n hi:Nat):Int)):=by
 unfold Builtin.Slice.sliceAdjust;show Prod.ext ?_ ?_;cases lo with
 |none=>rfl
 |some v=>exact Bk v n 0
 cases hi with
 |none=>rfl
 |some v=>calc Bk v n n
def zw(i j:Nat):Builtin.Slice.slicePlaces (i:Int) (j:Int) 1=j-i:=by unfold Builtin.Slice.slicePlaces;split<;>lia
def oG{v:Value}{o:Option Int}{Q:Option Int->Shared->Prop}(p:IsPart v o)(h:Q o s):wpAny 15 A (Builtin.Slice.slicePartIndex v) Q E s:=by
 cases p with
 |none=>calc slicePart_none h
 |int i t=>calc slicePart_int h
def lZ{sl:Addr}{vl vu:Value}{lo hi:Option Int}{Q:Int×Int×Nat->Shared->Prop}(hs:s.heap.IsSliceOf sl vl vu .none)(pl:IsPart vl lo)(pu:IsPart vu hi)(h:Q (((eA n 0 lo:Nat):Int),1,eA n n hi-eA n 0 lo) s):wpAny 15 A (Builtin.Slice.sliceApplied (.ref sl) (pure (n:Int))) Q E s:=by let(os,Vg,hcs,Za):=id hs;show ζ (ζ (Λ Vg Za 9 (ζ (Λ Vg Za 9 (ζ (Λ Vg Za 9 (η (ζ (slicePart_none (ζ (oG pl (ζ (oG pu (ζ (η ?_)))))))))))))));change wpAny _ _ (match Builtin.Slice.sliceAdjust lo hi 1 n with|(lo,hi)=>pure (lo,(1:Int),Builtin.Slice.slicePlaces lo hi 1)) _ _ s;rw[zu lo hi n];change wpAny _ _ (pure (((eA n 0 lo:Nat):Int),(1:Int),Builtin.Slice.slicePlaces ((eA n 0 lo:Nat):Int) ((eA n n hi:Nat):Int) 1)) _ _ s;rw[zw];calc η h
def FT(xs:Array Value)(i k:Nat):((List.range k).filterMap λ(m:Nat)=>xs[((i:Int)+(m:Int) * 1).toNat]?).toArray=((xs.toList.drop i).take k).toArray:=by
 have e:(λ(m:Nat)=>xs[(i+(m:Int) * 1).toNat]?)=λm=>xs[i+m]?:=by
  funext m;have:(i+(m:Int) * 1).toNat=i+m:=by lia
  rw[this]
 rw[e];have:=pick_run xs i k;rw[YY] at this;have e2:((λx=>xs[x]?) ∘ λx=>i+x)=λm=>xs[i+m]?:=rfl;rw[e2] at this;rw[this]
def kL{t sl:Addr}{items:Array Value}{vl vu:Value}{lo hi:Option Int}(ht:IsTup 42 t items)(hs:s.heap.IsSliceOf sl vl vu .none)(pl:IsPart vl lo)(pu:IsPart vu hi)(hw:¬ (eA items.size 0 lo=0/\eA items.size items.size hi=items.size))(h:Q 24 {s with heap:=s.heap.push {cls:=.type "tuple",data:=.seq ((items.toList.drop (eA items.size 0 lo)).take (eA items.size items.size hi-eA items.size 0 lo)).toArray} })(hsz:items.size<=sizeLine):wpAny 15 A (getItem (.ref t) (.ref sl)) Q E s:=by
 have Bm:sizeOk (.seq ((items.toList.drop (eA items.size 0 lo)).take (eA items.size items.size hi-eA items.size 0 lo)).toArray):=by
  change ((items.toList.drop (eA items.size 0 lo)).take (eA items.size items.size hi-eA items.size 0 lo)).toArray.size<=sizeLine;rw[iN,Om,UB,KH]
  lia
 let(os,Vg,hcs,Za):=id hs;have hTs:s.TypeIs (.ref sl) "slice":=#[os,Vg,hcs];unfold getItem
 try with_reducible show rk ?_
 first|show ζ (η ?_)|skip
 show ζ (wpAny_sequenceKey ht.typeIs 5 ?_);show ζ (Γ ht.typeIs ZV
  (ψ ZV ht.typeIs entry_tuple_getitem ?_ (args_tuple_getitem _ _)))
 change wpAny _ _ (Builtin.Tuple.tupleItemsOf (.ref t) >>= _) _ _ s;show ζ (tupleItemsOf_ ht (ζ (aam hTs (ζ (lZ hs pl pu ?_)))));have hno:¬ ((((eA items.size 0 lo:Nat):Int)==0 && (1:Int)==1 && (eA items.size items.size hi-eA items.size 0 lo)==items.size)=true):=by intro q;rw[iO,iO] at q;have q1:=eq_of_beq q.1.1;have q2:=eq_of_beq q.2;exact hw #[(),()]
 change wpAny _ _ (if (((eA items.size 0 lo:Nat):Int)==0 && (1:Int)==1 && (eA items.size items.size hi-eA items.size 0 lo)==items.size)=true then _ else _) _ _ s;rw[θ hno,FT]
 first
  |calc ζ (Δ (η #[_,9,η h]) Bm)
  |calc ζ (Δ (ζ (η (η #[_,9,η h]))) Bm)
  |calc ζ (ζ (Δ (η (η #[_,9,η h])) Bm))
  |calc ζ (ζ (Δ (η #[_,9,η h]) Bm))
end
end HT
variable{vs xs:qak}
namespace L2
open PySem PySem.Spec PyProof.Rows
abbrev TO:=St->Hp->(Option Int->Hp->Prop)->Prop
def PO(X:Cx)(e:Option Expr)(t:TO):Prop :=
 ∀(ε:qaa)(s:Shared)(σ:St)(H:Hp)(Q:Option Int->Hp->Prop),Inv X ε σ H s->t σ H Q ->
  wpAny 16 X.A (evalPart e 3) (λu s'=>∃o H',Inv X ε σ H' s'/\IsPart u o/\Q o H') X.xe s
def Lj:TO:=λ_ H Q=>Q none H
def Vh(t:TE):TO:=λσ H Q=>t σ H λx H1=>∃i,x=.int i/\Q (some i) H1
def intsAre_of{ns:qan}:∀{us:qag},Vals (ns.map V.int) us->IntsAre us ns:=by
 induction ns with
 |nil=>intro us r;rw[P_] at r;cases r;calc .nil
 |cons n ns ih=>
  intro us r;cases r with
  |cons r1 r2=>let(t,e):=r1;subst e;calc .cons n t (ih r2)
section
variable{lo hi:Option Expr}{tl th:TO}{pos:Pos}
def Ll:PO X none Lj:=by intro ε s σ H Q I h;calc η #[none,H,I,.none,h]
def Lm(h:PE X e te):PO X (some e) (Vh te):=by intro ε s σ H Q I hw;show cy (h ε s σ H _ I hw) λu s1 #[x,H1,I1,r1,q1]=>?_;let(i,rfl,q):=q1;let(t,rfl):=r1;calc#[some i,H1,I1,.int i t,q]
def FU(X:Cx)(r:V->Option Int->Option Int->Hp->VK->Prop):Prop :=
 ∀(ε:qaa)(s:Shared)(σ:St)(H:Hp)(x:V)(v vl vu:Value)(lo hi:Option Int)(sl:Addr)(Q:VK),Inv X ε σ H s->RelV x v->s.heap.IsSliceOf sl vl vu .none->IsPart vl lo->IsPart vu hi->r x lo hi H Q ->
  ∃T id,typeLookup (.type T) "__getitem__"=pure (some (.builtin id))/\s.TypeIs v T/\wpAny 16 X.A (getItem v (.ref sl)) (EP X ε σ Q) X.xe s
def FU.or{r r':V->Option Int->Option Int->Hp->VK->Prop}(h:FU X r)(h':FU X r'):FU X (λx lo hi H Q=>r x lo hi H Q\/r' x lo hi H Q):=by
 intro ε s σ H x v vl vu lo hi sl Q I rx hs pl pu q;obtain q|q:=q
 calc h ε s σ H x v vl vu lo hi sl Q I rx hs pl pu q;calc h' ε s σ H x v vl vu lo hi sl Q I rx hs pl pu q
def tSl(r:V->Option Int->Option Int->Hp->VK->Prop)(te:TE)(tl th:TO):TE:=λσ H Q=>te σ H λx H1=>tl σ H1 λl H2=>th σ H2 λu H3=>r x l u H3 Q
def FV{r:V->Option Int->Option Int->Hp->VK->Prop}(hr:FU X r)(he:PE X e te)(hl:PO X lo tl)(hu:PO X hi th):PE X (.Subscript e (.Slice lo hi none p2) pos) (tSl r te tl th):=by intro ε s σ H Q I h;show Subscript_ (cy (he ε s σ H _ I h) λv s1 #[x,H1,I1,r1,q1]=>wpAny_Slice (cy (hl ε s1 σ H1 _ I1 q1) λvl s2 #[l,H2,I2,pl,q2]=>cy (hu ε s2 σ H2 _ I2 q2) λvu s3 #[u,H3,I3,pu,q3]=>η ?_));have I4:Inv X ε σ H3 {s3 with heap:=s3.heap.push {cls:=.type "slice",data:=.fields ([vl,vu,.none].toArray)} }:=I3.kept λb ob q=>de _ q;let(T,id,hT,ht,hg):=hr ε {s3 with heap:=s3.heap.push {cls:=.type "slice",data:=.fields ([vl,vu,.none].toArray)} } σ H3 x v vl vu l u s3.heap.objs.size Q I4 r1 (Heap.IsSliceOf.new ..) pl pu q3;calc tail_any ht hT hg (by with_unfolding_all rfl)
def Dk(xs:qak)(lo hi:Option Int):qak:=(xs.drop (HT.eA 27 0 lo)).take (HT.eA 27 27 hi-HT.eA 27 0 lo)
theorem mV(xs:qak)(lo hi:Option Int):(Dk xs lo hi).length<=27:=by
 unfold Dk;rw[Om,UB]
 lia
def Vi(K:qaf):V->Option Int->Option Int->Hp->VK->Prop:=λx lo hi H Q=>E2 λa xs=>x=.ref a/\dO K H a xs /\
 ¬ (HT.eA 27 0 lo=0/\HT.eA 27 27 hi=27)/\∀p,H p=none->Q (.ref p) (upd H p (.tup (Dk xs lo hi)))
def QM:FU X (Vi X.K):=by
 intro ε s σ H x v vl vu lo hi sl Q I rx hs pl pu h;let(a,xs,rfl,hx,hw,q):=h;cases rx;let(aP,r,ht,hz):=I.tuple hx;have hlen:aP.toArray.size=27:=by rw[iN];exact r.length.symm
 show#["tuple",_,ZV.lookup,ht.typeIs,HT.kL ht hs pl pu (by rw[hlen];calc hw) ?_ (by rw[hlen];calc hz)];rw[hlen];show#[.ref 8,_,I.laid (λb ob q=>de _ q) (cD _) ?_,9,q _ (I.bB.fresh (cD _))];calc#[jS (mV xs lo hi) hz,_,(r.drop (HT.eA 27 0 lo)).take (HT.eA 27 27 hi-HT.eA 27 0 lo),IsTup.new _ _]
def Vals.h7(r:Vals xs us):us=[]↔xs=[]:=by
 cases r with
 |_=>simp
end
def yV(n:Nat)(i:Int):Option Nat:=if 0<=i then (if i<n then some i.toNat else none) else if -(n:Int)<=i then some (i+n).toNat else none
def iW{α:Type}(xs:List α)(i:Int):Option α:=(yV 27 i).bind λj=>xs[j]?
def Bn{i:Int}(h:yV n i\j):seqIndex? i n\j/\j<n/\-(n:Int)<=i/\i<n:=by unfold yV at h;by_cases h0:0<=i;rw[ι h0] at h;by_cases h1:i<n;rw[ι h1] at h;have e:=Option.some.inj h;calc#[by rw[seqIndex_of h0 h1,e],(),(),h1];rw[θ h1] at h;cases h;rw[θ h0] at h;by_cases h1 : -n<=i;rw[ι h1] at h;have e:=Option.some.inj h;calc#[by rw[seqIndex_neg () h1,e],(),h1,()];rw[θ h1] at h;cases h
def tD{xs:List α}{i:Int}{v:α}(h:iW xs i\v):∃j,seqIndex? i 27\j/\xs[j]?\v/\j<27/\-(27:Int)<=i/\i<27:=by
 unfold iW at h;cases e:yV xs.length i with
 |none=>rw[e] at h;cases h
 |some j=>rw[e] at h;let(h1,h2,h3,h4):=Bn e;calc#[j,h1,h,h2,h3,h4]
def ag{xs:List α}{v:α}(h:xs[j]?\v):iW xs (j:Int)\v:=by
 have hj:=(dA.mp h).1;have e:yV 27 j\j:=by unfold yV;rw[ι (),ι ()];simp
 unfold iW;rw[e];calc h
theorem aaL{a:α}{l:List α}:iW (a::l) 0\a:=ag (j:=0) 9
theorem aaM{a b:α}{l:List α}:iW (a::b::l) 1\b:=ag (j:=1) 9
theorem aaN{a b c:α}{l:List α}:iW (a::b::c::l) 2\c:=ag (j:=2) 9
theorem aaO{a b c d:α}{l:List α}:iW (a::b::c::d::l) 03\d:=ag (j:=03) 9
theorem aaP{a b c d e:α}{l:List α}:iW (a::b::c::d::e::l) 04\e:=ag (j:=04) 9
def oH(xs:List α)(v:α):iW (xs++[v]) (-1)\v:=by
 have hl:(xs++[v]).length=27+1:=by simp
 have e:yV (xs++[v]).length (-1)\27:=by
  unfold yV;rw[hl,θ 5,ι ()]
  congr 1
  lia
 unfold iW;rw[e];simp
def Bo(b:Expr):Prop:=∀o i,subscripted b false o i=operate [o,i] (getItem o i)
def Ln(X:Cx)(r:R2):Prop :=
 ∀(value slice:Expr)(ε:qaa)(s:Shared)(σ:St)(H:Hp)(x y:V)(v u:Value)(Q:VK),Inv X ε σ H s->RelV x v->RelV y u->r x y H Q ->
  subscripted slice false v u=operate [v,u] (getItem v u)->wpAny 16 X.A (subscriptTail value slice v u) (EP X ε σ Q) X.xe s
def OB(X:Cx)(id:String)(r:V->qak->Hp->VK->Prop):Prop :=
 ∀(ε:qaa)(s:Shared)(σ:St)(H:Hp)(x:V)(xs:qak)(v:Value)(us:qag)(Q:VK),Inv X ε σ H s->RelV x v->Vals xs us->r x xs H Q ->
  wpAny 16 X.A (call (.builtin id) (v::us)) (EP X ε σ Q) X.xe s
section
variable{a:Expr}{tb:TE}{pos:Pos}
def Ln.or{r r':R2}(h:Ln X r)(h':Ln X r'):Ln X (λx y H Q=>r x y H Q\/r' x y H Q):=by
 intro value slice ε s σ H x y v u Q I rx ry q hs;obtain q|q:=q
 calc h value slice ε s σ H x y v u Q I rx ry q hs;calc h' value slice ε s σ H x y v u Q I rx ry q hs
def Vj{r:R2}(hr:Ln X r)(ha:PE X a ta)(hb:PE X b tb)(hs:Bo b):PE X (.Subscript a b pos) (U3 r ta tb):=by intro ε s σ H Q I h;calc Subscript_ (Qw ha hb I h λv u s2 x y H2 I2 rx ry q=>hr a b ε s2 σ H2 x y v u Q I2 rx ry q (hs _ _))
def Vk(K:qaf):R2:=λx y H Q=>E4 λp xs i v=>x=.ref p/\y=.int i/\f_ K H p xs/\iW xs i\v/\Q v H
def Vl(K:qaf):R2:=λx y H Q=>E4 λp xs i v=>x=.ref p/\y=.int i/\dO K H p xs/\iW xs i\v/\Q v H
def Vm:R2:=λx y H Q=>E3 λz i c=>x=.str z/\y=.int i/\z.length<=sizeLine/\iW z.cps.toList i\c/\Q (.str #[([c].toArray)]) H
theorem Lo:Ln X (Vk X.K):=by
 intro value slice ε s σ H x y v u Q I rx ry h hs;let(p,xs,i,z,rfl,rfl,hq,he,q):=h;cases rx;let(t,rfl):=ry;let(aP,r,pl,hz):=I.list hq;let(j,h1,h2,h3,h4,h5):=tD he;let(w,ew,rw'):=r.get h2;have hl:=r.length;have hn:=lW;have fin:EP X ε σ Q w s:=#[z,H,I,rw',q];by_cases h0:0<=i;have hj:i.toNat=j:=by rw[seqIndex_of h0 h5] at h1;exact Option.some.inj h1
 calc item_listR pl.isList h0 () (by rw[hj];simpa using ew) fin hs;have hj:(i+(aP.toArray.size:Int)).toNat=j:=by rw[seqIndex_neg () h4] at h1;rw[iN,<- hl];exact Option.some.inj h1
 exact subscriptTail_builtinR pl.isList.typeIs slot_list_getitem.lookup
  (wpAny_getItem_list_neg pl.isList () (by rw[iN]<;>lia) () (by rw[hj];simpa using ew) #[9,fin]) hs
theorem QN:Ln X (Vl X.K):=by
 intro value slice ε s σ H x y v u Q I rx ry h hs;let(p,xs,i,z,rfl,rfl,hq,he,q):=h;cases rx;let(t,rfl):=ry;let(aP,r,pl,hz):=I.tuple hq;let(j,h1,h2,h3,h4,h5):=tD he;let(w,ew,rw'):=r.get h2;have hl:=r.length;have hn:=lW;have fin:EP X ε σ Q w s:=#[z,H,I,rw',q];exact subscriptTail_builtinR pl.typeIs slot_tuple_getitem.lookup
  (getItem_tuple pl () () (by rw[iN,<- hl];calc h1) (by simpa using ew) #[9,fin]) hs
theorem QO:Ln X Vm:=by
 intro value slice ε s σ H x y v u Q I rx ry h hs;let(z,i,c,rfl,rfl,hz,he,q):=h;let(t,rfl):=rx;let(t',rfl):=ry;let(j,h1,h2,h3,h4,h5):=tD he;have hl:z.cps.toList.length=z.length:=by simp[Str.length]
 rw[hl] at h1 h4 h5;have hn:=lW;calc tail_any (typeIs_str s z t) slot_str_getitem.lookup (getItem_str (by have e1:decide (i < -(2 ^ 63:Int))=false:=ς ();have e2:decide (i ≥ 2 ^ 63)=false:=ς ();rw[e1,e2,Bool.or_false]) (by rw[h1];simpa using h2) #[.str #[([c].toArray)],H,I.tok _,#[_,9],q]) hs
def rIx(K:qaf):R2:=λx y H Q=>Vk K x y H Q\/Vl K x y H Q\/Vm x y H Q
def QP:Ln X (rIx X.K):=Lo.or (QN.or QO)
def zx(aP:qag)(n j:Nat)(u:Value):Obj.mapSeq (·.setIfInBounds j u) {cls:=.type "list",data:=.seq aP.toArray n}={cls:=.type "list",data:=.seq (aP.set j u).toArray n}:=by simp[Obj.mapSeq]
def Inv.lst{p:Addr}(I:Inv X ε σ H s)(h:H p\.lst xs) :
  ∃(aP:qag)(n:Nat),Vals xs aP/\s.heap.get? p=some {cls:=.type "list",data:=.seq aP.toArray n}/\27<=sizeLine:=by
 let(z,aP,n,r,e):=I.bB p _ h;calc#[aP,n,r,e,z]
def Inv.QQ{p:Addr}{ys:qak}{aP nB:qag}{n':Nat}{f:Obj->Obj}(I:Inv X ε σ H s)(h:H p\.lst xs)(ho:s.heap.get? p=some {cls:=.type "list",data:=.seq aP.toArray n})(hf:f {cls:=.type "list",data:=.seq aP.toArray n}={cls:=.type "list",data:=.seq nB.toArray n'})(r:Vals ys nB)(hz:ys.length<=sizeLine)(t:Nat) :
  Inv X ε σ (upd H p (.lst ys)) {s with heap:=s.heap.update p f,toks:=t}:=by
 have e:(s.heap.update p f).get? p=some {cls:=.type "list",data:=.seq nB.toArray n'}:=by rw[Heap.get?_update_self f ho (by rw[hf]<;>rfl),hf]
 show I.write (by rw[h];trivial) 7 (λb u hb q=>(Heap.get?_update_other _ _ (Ne.symm hb)).trans q) #[_,e] ?_;calc#[hz,nB,n',r,e]
def Vn:V->V->V->Hp->(Hp->Prop)->Prop:=λo i v H Q=>E4 λp xs k j=>o=.ref p/\i=.int k/\H p\.lst xs/\yV 27 k\j/\Q (upd H p (.lst (xs.set j v)))
theorem set_list:UY X Vn:=by
 intro ε s σ H o i v ov iv u Q I ro ri rv h;let(p,xs,k,j,rfl,rfl,hp,hj,q):=h;cases ro;let(t,rfl):=ri;let(aP,n,r,ho,hz):=I.lst hp;let(h1,h2,h3,h4):=Bn hj;have hl:=r.length;have hn:=lW;have I' :=
  I.QQ hp ho (zx aP n j u) (r.set rv j) (by rw[List.length_set];calc hz) s.toks
 by_cases h0:0<=k;have hk:k.toNat=j:=by rw[seqIndex_of h0 h4] at h1;exact Option.some.inj h1
 calc W.ki_setAt ho h0 () (by rw[iN,<- hl];calc h4) (by rw[hk];calc#[_,I',q]);have hk:(k+(aP.toArray.size:Int)).toNat=j:=by rw[seqIndex_neg () h3] at h1;rw[iN,<- hl];exact Option.some.inj h1
 calc W.ki_setBack ho () (by rw[iN,<- hl];calc h3) () (by rw[hk];calc#[_,I',q])
theorem tG(lo hi:Option Int)(n:Nat):(sliceBounds lo hi none n).1=((HT.eA n 0 lo:Nat):Int)/\(sliceBounds lo hi none n).2.1=((HT.eA n n hi:Nat):Int)/\(sliceBounds lo hi none n).2.2=1:=by
 show#[?_,?_,9];cases lo with
 |none=>simp[sliceBounds,HT.eA]
 |some i=>simp only[sliceBounds,HT.eA,Option.getD_none,show 1 > 0 by decide,aaK];by_cases h:i<0;simp only[h,aaK]<;>lia;simp only[h,aaJ]<;>lia
 cases hi with
 |none=>simp[sliceBounds,HT.eA]
 |some i=>simp only[sliceBounds,HT.eA,Option.getD_none,show 1 > 0 by decide,aaK];by_cases h:i<0;simp only[h,aaK]<;>lia;simp only[h,aaJ]<;>lia
def qL(aP:qag)(lo hi:Option Int):slicePick aP.toArray lo hi none=((aP.drop (HT.eA aP.length 0 lo)).take (HT.eA aP.length aP.length hi-HT.eA aP.length 0 lo)).toArray:=by let(h1,h2,h3):=tG lo hi aP.toArray.size;unfold slicePick;rw[h1,h2,h3];simp only[sliceRange_one,pick_run,iN]<;>rfl
def Vo(K:qaf):V->Option Int->Option Int->Hp->VK->Prop:=λx lo hi H Q=>E2 λa xs=>x=.ref a/\f_ K H a xs/\∀p,H p=none->Q (.ref p) (upd H p (.lst (Dk xs lo hi)))
theorem Lp:FU X (Vo X.K):=by intro ε s σ H x v vl vu lo hi sl Q I rx hs pl pu h;let(a,xs,rfl,hx,q):=h;cases rx;let(aP,r,ht,hz):=I.list hx;have hlen:=r.length;show#["list",_,slot_list_getitem.lookup,ht.isList.typeIs,wpAny_getItem_list_slice ht.isList hs pl pu .none 4 ?_ (by rw[iN]<;>lia)];rw[qL,<- hlen];show#[.ref 8,_,I.laid (λb ob q=>de _ q) (cD _) ?_,9,q _ (I.bB.fresh (cD _))];calc#[jS (mV xs lo hi) hz,_,0,(r.drop (HT.eA 27 0 lo)).take (HT.eA 27 27 hi-HT.eA 27 0 lo),hW _ 9]
def iX:V->Bool
 |.bO=>true
 |.bl _=>true
 |.int _=>true
 |.str _=>true
 |_=>false
def Kt:V->V->Bool
 |.bO,.bO=>true
 |.bl a,.bl b=>a==b
 |.bl a,.int b=>(if a then 1 else 0)==b
 |.int a,.bl b=>a==(if b then 1 else 0)
 |.int a,.int b=>a==b
 |.str a,.str b=>a==b
 |_,_=>false
def QR{y x:V}{v:Value}(ry:RelV y u)(rx:RelV x v)(fy:iX y=true)(fx:iX x=true):SeqAt.EqAt A s u v (Kt y x):=by
 cases y with
 |bO=>
  cases ry;cases x with
  |bO=>cases rx;calc SeqAt.EqAt.same _
  |bl b=>cases rx;calc SeqAt.EqAt.none_bool b
  |int b=>let(t,rfl):=rx;calc SeqAt.EqAt.none_int b t
  |str b=>let(t,rfl):=rx;calc SeqAt.EqAt.none_str b t
  |_=>calc absurd (show false=true from fx) jq
 |bl a=>
  cases ry;cases x with
  |bO=>cases rx;calc SeqAt.EqAt.bool_none a
  |bl b=>cases rx;calc SeqAt.EqAt.bool_bool a b
  |int b=>let(t,rfl):=rx;calc SeqAt.EqAt.bool_int a b t
  |str b=>let(t,rfl):=rx;calc SeqAt.EqAt.bool_str a b t
  |_=>calc absurd (show false=true from fx) jq
 |int a=>
  let(t',rfl):=ry;cases x with
  |bO=>cases rx;calc SeqAt.EqAt.int_none a t'
  |bl b=>cases rx;calc SeqAt.EqAt.int_bool a t' b
  |int b=>let(t,rfl):=rx;calc SeqAt.EqAt.int_int a t' b t
  |str b=>let(t,rfl):=rx;calc SeqAt.EqAt.int_str a t' b t
  |_=>calc absurd (show false=true from fx) jq
 |str a=>
  let(t',rfl):=ry;cases x with
  |bO=>cases rx;calc SeqAt.EqAt.str_none a t'
  |bl b=>cases rx;calc SeqAt.EqAt.str_bool a t' b
  |int b=>let(t,rfl):=rx;calc SeqAt.EqAt.str_int a t' b t
  |str b=>let(t,rfl):=rx;calc SeqAt.EqAt.str_str a t' b t
  |_=>calc absurd (show false=true from fx) jq
 |_=>calc absurd (show false=true from fy) jq
def Lq(x:V)(u:Value):Bool:=match u with
 |.none=>Kt .bO x
 |.bool b=>Kt (.bl b) x
 |.int i _=>Kt (.int i) x
 |.str z _=>Kt (.str z) x
 |_=>false
def FW{x y:V}(r:RelV y u)(f:iX y=true):Lq x u=Kt y x:=by
 cases y with
 |bO=>cases r;rfl
 |bl b=>cases r;rfl
 |int i=>let(t,rfl):=r;rfl
 |str z=>let(t,rfl):=r;rfl
 |_=>calc absurd (show false=true from f) jq
theorem tH{x:V}:∀{xs:qak}{us:qag},Vals xs us->xs.all iX=true->us.any (Lq x)=xs.any λy=>Kt y x
 |_,_,.nil,_=>rfl
 |y::xs,u::us,.cons r t,f=>by rw[List.all_cons,iO] at f;rw[CZ,CZ,FW r f.1,tH t f.2]
theorem oI{A:Around}{s:Shared}{x:V}{v:Value}(rx:RelV x v)(fx:iX x=true):∀{xs:qak}{us:qag},Vals xs us->xs.all iX=true->∀u∈us,SeqAt.EqAt A s u v (Lq x u)
 |_,_,.nil,_=>λu hu=>by cases hu
 |y::xs,u::us,.cons r t,f=>λu' hu=>by
  rw[List.all_cons,iO] at f;rcases cT.mp hu with rfl|hu
  rw[FW r f.1];calc QR r rx f.1 fx;calc oI rx fx t f.2 u' hu
def Zb(x:V)(xs:qak):Bool:=xs.any λy=>Kt y x
def rIn(K:qaf)(neg:Bool):R2:=λx y H Q=>E2 λp xs=>y=.ref p/\(f_ K H p xs\/dO K H p xs)/\iX x=true/\xs.all iX=true/\Q (.bl (if neg then !Zb x xs else Zb x xs)) H
def Dl:fm X (compareOp .In) (rIn X.K false):=by
 intro ε s σ H x y v u Q I rx ry h;let(p,xs,rfl,hq,fx,fs,q):=h;cases ry;obtain hq|hq:=hq
 let(aP,r,pl,hz):=I.list hq;show SeqAt.in_listAt (Lq x) pl.isList (λw hw=>oI rx fx r fs w (by simpa using hw)) #[.bl _,H,I,9,?_];rw[show aP.toArray.any (Lq x)=aP.any (Lq x) by simp,tH r fs];calc q;let(aP,r,pl,hz):=I.tuple hq;show SeqAt.in_tupleAt (Lq x) pl (λw hw=>oI rx fx r fs w (by simpa using hw)) #[.bl _,H,I,9,?_];rw[show aP.toArray.any (Lq x)=aP.any (Lq x) by simp,tH r fs];calc q
theorem tI:c5 X (.builtin "len") (λxs H Q=>∃p ys,xs=[.ref p]/\(f_ X.K H p ys\/dO X.K H p ys)/\Q (.int ys.length) H):=by
 intro ε s σ H xs us Q I r h;let(p,ys,rfl,hq,q):=h;let(u,rfl,rx):=vals1 r;cases rx;have hn:=lW;obtain hq|hq:=hq
 let(aP,r',pl,hz):=I.list hq;have hlen:=r'.length;calc Calls.call_len_list pl.isList (by simp only[iN]<;>lia) #[.int ys.length,H,I.tok _,#[s.toks+1,by rw[iN,hlen]],q];let(aP,r',pl,hz):=I.tuple hq;have hlen:=r'.length;calc len_tuple pl (by simp only[iN]<;>lia) #[.int ys.length,H,I.tok _,#[s.toks+1,by rw[iN,hlen]],q]
theorem tJ:c5 X (.builtin "len") (λxs H Q=>∃z,xs=[.str z]/\z.length<=sizeLine/\Q (.int z.length) H):=by intro ε s σ H xs us Q I r h;let(z,rfl,hz,q):=h;let(u,rfl,t,rfl):=vals1 r;have hn:=lW;calc len_str () #[.int z.length,H,I.tok _,#[_,9],q]
def c5.or{f:Value}{r r':qak->Hp->VK->Prop}(h:c5 X f r)(h':c5 X f r'):c5 X f (λxs H Q=>r xs H Q\/r' xs H Q):=by
 intro ε s σ H xs us Q I rs q;obtain q|q:=q
 calc h ε s σ H xs us Q I rs q;calc h' ε s σ H xs us Q I rs q
theorem h9:c5 X (.type "list") (λxs H Q=>∃p ys,xs=[.ref p]/\(f_ X.K H p ys\/dO X.K H p ys)/\∀l,H l=none->Q (.ref l) (upd H l (.lst ys))):=by
 intro ε s σ H xs us Q I r h;let(p,ys,rfl,hq,q):=h;let(u,rfl,rx):=vals1 r;cases rx;have fin:∀aP,Vals ys aP->ys.length<=sizeLine->∀h' c',(∀b o',s.heap.get? b\o'->h'.get? b\o') ->
   h'.get? 8=some {cls:=.type "list",dict:=none,data:=.seq aP.toArray c',slots:=([].toArray)}->EP X ε σ Q 24 {s with heap:=h'}:=λaP r' hz h' c' kp e=>
  #[.ref 8,_,I.laid kp (cD _) (show bL 34 X.w _ h' _ (.lst ys) from#[hz,aP,c',r',e]),9,q _ (I.bB.fresh (cD _))]
 obtain hq|hq:=hq
 let(aP,r',pl,hz):=I.list hq;have hlen:=r'.length;let(o,ho,hc,n,hd):=pl.isList;calc call_list_seq p 7 ho hc hd (λh' c' kp e=>fin aP r' hz h' c' kp e) (by simp only[iN]<;>lia);let(aP,r',pl,hz):=I.tuple hq;have hlen:=r'.length;let(o,ho,hc,n,hd):=pl;calc call_list_seq p (.inr 9) ho hc hd (λh' c' kp e=>fin aP r' hz h' c' kp e) (by simp only[iN]<;>lia)
theorem jU:c5 X (.type "tuple") (λxs H Q=>∃p ys,xs=[.ref p]/\((f_ X.K H p ys/\∀l,H l=none->Q (.ref l) (upd H l (.tup ys)))\/(dO X.K H p ys/\Q (.ref p) H))):=by
 intro ε s σ H xs us Q I r h;let(p,ys,rfl,h):=h;let(u,rfl,rx):=vals1 r;cases rx;obtain⟨hq,q⟩|⟨hq,q⟩:=h
 let(aP,r',pl,hz):=I.list hq;have hlen:=r'.length;show call_tuple_list pl.isList (λh' kp=>?_) (by simp only[iN]<;>lia);have I1:=I.kept (t':=s.toks) kp;have I2 :=
  I1.laid (t':=s.toks) (λb o e=>de _ e) (cD _) (show bL 34 X.w _ _ _ (.tup ys) from#[hz,aP,r',IsTup.new _ _])
 calc#[.ref h'.objs.size,_,I2,9,q _ (I1.bB.fresh (cD _))];let(aP,r',pl,hz):=I.tuple hq;calc call_tuple_same pl #[.ref p,H,I,9,q]
def tyV(K:qaf)(T:String)(x:V)(H:Hp):Prop:=match x with
 |.str _=>T="str"
 |.int _=>T="int"
 |.ref p=>(T="list"/\∃xs,f_ K H p xs)\/(T="tuple"/\∃o,K.lookup p\o/\o.cls=.type "tuple"/\o.dict=none) \/
  (T="dict"/\((∃aY,H p\.dK aY)\/∃aY,H p\.dT aY))\/(T="set"/\∃S n,H p\.set S n)
 |_=>False
theorem FY{T:String}{x:V}{v:Value}(I:Inv X ε σ H s)(r:RelV x v)(ty:tyV X.K T x H) :
  s.TypeIs v T/\∀a,v=.ref a->∃ob,s.heap.get? a\ob/\ob.dict=none:=by
 cases x with
 |str z=>let(t,rfl):=r;cases (show T="str" from ty);calc#[typeIs_str s z t,λ_ e=>nomatch e]
 |int i=>let(t,rfl):=r;cases (show T="int" from ty);calc#[aaF s i t,λ_ e=>nomatch e]
 |ref p=>
   cases r;obtain⟨rfl,xs,hq⟩|⟨rfl,o,hk,hc,hd⟩|⟨rfl,hk⟩|⟨rfl,S,n,hk⟩:=ty
   let(aP,_,pl,_):=I.list hq;show#[pl.isList.typeIs,λa e=>?_];cases e;let(o,n,e,c,hd,_):=pl;calc#[o,e,hd];show#[#[o,I.wt p o hk,hc],λa e=>?_];cases e;calc#[o,I.wt _ o hk,hd];have z:∃o,s.heap.get? p\o/\o.ExactDict:=by
    obtain⟨aY,hk⟩|⟨aY,hk⟩:=hk
    let(_,_,_,_,o,_,_,e,ex,_):=I.bB p _ hk;calc#[o,e,ex];let(_,_,_,_,o,_,_,e,ex,_):=I.bB p _ hk;exact#[o,e,ex]
   let(o,e,ex):=z;show#[#[o,e,ex.1],λa e2=>?_];cases e2;calc#[o,e,ex.2.1];let(o,_,_,_,e,ex,_):=I.bB p _ hk;show#[#[o,e,ex.1],λa e2=>?_];cases e2;calc#[o,e,ex.2.1]
 |_=>calc False.elim ty
def ac6(K:qaf)(T:String)(r:V->qak->Hp->VK->Prop)(to:TE):TE:=λσ H Q=>to σ H λx H1=>tyV K T x H1/\r x [] H1 Q
def tBM(K:qaf)(T:String)(r:V->qak->Hp->VK->Prop)(to:TE)(t:TA):TE:=λσ H Q=>to σ H λx H1=>tyV K T x H1/\t σ H1 λxs H2=>r x xs H2 Q
variable{o:Expr}{to:TE}{t:TA}{name:Str}{T id:String}{r:V->qak->Hp->VK->Prop}
def zy(pa:PlainAttrs T)(slot:Slot T name id)(QS:typeOf (.builtin id)=pure (.type "method_descriptor"))(hm:OB X id r)(ho:PE X o to)(dC:attributeBase o name 3 (eval o 3)=eval o 3:=by rfl)(dD:(apos.endLine==bF.line)=true:=by rfl):PE X (.Call (.Attribute o name apos) [] [] bF) (ac6 X.K T r to):=by intro ε s σ H Q I h;show wpAny_Call_method0_late dC dD (cy (ho ε s σ H _ I h) λv s1 #[x,H1,I1,r1,ty,q1]=>?_);let(h1,h2):=FY I1 r1 ty;calc#[T,id,pa,slot,QS,h1,h2,YO 9 (PySem.evalArgs_none (hm ε s1 σ H1 x [] v [] Q I1 r1 .nil q1))]
def FZ(pa:PlainAttrs T)(slot:Slot T name id)(QS:typeOf (.builtin id)=pure (.type "method_descriptor"))(hm:OB X id r)(ho:PE X o to)(ha:PA X (e::es) t)(dC:attributeBase o name 3 (eval o 3)=eval o 3:=by rfl)(zz:((backTo bF (starEach (e::es) 3)).all (λx=>!x.1) && (backToKw bF (keywordEach [] 3)).all (λx=>x.1.isSome)
    && decide ((e::es).length+([]:List Keyword).length+(if ([]:List Keyword).isEmpty then 0 else 1)<30))=true:=by rfl)(dD:(apos.endLine==bF.line)=true:=by rfl)(hs:starEach (e::es) 3=(false,eval e 3)::starEach es 3:=by rfl)(ka:(backTo bF (starEach es 3)).any (·.1)=false:=by rfl) :
  PE X (.Call (.Attribute o name apos) (e::es) [] bF) (tBM X.K T r to t):=by
 intro ε s σ H Q I h;show wpAny_Call_method_late dC zz dD 9 (cy (ho ε s σ H _ I h) λv s1 #[x,H1,I1,r1,ty,q1]=>?_);let(h1,h2):=FY I1 r1 ty;show#[T,id,pa,slot,QS,h1,h2,?_];have hA:=ha bF ε s1 σ H1 _ I1 q1;rw[hs] at hA ⊢;calc YO (by change (false || (backTo bF (starEach es 3)).any (·.1))=false;rw[ka]<;>rfl) (Calls.evalArgs_plain (cy hA λus s2 #[vs,H2,I2,r2,q2]=>hm ε s2 σ H2 x vs v us Q I2 r1 r2 q2))
end
def MtM(X:Cx)(id:String)(r:V->qak->Hp->VK->Prop):Prop :=
 ∀(ε:qaa)(s:Shared)(σ:St)(H:Hp)(x:V)(xs:qak)(v:Value)(us:qag)(Q:VK),Inv X ε σ H s->RelV x v->Vals xs us->r x xs H Q ->
  wpAny 16 X.A (call (.builtin id) (v::us)) (EP X ε σ Q) X.xe s
theorem Vals.one:∀{x:V}{us:qag},Vals [x] us->∃u,us=[u]/\RelV x u
 |_,_,.cons r .nil=>#[_,9,r]
theorem Vals.zero:∀{us:qag},Vals [] us->us=[]
 |_,.nil=>rfl
def Vals.dropLast(h:Vals xs us):Vals xs.dropLast us.dropLast:=by
 induction h with
 |nil=>calc .nil
 |cons r t ih=>
  cases t with
  |nil=>calc .nil
  |cons q t'=>calc .cons r ih
theorem Vals.rep{xs:qak}{us:qag}(h:Vals xs us):∀k:Nat,Vals (List.replicate k xs).flatten (List.replicate k us).flatten
 |0=>.nil
 |k+1=>Vals.append h (Vals.rep h k)
def zA(l:List α):l.eraseIdx (l.length-1)=l.dropLast:=by
 induction l with
 |nil=>rfl
 |cons a r ih=>
  cases r with
  |nil=>rfl
  |cons b r=>
   have e:(a::b::r).length-1=((b::r).length-1)+1:=by
    have h1:(a::b::r).length=r.length+2:=rfl;have h2:(b::r).length=r.length+1:=rfl
    lia
   rw[e,List.eraseIdx_cons_succ,ih]
   all_goals rfl
theorem foldl_rep(aP:qag):∀(k:Nat)(acc:qag),
  List.foldl (λx1 x2=>x1++x2) acc.toArray (List.replicate k aP.toArray)=(acc++(List.replicate k aP).flatten).toArray
 |0,acc=>by simp
 |k+1,acc=>by
   have e:acc.toArray++aP.toArray=(acc++aP).toArray:=by simp
   have e2:(acc++aP)++(List.replicate k aP).flatten=acc++(List.replicate (k+1) aP).flatten:=by rw[Kk,UA,wo]
   rw[<- e2,<- foldl_rep aP k (acc++aP),<- e,Kk,Fp]
section
variable{l b:Addr}{ys zs:qak}
def Inv.Vp{aP nB:qag}{f:Array Value->Array Value}(I:Inv X ε σ H s)(hH:H l\.lst xs)(e:s.heap.get? l=some {cls:=.type "list",data:=.seq aP.toArray n})(hf:f aP.toArray=nB.toArray)(hv:Vals ys nB)(hz:ys.length<=sizeLine) :
  Inv X ε σ (upd H l (.lst ys)) {s with heap:=s.heap.update l (Obj.mapSeq f),toks:=t'}:=by
 have q:=PySem.IsL.update e f;rw[hf] at q;show I.write (by rw[hH];calc trivial) 7 (λb' u hb hu=>(Heap.get?_update_other 42 (Obj.mapSeq f) (Ne.symm hb)).trans hu) #[_,q] ?_;calc#[hz,nB,_,hv,q]
def Inv.Vq{aP:qag}(I:Inv X ε σ H s)(hv:Vals ys aP)(hz:ys.length<=sizeLine) :
  Inv X ε σ (upd H 8 (.lst ys)) {s with heap:=s.heap.push {cls:=.type "list",data:=.seq aP.toArray},toks:=t'} :=
 I.laid (λ_ _ q=>de _ q) (cD _) #[hz,aP,0,hv,hW _ 9]
def Inv.fresh(I:Inv X ε σ H s):H 8=none:=I.bB.fresh (cD _)
def Inv.QT(I:Inv X ε σ H s)(hH:H l\.lst xs):27<=sizeLine/\∃(aP:qag)(n:Nat),Vals xs aP/\27=aP.length/\s.heap.get? l=some {cls:=.type "list",data:=.seq aP.toArray n}:=by let(z,aP,n,r,e):=I.bB l _ hH;calc#[z,aP,n,r,r.length,e]
theorem F1(h:n<=sizeLine):Builtin.List.listTooLong n=false:=ς ()
end
section
def Bp:V->qak->Hp->VK->Prop:=λx vs H Q=>E3 λl xs y=>x=.ref l/\vs=[y]/\H l\.lst xs/\27<sizeLine/\Q .bO (upd H l (.lst (xs++[y])))
def aW:MtM X "list.append" Bp:=by
 intro ε s σ H x vs v us Q I rx rv h;let(l,xs,y,rfl,rfl,hH,hz,q):=h;cases rx;let(u,rfl,ru):=rv.one;let(z,aP,n,r,hl,e):=I.QT hH;show call_meets F.slot_list_append #[_,e,9] F.entry_list_append (F.args_list_append_2 _ _) (PySem.list_append l aP.toArray n u (by rw[iN];lia)) #[e,#[.bO,_,I.Vp hH e 4 (r.append (.cons ru .nil)) ?_,9,q]];rw[kq,YQ]
 lia
def Vr:V->qak->Hp->VK->Prop:=λx vs H Q=>E3 λl xs y=>x=.ref l/\vs=[]/\H l\.lst xs/\xs[27-1]?\y/\Q y (upd H l (.lst xs.dropLast))
def F3:MtM X "list.pop" Vr:=by
 intro ε s σ H x vs v us Q I rx rv h;let(l,xs,y,rfl,rfl,hH,hy,q):=h;cases rx;have hus:=rv.zero;subst hus;let(z,aP,n,r,hl,e):=I.QT hH;let(u,hu,ru):=r.get hy;have hy':aP.toArray[aP.toArray.size-1]?\u:=by change aP.toArray[aP.length-1]?=some u;rw[<- EV,<- hl];exact hu
 show call_meets F.slot_list_pop #[_,e,9] F.entry_list_pop (F.args_list_pop_1 _) (MeetsSeq.list_pop_last l aP.toArray n u hy' (by rw[iN];lia)) #[e,#[y,_,I.Vp hH e ?_ r.dropLast ?_,ru,q]];rw[iN,List.eraseIdxIfInBounds_toArray,zA];rw[yZ]
 lia
def ac7:R2:=λx y H Q=>E3 λl k xs=>x=.ref l/\y=.int k/\H l\.lst xs/\-(2 ^ 63)<=k/\k<2 ^ 63/\27 * k.toNat<=sizeLine /\
 ∀p,H p=none->Q (.ref p) (upd H p (.lst (List.replicate k.toNat xs).flatten))
def len_rep(xs:List α)(k:Nat):(List.replicate k xs).flatten.length=k * 27:=by
 induction k with
 |zero=>simp
 |succ k ih=>rw[Kk,UA,kq,ih,Nat.succ_mul,Nat.add_comm]
def QU:fm X (binaryOp .Mult) ac7:=by
 intro ε s σ H x y v u Q I rx ry h;let(l,k,xs,rfl,rfl,hH,h1,h2,hz,q):=h;cases rx;let(t,rfl):=ry;let(z,aP,n,r,hl,e):=I.QT hH;have hlen:aP.toArray.size * k.toNat<=sizeLine:=by rw[iN,<- hl];exact hz
 have ac8:¬ aP.toArray.size * k.toNat > (2 ^ 63-1) / 08:=by
  have:sizeLine<=(2 ^ 63-1) / 08:=by decide
  lia
 have ac9:¬ (!Builtin.List.listFitsIndex k)=true:=by rw[fitsIndex_both h1 h2];exact jq
 have Vs:¬ Builtin.List.listTooLong (aP.toArray.size * k.toNat)=true:=by rw[F1 hlen];exact jq
 have ada:List.foldl (λx1 x2=>x1++x2) ([].toArray) (List.replicate (if aP.toArray.isEmpty=true then 0 else k.toNat) aP.toArray)=(List.replicate k.toNat aP).flatten.toArray:=by
  have f0:=λm=>by have:=foldl_rep aP m [];rw[List.nil_append] at this;exact this
  rw[f0];cases aP with
  |nil=>simp
  |cons a r'=>rw[θ 4]
 show wpAny_binaryOp_repeat_ref 5 #[_,e,9] (λs'=>aaF s' k t) noFill_list_mul F.fills_int_mul F.slot_int_rmul repeat_list F.slot_int_index.lookup
  (call_meets F.slot_int_rmul (aaF s k t) F.entry_int_rmul (F.args_int_rmul_2 _ _) (int___rmul___int_list k t l aP.toArray n)
   #[e,9,#[_,e,9],call_meets F.slot_list_mul #[_,e,9] F.entry_list_mul (F.args_list_mul_2 _ _) (AutoListH.list___mul___list_int_3 l aP.toArray n k t ac9 ac8 Vs) #[e,?_]])
 rw[ada];calc#[.ref _,_,I.Vq (r.rep k.toNat) (by rw[len_rep,Nat.mul_comm];calc hz),9,q _ I.fresh]
end
end L2
namespace Zd
open PySem PySem.W PySem.Calls PyProof.Rows
def nD{P:Params}:∀(ns:qan)(vs:qag),WellAll P h vs (ns.map WData.int)->IntsAre vs ns:=by
 intro ns;induction ns with
 |nil=>intro vs w;cases w;calc .nil
 |cons n ns ih=>
  intro vs w;cases w with
  |cons a b=>cases a;calc .cons _ _ (ih _ b)
theorem Dm{l:OpenLaw}(hn:l.most\n){P:Params}{args:List WData}{vals:qag}(l0:l.row.toRowW.claim.pre args=true)(Vt:WellAll P h vals args) :
  ∃a vs ns,vals=[Value.ref a]/\args=[WData.list (ns.map WData.int)]/\h.get? a=some {cls:=.type "list",data:=.seq vs.toArray}/\IntsAre vs ns/\ns.length<=n:=by
 have hsh:=(pre_splitW l0).1;have hc:l.pre.holds [] {args:=args}=true:=(pre_splitW l0).2;let(d,r,rfl,h1,h2):=hasAllW_cons hsh;obtain rfl:=hasAllW_nil h2;let(xs,rfl,h3):=hasW_list h1;let(ns,rfl):=items_int h3;have hlen:ns.length<=n:=by
  have h4:(WTm.not (.lt (.lit (.int n)) (.len (.arg 0)))).holds [] {args:=[.list (ns.map .int)]}=true:=by have h4:=(holds_andW hc).1;rw[hn] at h4;exact h4
  have h5:=condW_of h4 (w_not (w_lt w_lit (w_len_list (w_arg 9))))
  first
   | (rw[ο q'] at h5;calc absurd h5 5)
   | (simp at h5;lia)
 cases Vt with
 |cons w1 w2=>
   cases w2;cases w1 with
   |list ho zB=>calc#[_,_,ns,9,9,ho,nD ns _ zB,hlen]
def Dn(l:OpenLaw)(args:List WData):l.row.toRowW.claim.post args (.bool true) args=true :=
 postW_of
  (show WShape.has [] (.bool true) .bool=true by first|rfl|decide|simp[WShape.has,WShape.arms,WShape.armsAll])
  (show (WTm.eq .res (.lit (.bool true))).value [] {args:=args,res:=some (.bool true),after:=args}\.bool (true==true) from w_eq_bool (w_res 9) w_lit) 9
def wK{l:OpenLaw}{q:Program}{loose:ω}{XP:(qae)->Heap->Prop}{YP:World->Heap->Prop}{d:DefRec}(hn:l.most\n)(OC:d.params.defaults=[])(call:∀(w:World) (s₀ s₁:Shared) (mg mb:qae) (fa:Addr) (o:Obj) (pm cd doc:Value) (a:Addr) (vs:qag) (ns:qan),
    Ground q loose [] XP w s₀ mg mb s₁.heap->YP w s₁.heap ->
    s₁.heap.get? fa\o->o.data=.func (docDef d.name d.params d.body d.scope pm cd doc)->s₁.heap.CodeRec cd d.name->mg d.name\.ref fa ->
    s₁.heap.get? a=some {cls:=.type "list",data:=.seq vs.toArray}->IntsAre vs ns->ns.length<=n->s₁.gens=([].toArray) ->
    codeAny (model l.prog w) callerA (.call (.ref fa) #[[.ref a],[]]) (λr s'=>r=.ok (.ret (.bool true))/\OldK s₁.heap s'.heap/\s'.os=s₁.os/\AllBare s'.gens) s₁) :
  WalkO q loose XP YP l.row.toRowW d [] (λf vs=>PySem.call f vs):=by
 intro w s₀ s₁ mg mb G Y fa o pm cd doc dV kV ho hd f9 hD Vu hg args vals as l0 Vv hrd Vt hlo;obtain rfl:=Dflts.none hD OC;obtain rfl:=Dflts.noKw hD;let(a,vs,ns,rfl,rfl,QV,hints,hlen):=Dm hn l0 Vt;show enter_call (aaq (call w s₀ s₁ mg mb fa o pm cd doc a vs ns G Y ho (fd_plain hd) f9 Vu QV hints hlen hg) λr s' hq=>?_);let(rfl,h2,h3,h4):=hq;calc#[.inl #[.bool true,.bool true,[],9,λ_=>rfl,.bool true,Dn l _,λ_=>#[List.Pairwise.nil,λ_ hm=>(nomatch hm)]],h2,h3,h4]
end Zd
namespace L2
open PySem PySem.Spec PyProof.Rows
theorem rK:∀{vs:qag}{ns:qan},IntsAre vs ns->Vals (ns.map V.int) vs
 |_,_,.nil=>.nil
 |_,_,.cons n t h=>.cons #[t,9] (rK h)
def Vw(H:Hp):Prop:=∀b,H b=none\/E2 λo xs=>H b\.f7 o (.lst xs)
theorem F4{mb:qae}{CX:EY}{k:Nat}{fa:Addr}{sp:Sp}{s₁:Shared}{vs:qag}{ns:qan}(KX:K.In s₁.heap)(hns:s₁.heap.Ns mainGlobals mg)(hb:s₁.heap.Ns builtinsNs mb)(hbb:∀x:Str,x≠"__name__"->mb x=bootBuiltins x)(adb:s₁.heap.NoLimit)(hg:s₁.gens=([].toArray))(ha:s₁.heap.get? a=some {cls:=.type "list",data:=.seq vs.toArray})(hi:IntsAre vs ns)(hl:ns.length<=sizeLine)(hr:bA k callerA)(F:∀base:Heap,K.In base->base.Ns mainGlobals mg->dz P w K mg base CX k fa fd [x] sp)(Vx:∀(s:Shared) (u:Value),BindsTo s fd #[[u],[]] [(x,u)])(T1:∀H:Hp,Vw H->f_ K H a (ns.map V.int)->sp [.ref a] H (λv _=>v=.bl true) λ_ _ _=>False)(hCX:∀H e s',CX [] H s₁ (λ_ _ _=>False) e s'->False) :
  codeAny (model P w) callerA (.call (.ref fa) #[[.ref a],[]]) (λr s'=>r=.ok (.ret (.bool true))/\OldK s₁.heap s'.heap/\s'.os=s₁.os/\AllBare s'.gens) s₁:=by
 have rv:=rK hi;have ade:=hi.length;have core:∀H:Hp,Vw H->f_ K H a (ns.map V.int)->jE P w H s₁.heap->(∀b,H b≠none->b=a)->(H a≠none->K.lookup a=none) ->
   codeAny (model P w) callerA (.call (.ref fa) #[[.ref a],[]]) (λr s'=>r=.ok (.ret (.bool true))/\OldK s₁.heap s'.heap/\s'.os=s₁.os/\AllBare s'.gens) s₁:=by
  intro H hO hS bB hA hK;have Bq:∀{b:Addr}{o:Obj},s₁.heap.get? b\o->H b=none->(wF s₁.heap H).get? b\o:=λe n=>Fs e n;have Vd:∀{b:Addr}{o:Obj}{es:Array DictEntry}{ep:Nat},s₁.heap.get? b\o->o.data=.dict es ep->H b=none:=λ{b o es ep} e d=>by
   cases q:H b with
   |none=>rfl
   |some u=>have e':=hA b (by rw[q];simp);subst e';rw[ha] at e;cases e;have d':=d;cases d'
  have Ze:∀{b:Addr}{m:qae},s₁.heap.Ns b m->(wF s₁.heap H).Ns b m:=λ{b m} #[o,es,ep,e,d,r]=>#[o,es,ep,Bq e (Vd e d),d,r];have hKb:=λb o e=>Bq (KX b o e) (by
   cases q:H b with
   |none=>rfl
   |some u=>have e':=hA b (by rw[q];simp);subst e';rw[hK (by rw[q];simp)] at e;cases e)
  have hM:Mod K mg (wF s₁.heap H):=#[hKb,Ze hns,#[mb,Ze hb,hbb],let #[mc,h1,h2]:=adb;#[mc,Ze h1,h2]];have e0:zq P w K mg (wF s₁.heap H) callerA [] s₁ H:=#[9,hM,λb o e=>KP e,Nat.le_of_eq (C3 _ _),trivial,λb hb=>absurd (show b∈([]:zm) from hb) 4,bB,.of_eq hg];show aaq ((F _ hKb (Ze hns)).run callerA [] s₁ H #[[.ref a],[]] [.ref a] [.ref a] _ _ hr e0 (Vx s₁ (.ref a)) (.cons 9 .nil) (T1 H hO hS)) λr s' h=>?_;cases r with
  |error e=>calc (hCX H e s' h).elim
  |ok fl=>
    cases fl with
    |ret u=>
      let(v,H',os,bare,un,Dq,r',q):=h;have q':=q;subst q';obtain rfl:=r';show#[9,OldK.of_keep λb o e=>?_,os,bare];cases q:H b with
      |none=>calc un.keep b o e q (by intro z;calc absurd (show b∈([]:zm) from z) 4) 4
      |some u=>
        rcases hO b with z|⟨ob,xs,z⟩
        rw[q] at z;cases z;have z2:=un.ow b ob _ z;let(e1,_):=bB b _ z;let(e2,_):=Dq b _ z2;rw[e] at e1;cases e1;calc e2
    |_=>exact False.elim h
 cases hk:K.lookup a with
 |some o=>have e:=KX a o hk;rw[ha] at e;cases e;show core (λ_=>none) (λ_=>.inl 9) (.inr #[_,vs.toArray,_,hk,9,9,9,by rw[iN,ade];calc hl,by simpa using rv]) (λb u z=>by have z':=z;cases z') (λb z=>absurd 9 z) λz=>absurd 9 z
 |none=>show core (λb=>if b=a then some (.f7 {cls:=.type "list",data:=.seq vs.toArray} (.lst (ns.map V.int))) else none) (λb=>?_) (.inl (.inr #[{cls:=.type "list",data:=.seq vs.toArray},ι 9])) (λb u z=>?_) (λb z=>?_) λ_=>hk;by_cases hb:b=a;calc .inr #[_,_,ι hb];calc .inl (θ hb);by_cases hb:b=a;have z':=(ι hb).symm.trans z;cases z';subst hb;calc#[ha,by rw[bN];calc hl,vs,_,rv,ha];have z':=(θ hb).symm.trans z;cases z';by_cases hb:b=a;calc hb;calc absurd (θ hb) z
def inClass(s:Stmt)(j:Nat):Stmt:=match s with
 |.ClassDef _ _ _ body _ _ _ _ _ _ _=>body.getD j (.Pass #[0,0,0,0])
 |_=>.Pass #[0,0,0,0]
def eB(s:Stmt):Arguments:=match s with
 |.FunctionDef _ a _ _ _ _ _ _ _ _=>a
 |_=>{posonlyargs:=[],args:=[],vararg:=none,kwonlyargs:=[],kw_defaults:=[],kwarg:=none,defaults:=[]}
def cn(s:Stmt):qaq:=match s with
 |.FunctionDef _ _ b _ _ _ _ _ _ _=>b
 |_=>[]
def aq(s:Stmt):Scope:=match s with
 |.FunctionDef _ _ _ _ _ _ sc _ _ _=>sc
 |_=>{kind:=.function,names:=[],isGenerator:=false,isCoroutine:=false}
abbrev iP:EY:=λ_ _ _ _ _ _=>False
abbrev E0:XK:=λ_ _ _=>False
def jV:Passes iP X E0:=λ_ _ _ _ _ _ _ h=>h.elim
structure Dr(K:qaf)(x qual:Str)(st:Stmt)(f:Addr)(fd:FuncData):Prop where
 ex:∃(oc:Value)(od:qar)(kV doc pm:Value)(an:qar)(bP ct:Value)(Dj:Array (Option Value)),
  fd=W.fnOf x qual (eB st) (cn st) (aq st) .none kV doc pm an bP ct/\K.lookup f=some #[oc,od,.func fd,Dj]/\W.codeIn K bP qual=true
 kp:W.keepIn K (.ref f)=true
section
def Dr.ok{st:Stmt}{N:ω}{k:Nat}{sp:Sp}(F:Dr K x qual st f fd)(S:aI N ps (aq st))(len:∀vs H Q E,sp vs H Q E->vs.length=ps.length)(fA:∀(bP:Value) (A:Around) (outer:List Env) (s:Shared) (H:Hp) (vs:qak) (Q:VK) (E:XK),bA k (A.deeper (envOfC qual (aq st) 8 f bP))->sp vs H Q E ->
    ∃t,jT (j_ iP P w K mg base N qual (aq st) f bP A outer s H E).C4 (cn st) t/\t {nx:=λ_ H'=>Q .bO H',rt:=Q} (start N vs) H):dz P w K mg base iP (k+1) f fd ps sp:=by
 let(oc,od,kV,doc,pm,an,bP,ct,Dj,rfl,lk,f9):=F.ex;show FQ lk f9 S len λA outer s H vs Q E hr T1=>?_;let(t,h,q):=fA bP A outer s H vs Q E hr T1;calc#[t,h.C4,q]
def Dr.binds{st:Stmt}(F:Dr K x qual st f fd)(h:∀(kV doc pm:Value) (an:qar) (bP ct:Value) (us:qag),us.length=ps.length->bindArgs (W.fnOf x qual (eB st) (cn st) (aq st) .none kV doc pm an bP ct) #[us,[]]=pure (ps.zip us)):Binds K fd ps []:=by let(oc,od,kV,doc,pm,an,bP,ct,Dj,rfl,lk,f9):=F.ex;calc .all (h kV doc pm an bP ct)
def tK{st:Stmt}{oc:Value}{od an:qar}{Dj:Array (Option Value)}{kV doc pm bP ct:Value}(l:K.lookup f=some #[oc,od,.func (W.fnOf x qual (eB st) (cn st) (aq st) .none kV doc pm an bP ct),Dj])(c:W.codeIn K bP qual=true)(k:W.keepIn K (.ref f)=true):Dr K x qual st f (W.fnOf x qual (eB st) (cn st) (aq st) .none kV doc pm an bP ct):=#[#[oc,od,kV,doc,pm,an,bP,ct,Dj,9,l,c],k]
end
def Ds(h:n<=1000):n<sizeLine:=YZ h 5
def Vy{A:Prop}(h:B):if false=true then A else B:=h
def Vz{A:Prop}(h:A):if true=true then A else B:=h
def wL{c A:Prop}[Decidable c](h1:c->A)(h2:¬ c->B):if c then A else B:=by by_cases h:c;rw[ι h];calc h1 h;rw[θ h];calc h2 h
def aO(H H':Hp):Prop:=∀b o,H b\o->H' b\o
def aO.refl(H:Hp):aO H H:=λ_ _ h=>h
def aO.trans{H1 H2:Hp}(a:aO H H1)(b:aO H1 H2):aO H H2:=λc o h=>b c o (a c o h)
section
theorem h_{env:Env}{f:Str×NameKind->List (Str×Addr)->Sem (ForInStep (List (Str×Addr)))}:∀(l:List (Str×NameKind))(cs:List (Str×Addr)),
  (∀p∈l,∀r,(p.2=.free->∃c,env.cells.lookup p.1\c/\f p r=pure (.yield ((p.1,c)::r)))/\(p.2≠.free->f p r=pure (.yield r))) ->
  ∃cl,forIn l cs f=pure cl/\(∀y c,cl.lookup y\c->cs.lookup y\c\/env.cells.lookup y\c)/\(∀y,(cs.lookup y).isSome=true->(cl.lookup y).isSome=true) /\
   ∀p∈l,p.2=.free->(cl.lookup p.1).isSome=true
 |[],cs,_=>#[cs,by rw[List.forIn_nil],λ_ _ h=>.inl h,λ_ h=>h,λ_ h=>nomatch h]
 |p::l,cs,hf=>by
   have hr:=λq hq r=>hf q (fZ _ hq) r;by_cases hp:p.2=.free;let(c,hc,e):=(hf p d_ cs).1 hp;let(cl,h1,h2,h3,h4):=h_ l ((p.1,c)::cs) hr;show#[cl,?_,λy d h=>?_,λy h=>h3 y ?_,λq hq Zf=>?_];rw[List.forIn_cons,e];calc h1;rcases h2 y d h with z|z
   rw[KI] at z;cases hy:y==p.1 with
   |true=>rw[hy] at z;have ey:=eq_of_beq hy;cases z;rw[ey];calc .inr hc
   |false=>rw[hy] at z;exact .inl z
   calc .inr z;rw[KI];cases hy:y==p.1 with
   |true=>rfl
   |false=>exact h
   rcases cT.mp hq with z|z
   subst z;show h3 _ ?_;rw[KI,beq_self_eq_true];rfl;calc h4 q z Zf;have e:=(hf p d_ cs).2 hp;let(cl,h1,h2,h3,h4):=h_ l cs hr;show#[cl,?_,h2,h3,λq hq Zf=>?_];rw[List.forIn_cons,e];calc h1;rcases cT.mp hq with z|z
   subst z;calc absurd Zf hp;calc h4 q z Zf
def iD{scope:Scope}{env:Env}(h:∀p∈scope.names,p.2=.free->∃c,env.cells.lookup p.1\c) :
  ∃cl,closureFor scope env=pure cl/\(∀y c,cl.lookup y\c->env.cells.lookup y\c)/\∀p∈scope.names,p.2=.free->∃c,cl.lookup p.1\c:=by
 have key:∃cl,closureFor scope env=pure cl/\(∀y c,cl.lookup y\c->([]:List (Str×Addr)).lookup y\c\/env.cells.lookup y\c)/\(∀y,(([]:List (Str×Addr)).lookup y).isSome=true->(cl.lookup y).isSome=true) /\
   ∀p∈scope.names,p.2=.free->(cl.lookup p.1).isSome=true:=by
  have go:=@h_ env (λx r=>if x.2==NameKind.free then (do let c <- cellOf env x.1;pure (ForInStep.yield ((x.1,c)::r))) else pure (ForInStep.yield r)) scope.names [] ?_;let(cl,h1,h2):=go;show#[cl,?_,h2]
  first
   | (rw[h1];rfl)
   | (rw[h1];rfl)
   |exact fv (· >>= pure) h1
  intro p hp r;show#[λhf=>?_,λhf=>?_];let(c,hc):=h p hp hf;show#[c,hc,?_];have e1:(p.2==NameKind.free)=true:=by rw[hf];rfl
  have e2:cellOf env p.1=pure c:=by unfold cellOf;rw[hc]
  rw[e1,ι 9,e2];rfl;have e1:(p.2==NameKind.free)=false:=by simpa using hf
  rw[e1,θ 5]
 let(cl,h1,h2,h3,h4):=key;show#[cl,h1,λy c e=>?_,λp hp hf=>Option.isSome_iff_exists.mp (h4 p hp hf)];rcases h2 y c e with z|z
 rw[List.lookup_nil] at z;cases z;calc z
def kM{scope:Scope}{env:Env}(y:Str):(relabel scope env).names.lookup y =
  (scope.names.lookup y).map λk=>if (k==.free && env.scope.kind==.function && env.kindOf y==some .cell)=true then .cell else k:=by
 have key:∀l:List (Str×NameKind),(l.map λ(n,k)=>if (k==NameKind.free && env.scope.kind==.function && env.kindOf n==some .cell) then (n,NameKind.cell) else (n,k)).lookup y =
   (l.lookup y).map λk=>if (k==.free && env.scope.kind==.function && env.kindOf y==some .cell)=true then .cell else k:=by
  intro l;induction l with
  |nil=>rfl
  |cons p l ih=>
    let(n,k):=p;change List.lookup y ((if (k==NameKind.free && env.scope.kind==.function && env.kindOf n==some .cell)=true then (n,NameKind.cell) else (n,k))::_)=_;by_cases hc:(k==NameKind.free && env.scope.kind==.function && env.kindOf n==some .cell)=true;rw[ι hc,KI,KI];cases hy:y==n with
    |true=>have ey:=eq_of_beq hy;subst ey;change some NameKind.cell\(if _ then _ else _);rw[ι hc]
    |false=>exact ih
    rw[θ hc,KI,KI];cases hy:y==n with
    |true=>have ey:=eq_of_beq hy;subst ey;change some k\(if _ then _ else _);rw[θ hc]
    |false=>exact ih
 calc key scope.names
end
def kc(N ts:ω)(out sc:Scope):Bool :=
 (sc.kind==.function) && sc.names.all (λp=>(p.2 != .cell) && (p.2 != .free || out.names.lookup p.1==some .cell || out.names.lookup p.1==some .free) && (p.2 != .local || sc.names.lookup p.1==some .local))
  && N.all (λy=>sc.names.lookup y != some .local) && ts.all (λy=>sc.names.lookup y==some .local) && decide ((N++ts).Nodup)
structure oJ(N ts:ω)(out sc:Scope):Prop where
 kind:sc.kind=.function
 F5:∀p∈sc.names,p.2≠.cell
 fr:∀p∈sc.names,p.2=.free->out.names.lookup p.1\.cell\/out.names.lookup p.1\.free
 names:∀p∈sc.names,p.2=.local->sc.names.lookup p.1\.local
 own:∀y∈N,sc.names.lookup y≠some .local
 tgt:∀y∈ts,sc.names.lookup y\.local
 nd:(N++ts).Nodup
def rL{N ts:ω}{out:Scope}(h:kc N ts out sc=true):oJ N ts out sc:=by unfold kc at h;rw[iO,iO,iO,iO] at h;let((((h1,h2),h3),h4),h5):=h;rw[KJ] at h2 h3 h4;show#[eq_of_beq h1,λp hp=>?_,λp hp hf=>?_,λp hp hl=>?_,λy hy=>?_,λy hy=>?_,χ h5];have:=h2 p hp;rw[iO,iO] at this;simpa using this.1.1;have:=h2 p hp;rw[iO,iO] at this;have q:=this.1.2;rw[hf] at q;simpa using q;have:=h2 p hp;rw[iO,iO] at this;have q:=this.2;rw[hl] at q;simpa using q;simpa using h3 y hy;simpa using h4 y hy
def bC(X:Cx)(ts:ω)(sc:Scope)(cl:List (Str×Addr))(C:Addr)(fp:zm)(s:Shared)(H:Hp):Cx where
 prog:=34
 w:=X.w
 K:=X.K
 mg:=X.mg
 base:=X.base
 A:=X.A
 N:=X.N++ts
 s₀:=s
 H₀:=H
 env:=compEnvC sc cl C 3
 outer:=X.stack
 stack:=X.stack
 ex:=fp
 fn:=λ_=>false
 calm:=X.calm
 pn:=[]
 xe:=λ_ _=>False
section
variable{ts:ω}{cl:List (Str×Addr)}{D:Addr}
def rM(hS:oJ X.N ts 29 sc)(h:lN (relabel sc 3) y):sc.names.lookup y\.local\/(sc.names.lookup y\.free/\((relabel sc 3).names.lookup y\.cell\/(relabel sc 3).names.lookup y\.free)):=by
 have e:=kM (scope:=sc) (env:=3) y;cases hk:sc.names.lookup y with
 |none=>rw[hk] at e;have e':=e;obtain h|h|h:=h<;>rw[e'] at h<;>cases h
 |some k=>
  have hm:=Oi hk;rw[hk] at e;cases k with
  |«local»=>calc .inl 9
  |cell=>calc absurd 9 (hS.F5 _ hm)
  |free=>show .inr #[9,?_];rw[e,UC];by_cases hc:(NameKind.free==.free && X.env.scope.kind==.function && X.env.kindOf y==some .cell)=true;rw[ι hc];calc .inl 9;rw[θ hc];calc .inr 9
  |globalExplicit=>have e':=e;obtain h|h|h:=h<;>rw[e'] at h<;>cases h
  |globalImplicit=>have e':=e;obtain h|h|h:=h<;>rw[e'] at h<;>cases h
def Br(I:Inv X ε σ H s)(hf:∀b∈fp,lV X ε H b):∀b∈fp,b∉EX X.stack:=λb hb z=>by
 let(_,f1,f2,_):=hf b hb;rcases cT.mp (I.y7 b z) with e|e
 calc f1 e;calc f2 e
theorem Lr(I:Inv X ε σ H s)(hf:∀b∈fp,lV X ε H b)(VB:∀b∈fp,∃o,s.heap.get? b\o)(hS:oJ X.N ts 29 sc)(c1:∀y c,cl.lookup y\c->X.env.cells.lookup y\c)(c2:∀p∈sc.names,p.2=.free->∃c,cl.lookup p.1\c)(hC:8<=C)(hD:8<=D)(Zg:D≠C){h1:Heap}{m:qae}{t:Nat}(k:∀b o,s.heap.get? b\o->h1.get? b\o)(hn:h1.Ns C m)(hd:h1.get? D=some {cls:=.type "list",data:=.seq ([]:qag).toArray n}) :
  Inv 28 [] (σ++ts.map λ_=>none) (upd H D (.lst [])) {s with heap:=h1,toks:=t}:=by
 have sz:=I.sz;have adf:∀b∈fp,b<8:=λb hb=>by let(o,e):=VB b hb;exact dB e
 have KS:∀y c,cl.lookup y\c->c<8:=λy c e=>by let(v,q):=I.cell y c (c1 y c e);exact q.lt
 have ok:(bC X ts sc cl C fp s H).Ok:=by
  show#[I.ok.mod,hS.kind,I.ok.glob,I.ok.blt,hC,λx y c e1 e2=>I.ok.inj x y c (c1 x c e1) (c1 y c e2),λx hx=>?_,λx c hx=>absurd hx (by simp[bC]),I.ok.hd,I.ok.frames,.inl 9,λb hb=>?_,λb o e=>I.bs b o e,
   jS I.ok.KQ sz,λb o e hb=>?_,Br I hf,I.stack,λb hb=>I.Bd b hb]
  have hv:lN (relabel sc 3) x:=by
   obtain hx|hx:=hx
   calc .inr (.inl hx);exact .inr (.inr hx)
  rcases rM hS hv with z|⟨z,_⟩
  have e:=kM (scope:=sc) (env:=3) x;rw[z] at e;have e':=e;have T4:(relabel sc 3).names.lookup x\.cell\/(relabel sc 3).names.lookup x\.free:=hx;rw[e'] at T4;obtain q|q:=T4<;>cases q
  calc c2 _ (Oi z) 9;calc#[λe=>absurd (qH (adf b hb) hC) (by have e':=e;rw[e'];calc CY _),λx c e z=>(hf b hb).2.2.2.2.1 x c (c1 x c e) z];rcases (hf b hb).2.2.2.1 with z|z
  calc I.ok.Ft b o e z;exact absurd (qH (dB e) (jS I.ok.KQ z)) (CY _)
 have hnD:=I.bB.fresh hD;show#[ok,9,I.bare,Un.laid k hD hnD,#[m,hn,λi x v e1 e2 e3=>?_],λx c e=>?_,?_,λx c e=>?_,λp hp=>absurd (show p∈([]:qaa) from hp) 4,I.bB.laid k hD #[gJ _,[],n,.nil,hd],?_];have hi:i<σ.length:=by
  by_cases hi:i<σ.length;calc hi;rw[sU (),dQ] at e2;cases q:ts[i-σ.length]? with
  |none=>rw[q] at e2;cases e2
  |some a=>rw[q] at e2;cases e2
 have Dt:σ[i]?\some v:=by rw[nN hi] at e2;exact e2
 have F6:X.N[i]?\x:=by have VF:(X.N++ts)[i]?\x:=e1;rw[nN (by rw[<- I.len];calc hi)] at VF;exact VF
 rcases rM hS e3 with z|⟨z,zr⟩
 calc absurd z (hS.own x (dX F6));have hm:=Oi z;have ho:=hS.fr _ hm 9;let(m0,_,hl):=I.loc;let(u,r,l):=hl i x v F6 Dt (.inr ho);let(c',oy):=c2 _ hm 9;obtain⟨l,_⟩|⟨_,c,hc,z2⟩:=l
 have l':X.env.scope.names.lookup x\.local:=l;rw[l'] at ho;obtain q|q:=ho<;>cases q
 have ec:=c1 x c' oy;rw[hc] at ec;cases ec;calc#[u,r,.inr #[zr,_,oy,z2.keeps k]];let(v,z):=I.cell x c (c1 x c e);calc#[v,z.keeps k];change upd H D (.lst []) C=none;rw[au (Ne.symm Zg)];calc I.bB.fresh hC;rw[au (gr (qH (KS x c e) hD))];calc I.gK x c (c1 x c e);change (σ++ts.map λ_=>none).length=(X.N++ts).length;rw[kq,kq,bN,I.len]
def wQ(I:Inv X ε σ H s)(hf:∀b∈fp,lV X ε H b){Bf:qaa}{σ':St}(J:Inv 28 Bf σ' H' s'):Inv X ε σ H' s' :=
 I.UQ J.os J.base J.bB J.bare λb hb=>by let(_,f1,_,f3,f4,f5):=hf b hb;calc#[f3,f1,f4,f5]
end
section
variable{R:Result->Shared->Prop}
theorem jG{elt target:Expr}{ifs:qap}{scope:Scope}{pos:Pos}{it acc:Value}{env:Env}(I:Nat->Shared->Prop)(turn:∀n s,I n s->wpAny 15 A (pyNext it) (λr s₁=>match r with
    |none=>R (.ok .next) s₁
    |some v=>wpAny 15 A (letOwnedTupleGo target it v) (λ_ s₁'=>wpAny 15 A (assign target env v) (λ_ s₂=>
       wpAny 15 A (forIn ifs true λc r=>if r=true then do let ok <- isTrue c env (eval c env);pure (ForInStep.yield ok) else pure (ForInStep.yield r)) (λok s₃=>
        if ok=true then wpAny 15 A (eval elt env) (λx s₄=>
         wpAny 15 A (call (.builtin "list.append") [acc,x]) (λ_ s₅=>∃m,m<n/\I m s₅) (notedBy 15 A env λe s'=>R (.error e) s') s₄) (notedBy 15 A env λe s'=>R (.error e) s') s₃
        else ∃m,m<n/\I m s₃) (notedBy 15 A env λe s'=>R (.error e) s') s₂) (notedBy 15 A env λe s'=>R (.error e) s') s₁')
       (notedBy 15 A env λe s'=>R (.error e) s') s₁) (notedBy 15 A env λe s'=>R (.error e) s') s)(n:Nat)(h:I n s):codeAny 15 A (.compLoop (.ListComp elt [#[target,iter,ifs,0]] scope pos) 0 it acc env) R s:=by
 show codeAny_loop 9 I (λn s hI=>wpAny_noted (ζ (wpAny_standAt (ζ (Ω (turn n s hI) (λr s₁ h₁=>?_) λ_ _ h'=>h'))))) n h;cases r with
 |none=>calc η h₁
 |some v=>
   show ζ (Ω h₁ (λ_ s₁' h₁'=>ζ (Ω h₁' (λ_ s₂ h₂=>ζ (Ω h₂ (λok s₃ h₃=>?_) λ_ _ h'=>h')) λ_ _ h'=>h')) λ_ _ h'=>h');cases ok with
   |false=>calc η #[9,h₃]
   |true=>calc ζ (ζ (Ω h₃ (λx s₄ h₄=>ζ (Ω h₄ (λ_ s₅ h₅=>η (η #[9,h₅])) λ_ _ h'=>h')) λ_ _ h'=>h'))
end
def F7(X:Cx)(ifs:qap)(t:TT):Prop :=
 ∀(ε:qaa)(s:Shared)(σ:St)(H:Hp)(Q:Bool->Hp->Prop),Inv X ε σ H s->t σ H Q ->
  wpAny 16 X.A (forIn ifs true λc r=>if r=true then do let ok <- isTrue c X.env (eval c X.env);pure (ForInStep.yield ok) else pure (ForInStep.yield r)) (TP X ε σ Q) X.xe s
def adg:TT:=λ_ H Q=>Q true H
def Lu:F7 X [] adg:=λ_ _ _ H _ I h=>wpAny_tests_nil #[H,I,h]
def Lv{t:TT}(h:PT X c t):F7 X [c] t:=λε s σ H Q I hw=>wpAny_tests_one (h ε s σ H Q I hw)
def F8(J:It)(g:TG)(tt:TT)(te:TE)(n:Nat)(σ:St)(D:Addr)(Q:Hp->Prop)(H1:Hp):Prop :=
 ∃W:Nat->Nat->qak->Hp->Prop,(∃m,W 0 m [] (upd H1 D (.lst [])))/\∀i m acc H2,W i m acc H2->H2 D\.lst acc /\
  ((J.stop i H2/\Q H2)\/(J.go i H2/\acc.length<sizeLine/\∀x H3,J.TX i H2 x H3->g x (σ++List.replicate n none) H3 λσ4 H4=>(σ4.length=σ.length+n/\∀(i:Nat) v,σ[i]?\some v->σ4[i]?\some v) /\
   tt σ4 H4 λb H5=>if b=true then te σ4 H5 λy H6=>H6 D\.lst acc/\∃m',m'<m/\W (i+1) m' (acc++[y]) (upd H6 D (.lst (acc++[y]))) else ∃m',m'<m/\W (i+1) m' acc H5))
section
variable{ts:ω}{cl:List (Str×Addr)}
theorem Du{Y:Cx}{pl:qaa}{σ4:St}(I:Inv Y pl σ4 H' s')(hl:σ4.length=σ.length+n)(hs:∀(i:Nat) v,σ[i]?\some v->σ4[i]?\some v) :
  Inv Y pl (σ++List.replicate n none) H' s':=by
 show I.weak (by rw[kq,P5,hl]) λi v e=>?_;by_cases hi:i<σ.length;rw[nN hi] at e;calc hs i v e;rw[sU (),Fm] at e;split at e<;>cases e
def wR{elt tg:Expr}{ifs:qap}{pos:Pos}{tn:Nat->Heap->Prop}{J:It}{g:TG}{tt:TT}{Q:Hp->Prop}{RR:Value->Addr->Result->Shared->Prop}(hc:X.calm=true)(I:Inv X ε σ H s)(T:Turn 34 X.w X.K tg J fp it tn)(st:tn 0 42)(hf:∀b∈fp,lV X ε H b)(hS:oJ X.N ts 29 sc)(c1:∀y c,cl.lookup y\c->X.env.cells.lookup y\c)(c2:∀p∈sc.names,p.2=.free->∃c,cl.lookup p.1\c)(hg:∀C,PG 28 tg g)(ht:∀C,F7 28 ifs tt)(he:∀C,PE 28 elt te)(hw:F8 J g tt te 19 σ 8 Q H)(fin:∀(C:Addr) (H':Hp) (s':Shared) (σ':St),8<=C->Inv 28 [] σ' H' s'->Q H'->RR 24 C (.ok .next) s') :
  wpAny 16 X.A (newList []) (λacc s₃=>wpAny 16 X.A (newFunctionEnv sc X.env.globals cl [] X.env.qual none .none (some 3)) (λVH s₄=>
   codeAny 16 X.A (.compStart 48 0 (.ref it) acc {VH with scope:=relabel sc 3}) (RR acc VH.locals) s₄) E s₃) E s:=by
 let(W,(m0,w0),turn):=hw;have adh:=T.obj 0 _ st;have VB:∀b∈fp,∃o,s.heap.get? b\o:=λb hb=>let #[o,e,_]:=adh b hb;#[o,e];show Δ (wpAny_newFunctionEnv hS.F5 (by intro y hy;simp at hy) (λh₁ VJ QW=>?_) hS.kind);generalize hH2:s.heap.push {cls:=.type "list",dict:=none,data:=.seq ([]:qag).toArray}=H2 at VJ QW ⊢;have hC:H2.objs.size=8+1:=by rw[<- hH2,CW]
 have Zg:8≠H2.objs.size:=by rw[hC];exact gr (Ba _)
 have VL:8<=H2.objs.size:=by rw[hC];exact KO _
 have below:∀b,b<8->b≠H2.objs.size/\b≠8:=λb hb=>#[by rw[hC];calc gr (Kl hb),gr hb];have old:=λb o e=>QW.extBut b o (below b (dB e)).1 (de _ (hH2▸de _ e));have wU:=QW.extBut _ _ Zg (de _ (hH2▸hW _ 9));have VM:=T.keep _ _ _ st λb hb o e=>old b o e;have wx:∀{H':Hp},(∀b∈fp,H' b=none)->∀b∈fp,lV (bC X ts sc cl H2.objs.size fp s H) [] H' b:=λ{H'} hn b hb=>by let(o,e):=VB b hb;show#[hn b hb,λz=>?_,Br I hf b hb,.inl hb,λx c e z=>(hf b hb).2.2.2.2.1 x c (c1 x c e) z,λp hp=>absurd (show p∈([]:qaa) from hp) 4];have z':=z;exact (below b (dB e)).1 z'
 have fp0:∀b∈fp,(upd H 8 (.lst [])) b=none:=λb hb=>by let(o,e):=VB b hb;rw[au (gr (dB e))];exact (hf b hb).1
 have eN:(ts.map λ_=>(none:Option V))=List.replicate 19 none:=List.map_const';have loop:∀s₃:Shared,s₃={s with heap:=h₁,toks:=s.toks+([]:List (Str×Value)).length} ->
   codeAny 16 X.A (.compLoop 48 0 (.ref it) 24 (compEnvC sc cl H2.objs.size 3)) (RR 24 H2.objs.size) s₃:=by
  rintro s₃ rfl;have J0:=Lr (t:=s.toks+([]:List (Str×Value)).length) I hf VB hS c1 c2 VL (cD _) Zg old VJ wU;rw[eN] at J0;show jG (λn s'=>∃i acc H',Inv (bC X ts sc cl H2.objs.size fp s H) [] (σ++List.replicate 19 none) H' s'/\tn i s'.heap/\(∀b∈fp,H' b=none)/\W i n acc H') ?_ m0 #[0,[],_,J0,VM,fp0,w0];rintro n s3 ⟨i,acc,H3,J3,Qv,U2,w3⟩;let(hD3,alt):=turn i n acc H3 w3;obtain⟨stop,q⟩|⟨go,hz,step⟩:=alt
  . show cy (T.done (bC X ts sc cl H2.objs.size fp s H) 9 9 9 hc i [] s3 _ H3 _ J3 (wx U2) Qv stop) λr s4 #[hr,J4]=>?_;subst hr;exact fin _ H3 s4 _ VL J4 q
  show cy (T.item (bC X ts sc cl H2.objs.size fp s H) 9 9 9 hc i [] s3 _ H3 _ J3 (wx U2) Qv go) λr s4 #[u,hr,h4]=>?_;subst hr;show cy h4 λ_ s5 #[x,H5,J5,r5,y5,Ow,fr5]=>?_;have J5':=J5.pinned (wx fr5) (T.obj _ _ Ow);have again:∀{σ7:St}{H7:Hp}{s7:Shared},Inv (bC X ts sc cl H2.objs.size fp s H) ([]++oE fp s5.heap) σ7 H7 s7->(σ7.length=σ.length+19/\∀i v,σ[i]?\some v->σ7[i]?\some v)->∀F9 m',W (i+1) m' F9 H7->m'<n ->
    ∃m,m<n/\∃i acc H',Inv (bC X ts sc cl H2.objs.size fp s H) [] (σ++List.replicate 19 none) H' s7/\tn i s7.heap/\(∀b∈fp,H' b=none)/\W i m acc H':=λ{σ7 H7 s7} I7 hσ F9 m' w7 hm=>by
   show#[m',hm,i+1,F9,H7,Du I7.kJ hσ.1 hσ.2,T.keep _ _ _ Ow λb hb o e=>(I7.pin (b,o) (gE _ (gE _ (hX hb e)))).1,λb hb=>?_,w7];let(o,e,d):=T.obj _ _ Ow b hb;exact (I7.pin (b,o) (gE _ (gE _ (hX hb e)))).2.1
  show Ω (hg H2.objs.size _ s5 _ H5 x u _ J5' r5 (step x H5 y5)) (λ_ s6 #[σ6,H6,J6,hσ,q6]=>Ω (ht H2.objs.size _ s6 σ6 H6 _ J6 q6) (λb s7 #[H7,J7,q7]=>?_) λ_ _ z=>False.elim z) λ_ _ z=>False.elim z;cases b with
  |false=>let(m',hm,w7):=q7;calc again J7 hσ acc m' w7 hm
  |true=>show Ω (he H2.objs.size _ s7 σ6 H7 _ J7 q7) (λy s8 #[yv,H8,J8,ry,hD8,m',hm,w8]=>Ω (aW (X:=bC X ts sc cl H2.objs.size fp s H) _ s8 σ6 H8 24 [yv] 24 [y] (λv H9=>v=.bO/\H9=upd H8 8 (.lst (acc++[yv]))) J8 9 (.cons ry .nil) #[_,acc,yv,9,9,hD8,hz,9,9]) (λv9 s9 #[v,H9,J9,_,_,e9]=>?_) λ_ _ z=>False.elim z) λ_ _ z=>False.elim z;subst e9;exact again J9 hσ (acc++[yv]) m' w8 hm
 calc codeAny_compStart_list (loop _ 9) (T.self _ 0 _ _ _ VM (loop _ 9))
def F_(n:Nat)(wi:TI)(g:TG)(tt:TT)(te:TE):TE:=λσ H Q=>wi σ H λJ H1=>∀D,H1 D=none->F8 J g tt te n σ D (Q (.ref D)) H1
def wV(I:Inv X ε σ H s)(hS:oJ X.N ts 29 sc):∀p∈sc.names,p.2=.free->∃c,X.env.cells.lookup p.1\c:=λp hp hf=>by
 rcases hS.fr p hp hf with z|z
 calc I.ok.has p.1 (.inl z);calc I.ok.has p.1 (.inr z)
def Lx{elt tg:Expr}{ifs:qap}{pos:Pos}{wi:TI}{g:TG}{tt:TT}(hc:X.calm=true)(hS:kc X.N ts 29 sc=true)(hi:PI X tg iter wi)(hg:∀cl C fp s H,PG 28 tg g)(ht:∀cl C fp s H,F7 28 ifs tt)(he:∀cl C fp s H,PE 28 elt te)(hs:∀x,foldedSetIterable iter 3 x=pure x:=by intro _;rfl):PE X 48 (F_ 19 wi g tt te):=by intro ε s σ H Q I h;have S:=rL hS;let(cl,oK,c1,c2):=iD (wV I S);show wpAny_comprehension_free 9 hs oK S.kind S.names (cy (hi ε s σ H _ I h) λv s1 h1=>cy h1 λY_ s2 h2=>?_);let(it,fp,tn,J,H2,e,I2,T,tu,f2,q2):=h2;subst e;show wR hc I2 T tu f2 S c1 c2 (λC=>hg cl C fp s2 H2) (λC=>ht cl C fp s2 H2) (λC=>he cl C fp s2 H2) (q2 _ (I2.bB.fresh (cD _))) ?_;intro C H' s' σ' hC J' q';let(m,hn,_):=J'.loc;show#[m,hn,λh' sb=>?_];have I':=wQ I2 f2 J';have fk:=I2.nC hC J'.free;let(f0,f1,_,f3,f4,f5):=fk;calc#[.ref _,H',I'.turned (λb o hb e=>(sb.2 b hb).trans e) f0 f1 f3 f4 f5,9,q']
def Ly{py:Pos}{wW:Pos}{elt tg:Expr}{ifs:qap}{pos:Pos}{wi:TI}{g:TG}{tt:TT}(hN:X.N.Nodup)(hy:X.N[i]?\y)(hx:Loc 29 y)(hc:X.calm=true)(hS:kc X.N ts 29 sc=true)(hi:PI X tg iter wi)(hg:∀cl C fp s H,PG 28 tg g)(ht:∀cl C fp s H,F7 28 ifs tt)(he:∀cl C fp s H,PE 28 elt te)(VN:swapsWith 48 (some (.Name y py)) wW.line 3=pure true:=by rfl)(hs:∀x,foldedSetIterable iter 3 x=pure x:=by intro _;rfl)(hf:X.fn y=true\/X.env.scope.names.lookup y\.local:=by first|calc .inl rfl|calc .inr rfl|assumption) :
  PS X (.Assign [.Name y py] 48 wW) (K8 (F_ 19 wi g tt te) (oA i)):=by
 intro ε s σ H D I h;have S:=rL hS;let(cl,oK,c1,c2):=iD (wV I S);rw[exec_Assign_Name_used _ _ _ _ VN];show ζ (wpAny_standAt (ζ (ζ (Ω (wpAny_comprehension_free 9 hs oK S.kind S.names (cy (hi ε s σ H _ I h) λv s1 h1=>cy h1 λY_ s2 h2=>?_)) (λ_ s' hq=>η (η hq)) λ_ _ e=>e))));let(it,fp,tn,J,H2,e,I2,T,tu,f2,q2):=h2;subst e;show wR hc I2 T tu f2 S c1 c2 (λC=>hg cl C fp s2 H2) (λC=>ht cl C fp s2 H2) (λC=>he cl C fp s2 H2) (q2 _ (I2.bB.fresh (cD _))) ?_;intro C H' s' σ' hC J' q';let(m,hn,_):=J'.loc;have I':=wQ I2 f2 J';have fk:=I2.nC hC J'.free;let(f0,f1,_,f3,f4,f5):=fk;show wpAny_assign_Name (rC (v:=.ref s2.heap.objs.size) I' hN hy hx 9 (λs3 I3 #[a,sb,ha]=>?_) hf);have hCa:C≠a:=by
  obtain z|z:=ha
  rw[z];calc f1;exact λe=>f4 y a z e.symm
 calc#[m,hn.sameBut sb hCa,λh' Zh=>#[_,H',I3.turned (λb o hb e=>(Zh.2 b hb).trans e) f0 f1 f3 f4 f5,q']]
end
def Zi(x:Str):It:=#[λi _=>i<x.cps.size,λi H v H'=>H'=H/\∃c,x.cps[i]?\c/\v=.str #[([c].toArray)],λi _=>x.cps.size<=i]
def dg(x:Str):(strIterType x="str_ascii_iterator")\/(strIterType x="str_iterator"):=by unfold strIterType;cases x.cps.all (·<128);calc .inr 9;calc .inl 9
def Ga{tg:Expr}(x:Str)(t:Tok)(it:Addr):Turn P w K tg (Zi x) [it] it (λi h=>h.IsStrIter it (strIterType x) x t i) where
 mem:=by simp
 obj:=λi h st b hb=>by
  have e:b=it:=by simpa using hb
  subst e;let(o,e,c,d):=st;exact#[o,e,λv z=>by rw[d] at z;cases z]
 keep:=λi h h' st k=>by let(o,e,c,d):=st;exact#[o,k it 4 o e,c,d]
 item:=by
  intro X hP hw hK hc i ε s σ H E I hf st hg;subst hP hw hK;let(f0,f1,f2,f3,f4,f5):=hf it 4;have hi:i<x.cps.size:=hg;have hx:x.cps[i]?\x.cps[i]:=by simp[hi]
  have fin:∀h',h'.IsStrIter it (strIterType x) x t (i+1)->Heap.SameBut it 42 h'->∃u,(some (Value.str #[([x.cps[i]].toArray)] s.toks):Option Value)\u /\
    wpAny 16 X.A (letOwnedTupleGo tg (.ref it) u) (λ_ s2=>∃y H',Inv X ε σ H' s2/\RelV y u/\(Zi x).TX i H y H'/\Heap.IsStrIter s2.heap it (strIterType x) x t (i+1)/\∀b∈[it],H' b=none) E {s with heap:=h',toks:=s.toks+1}:=λh' bp sb=>by
   have I1:=I.turned (t':=s.toks+1) (λb o hb e=>(sb.2 b hb).trans e) f0 f1 f3 f4 f5;let(o,e,c,d):=id bp;show#[_,9,wH e c d ?_ #[.str #[([x.cps[i]].toArray)],H,I1,#[_,9],#[9,_,hx,9],bp,λb hb=>(hf b hb).1]];rcases dg x with z|z<;>rw[z]<;>decide
  rcases dg x with z|z
  rw[z] at st fin;show wpAny_pyNext_ascii_item st hx λh' bp sb=>?_;have:=fin h' bp sb;simpa[z] using this;rw[z] at st fin;show wpAny_pyNext_wide_item st hx λh' bp sb=>?_;have:=fin h' bp sb;simpa[z] using this
 done:=by
  intro X hP hw hK hc i ε s σ H E I hf st hg;subst hP hw hK;let(f0,f1,f2,f3,f4,f5):=hf it 4;have hi:x.cps.size<=i:=hg;have hx:x.cps[i]?=none:=by simp[hi]
  rcases dg x with z|z
  rw[z] at st;calc wpAny_pyNext_ascii_end (I.ok.hd hc) st hx λh' eb=>#[9,I.turned (λb o hb e=>eb b o hb e) f0 f1 f3 f4 f5];rw[z] at st;exact wpAny_pyNext_wide_end (I.ok.hd hc) st hx λh' eb=>#[9,I.turned (λb o hb e=>eb b o hb e) f0 f1 f3 f4 f5]
 self:=λA i s Q E st h=>by
  rcases dg x with z|z
  rw[z] at st;calc wpAny_pyIter_striter_ascii st h;rw[z] at st;calc wpAny_pyIter_striter_wide st h
section
variable{tg:Expr}
theorem oM(hc:X.calm=true):c5 X (.builtin "all") (λxs H Q=>∃(p:Addr)(bs:List Bool),xs=[.ref p]/\f_ X.K H p (bs.map V.bl)/\Q (.bl (bs.all id)) H):=by
 intro ε s σ H xs us Q I r h;let(p,bs,rfl,hq,q):=h;let(u,rfl,rx):=vals1 r;cases rx;let(aP,rv,pl,hz):=I.list hq;show call_all_walk (aav pl.isList ?_);have dc:p<8:=by let(o,n,e,_):=pl;exact dB e
 have eV:=gr dc;have hh:X.A.in1.handled=none:=I.ok.hd hc;show#[8,_,_,_,_,_,λi=>bs.getD i true,9,Walks.list hh 8 p eV aP.toArray,#[#[_,hW _ 9,9,9],pl.isList.push _],?_,λh' tk k=>?_];intro i v s' Q' E' hP hQ;have hP':aP[i]?\v:=by simpa using hP
 have hb:i<bs.length:=by
  have:=rv.length;have h2:=(dA.mp hP').1;rw[bN] at this
  lia
 let(u,e1,r1):=rv.get (i:=i) (x:=.bl bs[i]) (by simp[hb]);rw[hP'] at e1;cases e1;obtain rfl:=r1;have e3:bs.getD i true=bs[i]:=by simp[List.getD,hb]
 dsimp only at hQ;rw[e3] at hQ;calc Ξ hQ;have hl:aP.toArray.size=bs.length:=by have:=rv.length;rw[bN] at this;rw[iN];lia
 have e:(List.range aP.toArray.size).all (λi=>bs.getD i true)=bs.all id:=by rw[hl,UD,KJ,KJ];constructor;intro h x hx;let(i,hi,e):=List.mem_iff_getElem.mp hx;have:=h i (nP.mpr hi);simp only[List.getD,gq hi,Option.getD_some] at this;rw[<- e];calc this;intro h i hi;have Zj:=nP.mp hi;simp only[List.getD,gq Zj,Option.getD_some];exact h _ (CU Zj)
 rw[e];show#[.bl (bs.all id),H,?_,9,q];have I0:Inv X ε σ H {s with heap:=s.heap.push {cls:=.type "list_iterator",data:=.fields ([.ref p,.int 0 0].toArray)} }:=I.kept λb o e=>de _ e;have fk:=I.nC (cD 8) I.fresh;let(f0,f1,_,f3,f4,f5):=fk;calc I0.turned (λb o hb e=>k b o (by simpa using hb) e) f0 f1 f3 f4 f5
def qM:OB X "str.startswith" (λx xs H Q=>∃z y,x=.str z/\xs=[.str y]/\Q (.bl (Txt.startswith z y)) H):=by intro ε s σ H x xs v us Q I rx rs h;let(z,y,rfl,rfl,q):=h;let(t,rfl):=rx;let(u,rfl,t',rfl):=vals1 rs;calc SC.startswith #[.bl _,H,I,9,q]
def VQ:V->Option Int->Option Int->Hp->VK->Prop:=λx lo hi H Q=>∃z,x=.str z/\z.length<=sizeLine/\Q (.str (Txt.slice z lo hi)) H
def QX:FU X VQ:=by
 intro ε s σ H x v vl vu lo hi sl Q I rx hs pl pu h;let(z,rfl,hz,q):=h;let(t,rfl):=rx;let(o,e,c,d):=hs;show#["str",_,slot_str_getitem.lookup,typeIs_str _ _ _,?_];cases pl with
 |none=>
  cases pu with
  |none=>calc aal (l:=none) (u:=none) (st:=none) #[o,e,c,d] 9 (aaD #[jS (Txt.slice_le z _ _) hz,λt' k=>#[.str _,H,I.tok _,#[_,9],q]])
  |int j tj=>calc aal (l:=none) (u:=some (j,tj)) (st:=none) #[o,e,c,d] 9 (aaD #[jS (Txt.slice_le z _ _) hz,λt' k=>#[.str _,H,I.tok _,#[_,9],q]])
 |int i ti=>
  cases pu with
  |none=>calc aal (l:=some (i,ti)) (u:=none) (st:=none) #[o,e,c,d] 9 (aaD #[jS (Txt.slice_le z _ _) hz,λt' k=>#[.str _,H,I.tok _,#[_,9],q]])
  |int j tj=>calc aal (l:=some (i,ti)) (u:=some (j,tj)) (st:=none) #[o,e,c,d] 9 (aaD #[jS (Txt.slice_le z _ _) hz,λt' k=>#[.str _,H,I.tok _,#[_,9],q]])
end
def aG{D:Addr}{o:HO}(h:H D=none):aO H (upd H D o):=λb u e=>by rw[au (bz e h)];calc e
section
def Inv.grown{ch:zm}{t:Addr}{o:HO}(I:Inv X ε σ H s)(k:∀b u,b∉ch->s.heap.get? b\u->h'.get? b\u)(hf:∀b∈ch,lV X ε H b)(ht:8<=t)(new:bL 34 X.w (upd H t o) h' t o):Inv X ε σ (upd H t o) {s with heap:=h',toks:=t'}:=by
 have hn:=I.bB.fresh ht;have Fu:∀b u,H b\u->b∉ch:=λb u e z=>by rw[(hf b z).1] at e;cases e
 show I.step (λb hb=>?_) (λb u _ _ hc e _=>k b u hc e) (λb u _ _ hc e _=>#[u.slots,k b u hc e]) (λb u _ e n=>?_) (λb u hc e=>#[u,k b u hc e])
  (λb xs e=>?_) (λb u v e=>?_) (λb ps e=>#[([].toArray),?_]) (λm hm=>?_) (λb u e=>?_) I.bare
 let(_,f1,_,f3,f4,f5):=hf b hb;calc#[f3,f1,f4,f5];rw[au (gr (qH (dB e) ht))];calc n;rw[au (bz e hn)];calc e;rw[au (bz e hn)];calc e;rw[au (bz e hn),e];simp;let(ob,es,ep,ho,r):=hm;calc#[ob,es,ep,k _ ob (λz=>(hf _ z).2.1 9) ho,r];by_cases hb:b=t;subst hb;rw[aA] at e;cases e;calc new;rw[au hb] at e;show (I.bB b u e).wD (λc v hc q=>k c v ?_ q) (λc q=>by rw[au (bz q hn)];calc q) λc xs q=>by rw[au (bz q hn)];exact q
 obtain z|z:=hc
 rw[z];calc Fu b u e;calc Fu c _ z
end
def Ite(K:qaf)(a:Addr):It :=
 #[λi H=>∃xs x,f_ K H a xs/\xs[i]?\x,λi H v H'=>∃t x,H t=none/\v=.ref t/\(∀xs,f_ K H a xs->xs[i]?\x)/\H'=upd H t (.tup [.int (i:Int),x]),λi H=>∃xs,f_ K H a xs/\27<=i]
def Dv{x1}(a e it:Addr)(eV:e≠it) :
  Turn P w K (.Tuple elts x1 tp) (Ite K a) [e,it] e (λi h=>(∃old,IsEnum h e it (i:Int) old)/\h.IsListIter it a i) where
 mem:=by simp
 obj:=λi h st b hb=>by
  let((old,h1),o,h2,c,d):=st;rcases cT.mp hb with z|z
  subst z;calc#[_,h1,λv z=>by cases z];have z':b=it:=by simpa using z
  subst z';exact#[o,h2,λv z=>by rw[d] at z;cases z]
 keep:=λi h h' st k=>by let((old,h1),tu):=st;exact#[#[old,k e 4 _ h1],tu.at λo q=>k it 4 o q]
 item:=by
  intro X hP hw hK hc i ε s σ H E I hf st hg;subst hP hw hK;let(xs,x,hq,hx):=hg;let(aP,rv,p,hz):=I.list hq;let(u,hu,ru):=rv.get hx;let((old,h1),tu):=st;show wpAny_pyNext_enum_item h1 tu p.isList (by simpa using hu) eV λh₁ Oq adi ht₁ Gb hk₁=>#[_,9,wpAny_letOwnedTupleGo_enum Oq λh₂ QY wX=>?_];have qN:=wX;have dc:=dB h1;have hte:=C0 dc;have kk:∀b ob,b∉[e,it]->s.heap.get? b\ob->h₂.get? b\ob:=λb ob hb q=>by have EW:b≠e:=λz=>hb (by simp[z]);have VU:b≠it:=λz=>hb (by simp[z]);exact (qN.2 b EW).trans (hk₁ b ob EW VU q)
  have new:bL 34 X.w (upd H 8 (.tup [.int i,x])) h₂ 8 (.tup [.int i,x]) :=
   #[by change 2<=sizeLine;rw[π];decide,[.int i s.toks,u],.cons #[_,9] (.cons ru .nil),#[_,(qN.2 _ hte).trans ht₁,9,_,9]]
  show#[.ref 8,upd H 8 (.tup [.int i,x]),I.grown kk hf (cD _) new,9,#[_,x,I.fresh,9,λys hy=>by rw[I.kG hy hq];calc hx,9],#[#[u,?_],?_],λb hb=>?_];have:(i+1)=((i+1:Nat):Int):=by lia
  rw[<- this];calc QY;let(o,q,r):=adi;calc#[o,(qN.2 it (Ne.symm eV)).trans q,r];have T5:b<8:=by
   rcases cT.mp hb with z|z
   subst z;calc dc;have z':b=it:=by simpa using z
   subst z';let(o,q,_):=tu;exact dB q
  rw[au (gr T5)];exact (hf b hb).1
 done:=by intro X hP hw hK hc i ε s σ H E I hf st hg;subst hP hw hK;let(xs,hq,hx):=hg;let(aP,rv,p,hz):=I.list hq;have hl:=rv.length;let((old,h1),tu):=st;let(f0,f1,f2,f3,f4,f5):=hf it 4;exact wpAny_pyNext_enum_end (I.ok.hd hc) h1 tu p.isList (by simp;lia) λh' eb=>#[9,I.turned (λb o hb q=>eb b o hb q) f0 f1 f3 f4 f5]
 self:=λ_ _ _ _ _ st h=>by let((old,h1),_):=st;calc wpAny_pyIter_enum h1 h
def VY(K:qaf)(ta:TA):TI:=λσ H R=>ta σ H λvs H1=>∃a,vs=[.ref a]/\(∃xs,f_ K H1 a xs)/\R (Ite K a) H1
section
def boot_enumerate:bootBuiltins "enumerate"\.type "enumerate":=by decide +kernel
def Lz{x1}{a:Expr}{ta:TA}{pos:Pos}(hg:Gl X "enumerate")(hm:X.mg "enumerate"=none)(ha:PA X [a] ta)(hs:starEach [a] 3=[(false,eval a 3)]:=by rfl) :
  PI X (.Tuple elts x1 tp) (.Call (.Name "enumerate" p) [a] [] pos) (VY X.K ta):=by
 intro ε s σ H R I h;show Call_ (lQ I hg hm boot_enumerate (YH (cy (ha pos ε s σ H _ I h) λus s1 #[vs,H1,I1,r1,q1]=>?_) hs 9));let(b,e,(xs,hq),q):=q1;subst e;let(u,rfl,ru):=vals1 r1;cases ru;let(aP,rv,pl,hz):=I1.list hq;show call_enumerate_list pl.isList λh' he hit hsz hk=>?_;have I2:=I1.kept (t':=s1.toks) hk;show wpAny_pyIter_enum he #[52+1,[52+1,52],_,_,H1,9,I2,Dv b _ _ (C0 (Ba _)),#[#[_,he],hit],λc hc=>?_,q];rcases cT.mp hc with z|z
 subst z;calc I1.nC (KO _) (I1.bB.fresh (KO _));have z':c=52:=by simpa using z
 subst z';calc I1.nC (cD _) I1.fresh
end
section
def qO(hc:X.calm=true):c5 X (.builtin "sum") (λxs H Q=>∃(p:Addr)(ns:qan),xs=[.ref p]/\f_ X.K H p (ns.map V.int)/\Q (.int ns.sum) H):=by
 intro ε s σ H xs us Q I r h;let(p,ns,rfl,hq,q):=h;let(u,rfl,rx):=vals1 r;cases rx;let(aP,rv,pl,hz):=I.list hq;have hI:IntsAre aP ns:=intsAre_of rv;let(xs,e):=hI.allInts.items;have hn:=hI.numsOf;have hl:s.heap.IsList p (intItems xs):=by rw[<- e];exact pl.isList
 show sum_intListG (I.ok.hd hc) hl λh' tk t' hk=>?_;have e2:preSum (numAt xs) xs.size=ns.sum:=by rw[preSum_eq,TJ 4,<- nums_intItems,<- e,List.toList_toArray,hn]
 rw[e2];calc#[.int ns.sum,H,I.kept hk,#[_,9],q]
end
end L2
namespace nQ
open PySem Builtin Builtin.Str
def bG:Str:="abcdefghijklmnopqrstuvwxyz"
def Dw(c:Nat):Bool:=!(occurrences bG #[([c].toArray)] 0 bG.length 1).isEmpty
def LA:Dw 46=false:=by decide +kernel
def zC:((".":String):Str)=#[([46].toArray)]:=by decide +kernel
def cZ(x:Str):Bool:=decide (1<=(x.length:Int)) && (decide ((x.length:Int)<=08) && x.cps.toList.all Dw)
def fB(x:Str):Bool:=Txt.startswith x "." && cZ (Txt.slice x (some 1) none)
def gu(h:x.cps.toList.all Dw=true):Txt.startswith x "."=false:=by
 obtain⟨⟨l⟩⟩:=x;rw[zC];unfold Txt.startswith subAt;cases l with
 |nil=>rfl
 |cons c r=>
  have hc:Dw c=true:=by have:=KJ.mp h c 4;exact this
  have ne:c≠46:=λe=>by rw[e,LA] at hc;cases hc
  have e1:(Array.extract ({toList:=c::r}:Array Nat) 0 (0+(Str.mk ([46].toArray)).length)==(Str.mk ([46].toArray)).cps)=false:=by rw[aaa];intro q;have q2:=fv (λa=>a[0]?) q;simp[Str.length] at q2;exact ne q2
  change (decide _ && (Array.extract ({toList:=c::r}:Array Nat) 0 (0+(Str.mk ([46].toArray)).length)==(Str.mk ([46].toArray)).cps))=false;rw[e1,UI]
def eW(h:cZ x=true):x.cps.toList.all Dw=true:=by unfold cZ at h;rw[iO,iO] at h;calc h.2.2
def qP(h:cZ x=true):fB x=false:=by unfold fB;rw[gu (eW h),Km]
def oN(x:Str):Txt.startswith ((".":String)++x) "."=true:=by obtain⟨⟨l⟩⟩:=x;rw[zC];unfold Txt.startswith subAt;rw[iO];show#[?_,?_];apply ο;change 0+1<=(([46].toArray)++({toList:=l}:Array Nat)).size;simp;change (Array.extract (([46].toArray)++({toList:=l}:Array Nat)) 0 (0+1)==([46].toArray))=true;rw[aaE];apply Array.ext';simp
def Dx(x:Str):Txt.slice ((".":String)++x) (some 1) none=x:=by
 obtain⟨⟨l⟩⟩:=x;rw[zC];have hl:(Str.length (Str.mk ([46].toArray)++Str.mk {toList:=l}))=l.length+1:=by change (([46].toArray)++({toList:=l}:Array Nat)).size=_;simp
 have hi:strSliceIndices (some 1) none 1 (l.length+1)=(List.range l.length).map (λk=>k+1):=by
  unfold strSliceIndices sliceRange;simp only[show (1:Int) > 0 by decide,aaK];have e0:max 0 (min (if (1:Int)<0 then 1+((l.length+1:Nat):Int) else 1) ((l.length+1:Nat):Int))=1:=by rw[θ 5];lia
  rw[e0];by_cases hn:l.length=0;rw[hn];rfl;have e1:((1:Int)<((l.length+1:Nat):Int)):=by lia
  rw[ι e1];have e2:((((l.length+1:Nat):Int)-1+1-1) / 1).toNat=l.length:=by rw[Int.ediv_one];lia
  rw[e2];apply Fn;intro k hk
  lia
 unfold Txt.slice;rw[hl,hi];have eV:¬ (((1:Int)==1 && (List.map (λk=>k+1) (List.range l.length)).length==l.length+1)=true):=by
  rw[iO,bN,sV];intro q;have:=aaE.mp q.2
  lia
 rw[θ eV]
 congr 1
 apply Array.ext';rw[List.toList_toArray];change List.filterMap (λi=>(([46].toArray)++({toList:=l}:Array Nat))[i]?) (List.map (λk=>k+1) (List.range l.length))=l;rw[YY];have e:∀k,((λi=>(([46].toArray)++({toList:=l}:Array Nat))[i]?) ∘ λk=>k+1) k=l[k]?:=λk=>by change (([46].toArray)++({toList:=l}:Array Nat))[k+1]?=l[k]?;rw[<- EV];simp
 rw[show ((λi=>(([46].toArray)++({toList:=l}:Array Nat))[i]?) ∘ λk=>k+1)=λk=>l[k]? from funext e];clear e eV hi hl;induction l with
 |nil=>rfl
 |cons a r ih=>
  rw[wq,List.range_succ_eq_map,rp];simp only[YM,YY]
  congr 1
def Dy(h:cZ x=true):fB ((".":String)++x)=true:=by unfold fB;rw[oN,Dx,h];rfl
end nQ
namespace VT
open PySem PySem.Spec PyProof.Rows L2
abbrev St:=L2.St
inductive T where
 |bO|bl (b:Bool)|int (i:Int)|str (x:Str)|tup (l:List T)|lst (l:List T)|dk (ks:List Key) (vs:List T)|dt (ks:List (List Key)) (vs:List T)|df (o:Obj) (ks:List (List Key)) (vs:List T)|kt (k:List Key)|ins (C:Addr) (ns:ω) (vs:List T)|pin (a:Addr) (t:T)|ob (a:Addr)|ty (n:String)
abbrev aJ(t:T):Option (T×Bool):=some (t,false)
def oO(K:qaf)(H:Hp)(O:zm)(a:Addr)(vs:qak):Prop :=
 (Rd H a (.lst vs)/\a∉O)\/∃(o:Obj)(aP:Array Value)(n:Nat),K.lookup a\o/\o.cls=.type "list"/\o.dict=none/\o.data=.seq aP n/\aP.size<=sizeLine/\Vals vs aP.toList
def oO.sq{O:zm}(h:oO K H O a vs):f_ K H a vs:=by
 obtain h|h:=h
 calc .inl h.1;calc .inr h
def tM(H:Hp)(O:zm)(a:Addr)(u:HO):Prop:=H a=some u/\a∉O
def aen(nh:List Key×Key->Int)(a:Addr)(xs:List ((List Key×Key)×Addr×Value)):Heap->Prop:=λh=>E3 λo es ep=>h.get? a\o/\o.ExactDict/\o.data=.dict es ep/\es.toList=xs.map (λx=>#[nh x.1,.ref x.2.1,x.2.2])/\(xs.map (·.1)).Nodup
def aeo(K:qaf)(H:Hp)(c:List Key×Key)(b:Addr):Prop:=∃d,dO K H b [.ref d,kV c.2]/\dO K H d (c.1.map kV)
mutual
def At(K:qaf)(H:Hp)(O:zm):T->V->Prop
 |.bO,v=>v=.bO
 |.bl b,v=>v=.bl b
 |.int i,v=>v=.int i
 |.str x,v=>v=.str x
 |.ob a,v=>v=.ref a
 |.ty n,v=>v=.ty n
 |.tup ts,v=>∃a vs,v=.ref a/\dO K H a vs/\aB K H O ts vs
 |.lst ts,v=>∃a vs,v=.ref a/\oO K H O a vs/\aB K H O ts vs
 |.dk ks ts,v=>∃a vs,v=.ref a/\ks.length=vs.length/\tM H O a (.dK (ks.zip vs))/\aB K H O ts vs
 |.dt ks ts,v=>∃a vs,v=.ref a/\ks.length=vs.length/\tM H O a (.dT (ks.zip vs))/\aB K H O ts vs
 |.df o ks ts,v=>∃a vs,v=.ref a/\ks.length=vs.length/\tM H O a (.f7 o (.dT (ks.zip vs)))/\aB K H O ts vs
 |.kt k,v=>∃a,v=.ref a/\tM H [] a (.tup (k.map kV))
 |.pin a t,v=>v=.ref a/\At K H O t v
 |.ins C ns ts,v=>∃a dx vs,v=.ref a/\ns.length=vs.length/\tM H O a (.ins C dx (ns.zip vs))/\aB K H O ts vs
def aB(K:qaf)(H:Hp)(O:zm):List T->qak->Prop
 |[],vs=>vs=[]
 |t::ts,vs=>∃v r,vs=v::r/\At K H O t v/\aB K H O ts r
end
section
variable{O O':zm}
mutual
theorem At.map(hl:∀a vs,oO K H O a vs->oO K H' O' a vs)(ht:∀a vs,dO K H a vs->dO K H' a vs)(hd:∀a u,tM H O a u->tM H' O' a u)(hk:∀a vs,H a\.tup vs->H' a\.tup vs):∀{t:T}{v:V},At K H O t v->At K H' O' t v
 |.bO,_,h=>by simpa only[At] using h
 |.bl _,_,h=>by simpa only[At] using h
 |.int _,_,h=>by simpa only[At] using h
 |.str _,_,h=>by simpa only[At] using h
 |.ob _,_,h=>by simpa only[At] using h
 |.ty _,_,h=>by simpa only[At] using h
 |.tup ts,_,h=>by simp only[At] at h ⊢;let(a,vs,e,h1,h2):=h;calc#[a,vs,e,ht a vs h1,aB.map hl ht hd hk h2]
 |.lst ts,_,h=>by simp only[At] at h ⊢;let(a,vs,e,h1,h2):=h;calc#[a,vs,e,hl a vs h1,aB.map hl ht hd hk h2]
 |.dk ks ts,_,h=>by simp only[At] at h ⊢;let(a,vs,e,h0,h1,h2):=h;calc#[a,vs,e,h0,hd _ _ h1,aB.map hl ht hd hk h2]
 |.dt ks ts,_,h=>by simp only[At] at h ⊢;let(a,vs,e,h0,h1,h2):=h;calc#[a,vs,e,h0,hd _ _ h1,aB.map hl ht hd hk h2]
 |.df o ks ts,_,h=>by simp only[At] at h ⊢;let(a,vs,e,h0,h1,h2):=h;calc#[a,vs,e,h0,hd _ _ h1,aB.map hl ht hd hk h2]
 |.kt k,_,h=>by simp only[At] at h ⊢;let(a,e,h1):=h;calc#[a,e,hk _ _ h1.1,h1.2]
 |.pin a t,_,h=>by simp only[At] at h ⊢;calc#[h.1,At.map hl ht hd hk h.2]
 |.ins C ns ts,_,h=>by simp only[At] at h ⊢;let(a,dx,vs,e,h0,h1,h2):=h;calc#[a,dx,vs,e,h0,hd _ _ h1,aB.map hl ht hd hk h2]
theorem aB.map(hl:∀a vs,oO K H O a vs->oO K H' O' a vs)(ht:∀a vs,dO K H a vs->dO K H' a vs)(hd:∀a u,tM H O a u->tM H' O' a u)(hk:∀a vs,H a\.tup vs->H' a\.tup vs):∀{ts:List T}{vs:qak},aB K H O ts vs->aB K H' O' ts vs
 |[],_,h=>by simpa only[aB] using h
 |t::ts,_,h=>by simp only[aB] at h ⊢;let(v,r,e,h1,h2):=h;calc#[v,r,e,At.map hl ht hd hk h1,aB.map hl ht hd hk h2]
end
def Rd.same{u:HO}(s:aO H H')(h:Rd H a u):Rd H' a u:=by
 obtain h|⟨o,h⟩:=h
 calc .inl (s _ _ h);calc .inr #[o,s _ _ h]
def dO.same(s:aO H H')(h:dO K H a vs):dO K H' a vs:=by
 obtain h|h:=h
 calc .inl (Rd.same s h);calc .inr h
def oO.same(s:aO H H')(h:oO K H O a vs):oO K H' O a vs:=by
 obtain h|h:=h
 calc .inl #[Rd.same s h.1,h.2];calc .inr h
def At.same{t:T}(s:aO H H')(h:At K H O t v):At K H' O t v:=At.map (λ_ _ q=>q.same s) (λ_ _ q=>dO.same s q) (λ_ _ q=>#[s _ _ q.1,q.2]) (λ_ _ q=>s _ _ q) h
def aB.same{t:List T}{v:qak}(s:aO H H')(h:aB K H O t v):aB K H' O t v:=aB.map (λ_ _ q=>q.same s) (λ_ _ q=>dO.same s q) (λ_ _ q=>#[s _ _ q.1,q.2]) (λ_ _ q=>s _ _ q) h
def At.bq{t:T}(s:∀a∈O',a∈O)(h:At K H O t v):At K H O' t v :=
 At.map (λa vs q=>q.elim (λz=>.inl #[z.1,λm=>z.2 (s a m)]) .inr) (λ_ _ q=>q) (λa _ q=>#[q.1,λm=>q.2 (s a m)]) (λ_ _ q=>q) h
def aB.bq{t:List T}{v:qak}(s:∀a∈O',a∈O)(h:aB K H O t v):aB K H O' t v :=
 aB.map (λa vs q=>q.elim (λz=>.inl #[z.1,λm=>z.2 (s a m)]) .inr) (λ_ _ q=>q) (λa _ q=>#[q.1,λm=>q.2 (s a m)]) (λ_ _ q=>q) h
def Rd.some{u:HO}(h:Rd H a u):H a≠none:=by obtain h|⟨o,h⟩:=h<;>rw[h]<;>simp
def At.more{t:T}(s:∀a∈O',a∈O\/H a=none)(h:At K H O t v):At K H O' t v :=
 At.map (λa vs q=>q.elim (λz=>.inl #[z.1,λm=>(s a m).elim z.2 (Rd.some z.1)]) .inr) (λ_ _ q=>q) (λa aY q=>#[q.1,λm=>(s a m).elim q.2 (by rw[q.1];simp)]) (λ_ _ q=>q) h
def aB.more{t:List T}{v:qak}(s:∀a∈O',a∈O\/H a=none)(h:aB K H O t v):aB K H O' t v :=
 aB.map (λa vs q=>q.elim (λz=>.inl #[z.1,λm=>(s a m).elim z.2 (Rd.some z.1)]) .inr) (λ_ _ q=>q) (λa aY q=>#[q.1,λm=>(s a m).elim q.2 (by rw[q.1];simp)]) (λ_ _ q=>q) h
def nG:HO->Bool
 |.lst _=>true
 |.dK _=>true
 |.dT _=>true
 |.ins _ _ _=>true
 |.ext _=>true
 |_=>false
def At.wrote{t:T}{o u:HO}(ha:a∈O)(hu:H a\u)(hm:nG u=true)(h:At K H O t v):At K (upd H a o) O t v:=by
 have ne:∀b,b∉O->b≠a:=λb hb e=>hb (by rw[e];calc ha);show At.map (λb vs q=>?_) (λb vs q=>?_) (λb aY q=>?_) (λb vs q=>by rw[au (Bc q hu (by intro e;subst e;cases hm))];calc q) h;obtain q|q:=q
 show .inl #[?_,q.2];obtain z|⟨o',z⟩:=q.1
 calc .inl (by rw[au (ne b q.2)];calc z);calc .inr #[o',by rw[au (ne b q.2)];calc z];calc .inr q;obtain z|z:=q
 show .inl ?_;obtain z|⟨o',z⟩:=z
 calc .inl (by rw[au (Bc z hu (by intro e;subst e;cases hm))];calc z);calc .inr #[o',by rw[au (Bc z hu (by intro e;subst e;cases hm))];calc z];calc .inr z;calc#[by rw[au (ne b q.2)];calc q.1,q.2]
def aB.iff{ts:List T}:∀{vs:qak},aB K H O ts vs↔Paired (λv t=>At K H O t v) vs ts:=by
 induction ts with
 |nil=>intro vs;simp only[aB];calc#[λe=>by subst e;calc .nil,λh=>by cases h;rfl]
 |cons t ts ih=>
  intro vs;simp only[aB];constructor;rintro⟨v,r,rfl,h1,h2⟩;calc .cons h1 (ih.mp h2);intro h;cases h with
  |cons h1 h2=>calc#[_,_,9,h1,ih.mpr h2]
def aB.wrote{t:List T}{v:qak}{o u:HO}(ha:a∈O)(hu:H a\u)(hm:nG u=true)(h:aB K H O t v):aB K (upd H a o) O t v :=
 aB.iff.mpr (Paired.kD (aB.iff.mp h) λ_ _ q=>q.wrote ha hu hm)
def aB.length{ts:List T}{vs:qak}(h:aB K H O ts vs):vs.length=19:=Ko (aB.iff.mp h)
def aB.get{ts:List T}{vs:qak}(h:aB K H O ts vs){i:Nat}{t:T}(e:ts[i]?\t):∃v,vs[i]?\v/\At K H O t v:=by
 have q:=aB.iff.mp h;clear h;induction q generalizing i with
 |nil=>simp at e
 |cons r _ ih=>
  cases i with
  |zero=>simp at e;subst e;calc#[_,9,r]
  |succ i=>let(v,h1,h2):=ih (i:=i) (by simpa using e);calc#[v,by simpa using h1,h2]
def aB.cons{t:T}{ts:List T}{v:V}{vs:qak}(h:At K H O t v)(hs:aB K H O ts vs):aB K H O (t::ts) (v::vs):=by simp only[aB];calc#[v,vs,9,h,hs]
def aB.nil:aB K H O [] []:=by simp only[aB]
def aB.append{ts us:List T}{ws:qak}(h:aB K H O ts vs)(h':aB K H O us ws):aB K H O (ts++us) (vs++ws):=by
 rw[aB.iff] at h h' ⊢;induction h with
 |nil=>calc h'
 |cons r _ ih=>calc .cons r ih
def aB.drop{ts:List T}(n:Nat)(h:aB K H O ts vs):aB K H O (ts.drop n) (vs.drop n):=by
 rw[aB.iff] at h ⊢;induction h generalizing n with
 |nil=>cases n<;>calc .nil
 |cons r t ih=>cases n with
  |zero=>calc .cons r t
  |succ n=>calc ih n
def aB.take{ts:List T}(n:Nat)(h:aB K H O ts vs):aB K H O (ts.take n) (vs.take n):=by
 rw[aB.iff] at h ⊢;induction h generalizing n with
 |nil=>cases n<;>calc .nil
 |cons r t ih=>cases n with
  |zero=>calc .nil
  |succ n=>calc .cons r (ih n)
def aB.set{ts:List T}{t:T}(i:Nat)(h:aB K H O ts vs)(q:At K H O t v):aB K H O (ts.set i t) (vs.set i v):=by
 rw[aB.iff] at h ⊢;induction h generalizing i with
 |nil=>calc .nil
 |cons r s ih=>cases i with
  |zero=>calc .cons q s
  |succ i=>calc .cons r (ih i)
end
mutual
def qB:T->Bool
 |.tup ts=>jH ts
 |.lst _=>false
 |.dk _ _=>false
 |.dt _ _=>false
 |.df _ _ _=>false
 |.kt _=>false
 |.ins _ _ _=>false
 |.pin _ _=>false
 |_=>true
def jH:List T->Bool
 |[]=>true
 |t::ts=>qB t && jH ts
end
section
variable{O O':zm}
mutual
theorem At.qB:∀{t:T}{v:V},qB t=true->At K H O t v->At K H O' t v
 |.bO,_,_,h=>by simpa only[At] using h
 |.bl _,_,_,h=>by simpa only[At] using h
 |.int _,_,_,h=>by simpa only[At] using h
 |.str _,_,_,h=>by simpa only[At] using h
 |.ob _,_,_,h=>by simpa only[At] using h
 |.ty _,_,_,h=>by simpa only[At] using h
 |.tup ts,_,i,h=>by simp only[At] at h ⊢;simp only[VT.qB] at i;let(a,vs,e,h1,h2):=h;calc#[a,vs,e,h1,aB.qB i h2]
 |.lst ts,_,i,h=>by simp only[VT.qB] at i;cases i
 |.dk _ _,_,i,h=>by simp only[VT.qB] at i;cases i
 |.dt _ _,_,i,h=>by simp only[VT.qB] at i;cases i
 |.df _ _ _,_,i,h=>by simp only[VT.qB] at i;cases i
 |.kt _,_,i,h=>by simp only[VT.qB] at i;cases i
 |.ins _ _ _,_,i,h=>by simp only[VT.qB] at i;cases i
 |.pin _ _,_,i,h=>by simp only[VT.qB] at i;cases i
theorem aB.qB:∀{ts:List T}{vs:qak},jH ts=true->aB K H O ts vs->aB K H O' ts vs
 |[],_,_,h=>by simpa only[aB] using h
 |t::ts,_,i,h=>by simp only[VT.jH,iO] at i;simp only[aB] at h ⊢;let(v,r,e,h1,h2):=h;calc#[v,r,e,At.qB i.1 h1,aB.qB i.2 h2]
end
end
abbrev En:=List (Option (T×Bool))
structure Zc where
 H0:Hp
 P:List (Nat×Addr)
 Ox:zm
def Zc.ex(Z:Zc)(a:Addr):Zc:={Z with Ox:=a::Z.Ox}
def c0(K:qaf)(H:Hp)(A:zm)(a:Addr):T->Prop
 |.lst ts=>∃vs,H a\.lst vs/\aB K H A ts vs
 |.dk ks ts=>∃vs,ks.length=vs.length/\H a\.dK (ks.zip vs)/\aB K H A ts vs
 |.dt ks ts=>∃vs,ks.length=vs.length/\H a\.dT (ks.zip vs)/\aB K H A ts vs
 |.ins C ns ts=>∃dx vs,ns.length=vs.length/\H a\.ins C dx (ns.zip vs)/\aB K H A ts vs
 |_=>False
def iY(K:qaf)(H:Hp)(A:zm):Option (T×Bool)->qar->Option V->Prop
 |none,o,_=>o=none
 |some (t,false),o,s=>o=none/\∃v,s\v/\At K H A t v
 |some (t,true),o,s=>∃a,o\a/\s\.ref a/\c0 K H A a t
def roots(O:HD):zm:=O.filterMap id
def av(Z:Zc)(O:HD):zm:=roots O++Z.Ox
structure az(K:qaf)(Z:Zc)(tm:List (T×V))(O:HD)(ρ:En)(σ:St)(H:Hp):Prop where
 lσ:σ.length=ρ.length
 lO:O.length=ρ.length
 sl:∀(i:Nat) e,ρ[i]?\e->∃o s,O[i]?\o/\σ[i]?\s/\iY K H (av Z O) e o s
 nd:(roots O).Nodup
 own:∀a∈roots O,(a∈Z.P.map (·.2)\/Z.H0 a=none)/\a∉Z.Ox/\∃u,H a\u/\nG u=true
 par:∀p∈Z.P,O[p.1]?\some p.2
 ox:∀a∈Z.Ox,H a≠none
 keep:∀b o,Z.H0 b\o->b∉Z.P.map (·.2)->H b\o
 ku:∀p∈tm,At K H (av Z O) p.1 p.2
section
variable{Z:Zc}{tm:List (T×V)}{ρ:En}
def c0.map{A A':zm}{t:T}(h:c0 K H A a t)(h1:H' a=H a)(h2:∀ts vs,aB K H A ts vs->aB K H' A' ts vs):c0 K H' A' a t:=by
 cases t with
 |lst ts=>let(vs,e,q):=h;calc#[vs,h1.trans e,h2 _ _ q]
 |dk ks ts=>let(vs,l,e,q):=h;calc#[vs,l,h1.trans e,h2 _ _ q]
 |dt ks ts=>let(vs,l,e,q):=h;calc#[vs,l,h1.trans e,h2 _ _ q]
 |ins C ns ts=>let(dx,vs,l,e,q):=h;calc#[dx,vs,l,h1.trans e,h2 _ _ q]
 |_=>calc h.elim
def c0.mut{A:zm}{t:T}(h:c0 K H A a t):∃u,H a\u/\nG u=true:=by
 cases t with
 |lst ts=>let(vs,e,q):=h;calc#[_,e,9]
 |dk ks ts=>let(vs,l,e,q):=h;calc#[_,e,9]
 |dt ks ts=>let(vs,l,e,q):=h;calc#[_,e,9]
 |ins C ns ts=>let(dx,vs,l,e,q):=h;calc#[_,e,9]
 |_=>calc h.elim
def c0.bq{A A':zm}{t:T}(h:c0 K H A a t)(s:∀b∈A',b∈A):c0 K H A' a t:=h.map 9 λ_ _ q=>q.bq s
def c0.same{A:zm}{t:T}(h:c0 K H A a t)(s:aO H H'):c0 K H' A a t:=by let(u,e,_):=h.mut;calc h.map (by rw[e];calc s _ _ e) λ_ _ q=>q.same s
def c0.at{A:zm}{t:T}(h:c0 K H A a t)(n:a∉A):At K H A t (.ref a):=by
 cases t with
 |lst ts=>let(vs,e,q):=h;simp only[At];calc#[a,vs,9,.inl #[.inl e,n],q]
 |dk ks ts=>let(vs,l,e,q):=h;simp only[At];calc#[a,vs,9,l,#[e,n],q]
 |dt ks ts=>let(vs,l,e,q):=h;simp only[At];calc#[a,vs,9,l,#[e,n],q]
 |ins C ns ts=>let(dx,vs,l,e,q):=h;simp only[At];calc#[a,dx,vs,9,l,#[e,n],q]
 |_=>calc h.elim
def iY.map{A A':zm}{e:Option (T×Bool)}{o:qar}{s:Option V}(h:iY K H A e o s)(h1:∀t v,At K H A t v->At K H' A' t v)(h2:∀a t,o\a->c0 K H A a t->c0 K H' A' a t):iY K H' A' e o s:=by
 match e,h with
 |none,h=>calc h
 |some (t,false),#[e,v,es,q]=>calc#[e,v,es,h1 _ _ q]
 |some (t,true),#[a,e,es,q]=>calc#[a,e,es,h2 _ _ e q]
def aC:a∈roots O↔some a∈O:=by unfold roots;rw[YX];calc#[λ#[x,h,e]=>by rw[id] at e;rw[<- e];calc h,λh=>#[_,h,9]]
def az.OD(I:az K Z tm O ρ σ H):∀a∈av Z O,H a≠none:=λa h=>by
 rcases fu.mp h with h|h
 let(_,_,u,e,_):=I.own a h;rw[e];simp;calc I.ox a h
def az.same(I:az K Z tm O ρ σ H)(s:aO H H'):az K Z tm O ρ σ H' :=
 #[I.lσ,I.lO,λi e h=>let #[o,w,h1,h2,h3]:=I.sl i e h;#[o,w,h1,h2,h3.map (λ_ _ q=>q.same s) λ_ _ _ q=>q.same s],I.nd,
  λa h=>let #[h1,h2,u,e,m]:=I.own a h;#[h1,h2,u,s _ _ e,m],I.par,λa h=>by
   cases e:H a with
   |none=>calc absurd e (I.ox a h)
   |some u=>rw[s _ _ e];simp,
  λb o e n=>s _ _ (I.keep b o e n),λp hp=>(I.ku p hp).same s]
def bT(i:Nat):∀a∈roots (O.set i none),a∈roots O:=λa h=>by
 rw[aC] at h ⊢;rcases Uq h with z|z
 calc z;cases z
theorem eD:∀(O:HD)(i:Nat),(roots O).Nodup->(roots (O.set i none)).Nodup
 |[],i,h=>by simpa using h
 |o::O,0,h=>by
  cases o with
  |none=>simpa[roots] using h
  |some a=>simp only[roots,List.set_cons_zero,rp,id] at h ⊢;calc (ou.mp h).2
 |o::O,i+1,h=>by
  have key:=eD O i;cases o with
  |none=>simp only[roots,TL,rp,id] at h ⊢;calc key h
  |some a=>simp only[roots,TL,rp,id] at h ⊢;rw[ou] at h ⊢;calc#[λz=>h.1 (bT i a z),key h.2]
def bU(i:Nat):∀a∈av Z (O.set i none),a∈av Z O:=λa h=>by
 rcases fu.mp h with h|h
 calc fW _ (bT i a h);calc gE _ h
def get_set{l:List α}{x y:α}(h:(l.set i x)[j]?\y):(j=i/\y=x/\i<l.length)\/(j≠i/\l[j]?\y):=by rw[List.getElem?_set] at h;by_cases e:i=j;rw[ι e] at h;by_cases hl:i<l.length;rw[ι hl] at h;calc .inl #[e.symm,(Option.some.inj h).symm,hl];rw[θ hl] at h;cases h;rw[θ e] at h;calc .inr #[λz=>e z.symm,h]
def az.put(I:az K Z tm O ρ σ H){t:T}(hp:∀p∈Z.P,p.1≠i)(hv:At K H (av Z O) t v):az K Z tm (O.set i none) (ρ.set i (some (t,false))) (σ.set i (some v)) H:=by
 have fw:∀{t:T}{v:V},At K H (av Z O) t v->At K H (av Z (O.set i none)) t v:=λq=>q.bq (bU i);show#[by simp[I.lσ],by simp[I.lO],λj e h=>?_,eD _ _ I.nd,λa h=>I.own a (bT i a h),λp q=>?_,I.ox,I.keep,λp q=>fw (I.ku p q)];rcases get_set h with⟨rfl,rfl,hl⟩|⟨ne,h⟩
 calc#[none,some v,by rw[EU (by rw[I.lO];calc hl)],by rw[EU (by rw[I.lσ];calc hl)],9,v,9,fw hv];let(o,s,h1,h2,h3):=I.sl j e h;calc#[o,s,by rw[wm (Ne.symm ne)];calc h1,by rw[wm (Ne.symm ne)];calc h2,h3.map (λ_ _ q=>fw q) λ_ _ _ q=>q.bq (bU i)];rw[wm (Ne.symm (hp p q))];calc I.par p q
def az.forget(I:az K Z tm O ρ σ H)(hp:∀p∈Z.P,p.1≠i):az K Z tm (O.set i none) (ρ.set i none) σ H:=by
 have fw:∀{t:T}{v:V},At K H (av Z O) t v->At K H (av Z (O.set i none)) t v:=λq=>q.bq (bU i);show#[by simp[I.lσ],by simp[I.lO],λj e h=>?_,eD _ _ I.nd,λa h=>I.own a (bT i a h),λp q=>?_,I.ox,I.keep,λp q=>fw (I.ku p q)];rcases get_set h with⟨rfl,rfl,hl⟩|⟨ne,h⟩
 obtain⟨s,hs⟩:∃s,σ[j]?\s:=#[σ[j]'(by rw[I.lσ];calc hl),by simp];calc#[none,s,by rw[EU (by rw[I.lO];calc hl)],hs,9];let(o,s,h1,h2,h3):=I.sl j e h;calc#[o,s,by rw[wm (Ne.symm ne)];calc h1,h2,h3.map (λ_ _ q=>fw q) λ_ _ _ q=>q.bq (bU i)];rw[wm (Ne.symm (hp p q))];calc I.par p q
theorem mW:∀(O:HD)(i:Nat)(a:Addr),a∉roots O->(roots O).Nodup->(roots (O.set i (some a))).Nodup
 |[],i,a,_,h=>by simpa using h
 |o::O,0,a,n,h=>by
  cases o with
  |none=>simp only[roots,List.set_cons_zero,rp,id] at n h ⊢;calc ou.mpr #[n,h]
  |some b=>calc ou.mpr #[λz=>n (fZ _ z),(ou.mp h).2]
 |o::O,i+1,a,n,h=>by
  have key:=mW O i a;cases o with
  |none=>simp only[roots,TL,rp,id] at n h ⊢;calc key n h
  |some b=>
   simp only[roots,TL,rp,id] at n h ⊢;rw[ou] at h ⊢;show#[λz=>?_,key (λz=>n (fZ _ z)) h.2];have z':=aC.mp z;rcases Uq z' with q|q
   calc h.1 (aC.mpr q);calc n (by rw[Option.some.inj q];calc d_)
def wY(i:Nat):∀b∈av Z (O.set i (some a)),b∈av (Z.ex a) O:=λb h=>by
 rcases fu.mp h with h|h
 rcases Uq (aC.mp h) with z|z
 calc fW _ (aC.mpr z);calc gE _ (by rw[Option.some.inj z];calc d_);calc gE _ (fZ _ h)
def az.QZ(I:az K (Z.ex a) tm O ρ σ H){t:T}(hp:∀p∈Z.P,p.1≠i)(hv:c0 K H (av (Z.ex a) O) a t)(h0:Z.H0 a=none)(hx:a∉Z.Ox):az K Z tm (O.set i (some a)) (ρ.set i (some (t,true))) (σ.set i (some (.ref a))) H:=by
 have sub:=wY (Z:=Z) (O:=O) (a:=a) i;have fw:∀{t:T}{v:V},At K H (av (Z.ex a) O) t v->At K H (av Z (O.set i (some a))) t v:=λq=>q.bq sub;have na:=λz=>(I.own a z).2.1 d_;show#[by simp[I.lσ],by simp[I.lO],λj e h=>?_,mW _ _ _ na I.nd,λb h=>?_,λp q=>?_,λb h=>I.ox b (fZ _ h),I.keep,λp q=>fw (I.ku p q)];rcases get_set h with⟨rfl,rfl,hl⟩|⟨ne,h⟩
 calc#[some a,some (.ref a),by rw[EU (by rw[I.lO];calc hl)],by rw[EU (by rw[I.lσ];calc hl)],a,9,9,hv.bq sub];let(o,s,h1,h2,h3):=I.sl j e h;calc#[o,s,by rw[wm (Ne.symm ne)];calc h1,by rw[wm (Ne.symm ne)];calc h2,h3.map (λ_ _ q=>fw q) λ_ _ _ q=>q.bq sub];rcases Uq (aC.mp h) with z|z
 let(h1,h2,h3):=I.own b (aC.mpr z);calc#[h1,λq=>h2 (fZ _ q),h3];cases z;calc#[.inr h0,hx,hv.mut];rw[wm (Ne.symm (hp p q))];calc I.par p q
theorem az.f7(I:az K Z tm O ρ σ H){t:T}(hp:∀p∈Z.P,p.1≠i)(hi:ρ[i]?\some (t,true)):az K Z tm (O.set i none) (ρ.set i (some (t,false))) σ H:=by
 have fw:∀{t:T}{v:V},At K H (av Z O) t v->At K H (av Z (O.set i none)) t v:=λq=>q.bq (bU i);let(o,s,h1,h2,a,rfl,rfl,hr):=I.sl i _ hi;have ha:=aC.mpr (dX h1);have na:a∉roots (O.set i none):=λz=>by
  let(j,hj):=Kj.mp (aC.mp z);rcases get_set hj with⟨_,q,_⟩|⟨ne,q⟩
  cases q
  -- two places of one root
  have key:∀O (i j:Nat),i<j->O[i]?\some a->O[j]?\some a->(roots O).Nodup->False:=by
   intro O;induction O with
   |nil=>intro i j _ h;simp at h
   |cons o O ih=>
    intro i j T6 e1 e2 nd;cases j with
    |zero=>lia
    |succ j=>
     have Dt:O[j]?\some a:=by simpa using e2
     cases i with
     |zero=>
      have:o\a:=by simpa using e1
      subst this;calc (ou.mp nd).1 (aC.mpr (dX Dt))
     |succ i=>
      show ih i j () (by simpa using e1) Dt ?_;cases o with
      |none=>simpa[roots] using nd
      |some b=>simp only[roots,rp,id] at nd;exact (ou.mp nd).2
  rcases Nat.lt_or_gt_of_ne ne with l|l
  calc key O j i l q h1 I.nd;exact key O i j l h1 q I.nd
 have nav:a∉av Z (O.set i none):=λz=>by
  rcases fu.mp z with z|z
  calc na z;exact (I.own a ha).2.1 z
 show#[by simp[I.lσ],by simp[I.lO],λj e h=>?_,eD _ _ I.nd,λa h=>I.own a (bT i a h),λp q=>?_,I.ox,I.keep,λp q=>fw (I.ku p q)];rcases get_set h with⟨rfl,rfl,hl⟩|⟨ne,h⟩
 calc#[none,some (.ref a),by rw[EU (by rw[I.lO];calc hl)],h2,9,.ref a,9,(hr.bq (bU j)).at nav];let(o,s,h1,h2,h3):=I.sl j e h;calc#[o,s,by rw[wm (Ne.symm ne)];calc h1,h2,h3.map (λ_ _ q=>fw q) λ_ _ _ q=>q.bq (bU i)];rw[wm (Ne.symm (hp p q))];calc I.par p q
theorem az.wrote(I:az K Z tm O ρ σ H){t t':T}{u:HO}(hi:ρ[i]?\some (t,true))(hO:O[i]?\some a)(hr:c0 K (upd H a u) (av Z O) a t'):az K Z tm O (ρ.set i (some (t',true))) σ (upd H a u):=by
 have ha:=aC.mpr (dX hO);have EZ:a∈av Z O:=fW _ ha;let(hP,hx,u0,e0,m0):=I.own a ha;have inj:∀j b,j≠i->O[j]?\some b->b≠a:=by
  intro j b ne hj e;subst e;have key:∀O (i j:Nat),i<j->O[i]?\some b->O[j]?\some b->(roots O).Nodup->False:=by
   intro O;induction O with
   |nil=>intro i j _ h;simp at h
   |cons o O ih=>
    intro i j T6 e1 e2 nd;cases j with
    |zero=>lia
    |succ j=>
     have Dt:O[j]?\some b:=by simpa using e2
     cases i with
     |zero=>
      have:o\b:=by simpa using e1
      subst this;calc (ou.mp nd).1 (aC.mpr (dX Dt))
     |succ i=>
      show ih i j () (by simpa using e1) Dt ?_;cases o with
      |none=>simpa[roots] using nd
      |some c=>simp only[roots,rp,id] at nd;exact (ou.mp nd).2
  rcases Nat.lt_or_gt_of_ne ne with l|l
  calc key O j i l hj hO I.nd;exact key O i j l hO hj I.nd
 show#[by simp[I.lσ],by simp[I.lO],λj e h=>?_,I.nd,λb h=>?_,I.par,λb h=>?_,λb o e n=>?_,λp q=>(I.ku p q).wrote EZ e0 m0];rcases get_set h with⟨rfl,rfl,hl⟩|⟨ne,h⟩
 let(o,s,h1,h2,a',h4,h5,h6):=I.sl j _ hi;rw[hO] at h1;cases h1;cases h4;calc#[_,s,hO,h2,a,9,h5,hr];let(o,s,h1,h2,h3):=I.sl j e h;show#[o,s,h1,h2,h3.map (λ_ _ q=>q.wrote EZ e0 m0) λb t e q=>?_];subst e;calc q.map (au (inj j b ne h1)) λ_ _ z=>z.wrote EZ e0 m0;let(h1,h2,v,e,m):=I.own b h;by_cases hb:b=a;subst hb;calc#[h1,h2,hr.mut];calc#[h1,h2,v,by rw[au hb];calc e,m];by_cases hb:b=a;subst hb;calc absurd h hx;rw[au hb];calc I.ox b h;by_cases hb:b=a;subst hb;obtain q|q:=hP
 calc absurd q n;rw[q] at e;cases e;rw[au hb];calc I.keep b o e n
def az.fresh(I:az K Z tm O ρ σ H)(h:H a=none):a∉av Z O/\a∉Z.Ox/\Z.H0 a=none:=by
 show#[λz=>I.OD a z h,λz=>I.ox a z h,?_];cases e:Z.H0 a with
 |none=>rfl
 |some o=>by_cases hp:a∈Z.P.map (·.2);let(p,VZ,rfl):=gH.mp hp;let(_,_,u,e',_):=I.own p.2 (aC.mpr (dX (I.par p VZ)));rw[h] at e';cases e';rw[I.keep a o e hp] at h;cases h
def cU:∀b∈av (Z.ex a) O,b∈av Z O\/b=a:=λb h=>by
 rcases fu.mp h with h|h
 calc .inl (fW _ h);rcases cT.mp h with h|h
 calc .inr h;calc .inl (gE _ h)
def gM:∀b∈av Z O,b∈av (Z.ex a) O:=λb h=>by
 rcases fu.mp h with h|h
 calc fW _ h;calc gE _ (fZ _ h)
def az.new(I:az K Z tm O ρ σ H){u:HO}(h:H a=none)(hu:nG u=true):az K (Z.ex a) tm O ρ σ (upd H a u):=by
 have s:aO H (upd H a u):=aG h;have J:=I.same s;let(n1,n2,n3):=I.fresh h;have mr:∀b∈av (Z.ex a) O,b∈av Z O\/H b=none:=λb hb=>(cU b hb).imp id λe=>by rw[e];exact h
 have fw:∀{t:T}{v:V},At K H (av Z O) t v->At K (upd H a u) (av (Z.ex a) O) t v:=λq=>(q.more mr).same s;show#[J.lσ,J.lO,λi e hi=>?_,J.nd,λb hb=>?_,J.par,λb hb=>?_,J.keep,λp hp=>fw (I.ku p hp)];let(o,w,h1,h2,h3):=I.sl i e hi;show#[o,w,h1,h2,h3.map (λ_ _ q=>fw q) λb t eo q=>?_];show c0.same (q.map 9 λ_ _ z=>z.more mr) s;let(q1,q2,q3):=J.own b hb;show#[q1,λz=>?_,q3];rcases cT.mp z with z|z
 calc n1 (by rw[<- z];calc fW _ hb);calc q2 z;rcases cT.mp hb with z|z
 rw[z,aA];simp;calc J.ox b z
def az.adj(I:az K (Z.ex a) tm O ρ σ H):az K Z tm O ρ σ H :=
 #[I.lσ,I.lO,λi e h=>let #[o,w,h1,h2,h3]:=I.sl i e h;#[o,w,h1,h2,h3.map (λ_ _ q=>q.bq gM) λ_ _ _ q=>q.bq gM],I.nd,
  λb h=>let #[q1,q2,q3]:=I.own b h;#[q1,λz=>q2 (fZ _ z),q3],I.par,λb h=>I.ox b (fZ _ h),I.keep,λp hp=>(I.ku p hp).bq gM]
end
inductive Rt where
 |vw (t:T)
 |fr (t:T)
def Rt.t:Rt->T
 |.vw t=>t
 |.fr t=>t
def gN(K:qaf)(H:Hp)(A:zm)(t:T)(v:V):Prop:=At K H A t v\/∃a,v=.ref a/\c0 K H A a t
def iI(K:qaf)(Z:Zc)(tm:List (T×V))(O:HD)(ρ:En)(σ:St)(H:Hp):Rt->V->Prop
 |.vw t,v=>az K Z tm O ρ σ H/\At K H (av Z O) t v
 |.fr t,v=>∃a,v=.ref a/\az K (Z.ex a) tm O ρ σ H/\c0 K H (av (Z.ex a) O) a t/\Z.H0 a=none/\a∉Z.Ox
abbrev FE:=En->(T->Prop)->Prop
abbrev FP:=En->(Rt->Prop)->Prop
abbrev FX:=En->(En->Rt->Prop)->Prop
abbrev FB:=En->(Bool->Prop)->Prop
abbrev FA:=En->(List T->Prop)->Prop
section
variable{Z:Zc}{tm:List (T×V)}{ρ:En}{A:zm}
def gN.same{t:T}(s:aO H H')(h:gN K H A t v):gN K H' A t v:=h.imp (λq=>q.same s) λ#[a,e,q]=>#[a,e,q.same s]
def gN.lst{ts:List T}(h:gN K H A (.lst ts) v):∃a vs,v=.ref a/\f_ K H a vs/\aB K H A ts vs:=by
 obtain h|⟨a,rfl,vs,e,q⟩:=h
 simp only[At] at h;let(a,vs,rfl,l,q):=h;calc#[a,vs,9,l.sq,q];calc#[a,vs,9,f_.of e,q]
def gN.tup{ts:List T}(h:gN K H A (.tup ts) v):∃a vs,v=.ref a/\dO K H a vs/\aB K H A ts vs:=by
 obtain h|⟨a,rfl,q⟩:=h
 simpa only[At] using h;calc q.elim
def gN.dk{ks:List Key}{ts:List T}(h:gN K H A (.dk ks ts) v):∃a vs,v=.ref a/\ks.length=vs.length/\H a\.dK (ks.zip vs)/\aB K H A ts vs:=by
 obtain h|⟨a,rfl,vs,l,e,q⟩:=h
 simp only[At] at h;let(a,vs,rfl,l,d,q):=h;calc#[a,vs,9,l,d.1,q];calc#[a,vs,9,l,e,q]
def gN.dt{ts:List T}(h:gN K H A (.dt ks ts) v):∃a vs,v=.ref a/\ks.length=vs.length/\H a\.dT (ks.zip vs)/\aB K H A ts vs:=by
 obtain h|⟨a,rfl,vs,l,e,q⟩:=h
 simp only[At] at h;let(a,vs,rfl,l,d,q):=h;calc#[a,vs,9,l,d.1,q];calc#[a,vs,9,l,e,q]
def gN.df{ts:List T}(h:gN K H A (.df o ks ts) v):∃a vs,v=.ref a/\ks.length=vs.length/\H a\.f7 o (.dT (ks.zip vs))/\aB K H A ts vs:=by
 obtain h|⟨a,rfl,q⟩:=h
 simp only[At] at h;let(a,vs,rfl,l,d,q):=h;calc#[a,vs,9,l,d.1,q];calc q.elim
def gN.kt{k:List Key}(h:gN K H A (.kt k) v):∃a,v=.ref a/\H a\.tup (k.map kV):=by
 obtain h|⟨a,rfl,q⟩:=h
 simp only[At] at h;let(a,rfl,d):=h;calc#[a,9,d.1];calc q.elim
def gN.ins{ns:ω}{ts:List T}(h:gN K H A (.ins C ns ts) v):∃a dx vs,v=.ref a/\ns.length=vs.length/\H a\.ins C dx (ns.zip vs)/\aB K H A ts vs:=by
 obtain h|⟨a,rfl,dx,vs,l,e,q⟩:=h
 simp only[At] at h;let(a,dx,vs,rfl,l,d,q):=h;calc#[a,dx,vs,9,l,d.1,q];calc#[a,dx,vs,9,l,e,q]
def gN.int{i:Int}(h:gN K H A (.int i) v):v=.int i:=h.elim (λq=>by simpa only[At] using q) λ#[_,_,q]=>q.elim
def gN.str{i:Str}(h:gN K H A (.str i) v):v=.str i:=h.elim (λq=>by simpa only[At] using q) λ#[_,_,q]=>q.elim
def gN.bl{i:Bool}(h:gN K H A (.bl i) v):v=.bl i:=h.elim (λq=>by simpa only[At] using q) λ#[_,_,q]=>q.elim
def gN.bO(h:gN K H A .bO v):v=.bO:=h.elim (λq=>by simpa only[At] using q) λ#[_,_,q]=>q.elim
def gN.ob(h:gN K H A (.ob a) v):v=.ref a:=h.elim (λq=>by simpa only[At] using q) λ#[_,_,q]=>q.elim
def bJ{i:Int}:At K H A (.int i) (.int i):=by simp only[At]
def eR{i:Str}:At K H A (.str i) (.str i):=by simp only[At]
def dR{i:Bool}:At K H A (.bl i) (.bl i):=by simp only[At]
def tO:At K H A .bO .bO:=by simp only[At]
def dm{ts:List T}(h:dO K H a vs)(q:aB K H A ts vs):At K H A (.tup ts) (.ref a):=by simp only[At];calc#[a,vs,9,h,q]
def iI.env{r:Rt}(h:iI K Z tm O ρ σ H r v):az K Z tm O ρ σ H:=by
 cases r with
 |vw t=>calc h.1
 |fr t=>let(a,_,I,_):=h;calc I.adj
def iI.at{r:Rt}(h:iI K Z tm O ρ σ H r v):At K H (av Z O) r.t v:=by
 cases r with
 |vw t=>calc h.2
 |fr t=>
  let(a,rfl,I,q,_,hx):=h;show (q.bq gM).at λz=>?_;rcases fu.mp z with z|z
  calc (I.own a z).2.1 d_;calc hx z
def az.wZ(I:az K Z tm O ρ σ H){ts:List T}(h:H a=none)(q:aB K H (av Z O) ts vs):iI K Z tm O ρ σ (upd H a (.lst vs)) (.fr (.lst ts)) (.ref a):=by let(n1,n2,n3):=I.fresh h;calc#[a,9,I.new h 9,#[vs,aA,(q.more λb hb=>(cU b hb).imp id λe=>by rw[e];calc h).same (aG h)],n3,n2]
def az.newD(I:az K Z tm O ρ σ H){ks:List Key}{ts:List T}(h:H a=none)(hl:ks.length=vs.length)(q:aB K H (av Z O) ts vs):iI K Z tm O ρ σ (upd H a (.dK (ks.zip vs))) (.fr (.dk ks ts)) (.ref a):=by let(n1,n2,n3):=I.fresh h;calc#[a,9,I.new h 9,#[vs,hl,aA,(q.more λb hb=>(cU b hb).imp id λe=>by rw[e];calc h).same (aG h)],n3,n2]
end
structure Bx(p:List (T×V)->Prop):Prop where
 h:∀tm,p tm
section
variable(X:Cx)(Z:Zc)
def lR(tm:List (T×V))(f:FE):TE:=λσ H Q=>E3 λρ O q=>az X.K Z tm O ρ σ H/\f ρ q/\∀t,q t->∀v H',aO H H'->gN X.K H' (av Z O) t v->Q v H'
def lE(tm:List (T×V))(f:FE):TE:=λσ H Q=>E3 λρ O q=>az X.K Z tm O ρ σ H/\f ρ q/\∀t,q t->∀v H',aO H H'->At X.K H' (av Z O) t v->Q v H'
def lP(tm:List (T×V))(f:FP):TE:=λσ H Q=>E3 λρ O q=>az X.K Z tm O ρ σ H/\f ρ q/\∀r,q r->∀v H',aO H H'->iI X.K Z tm O ρ σ H' r v->Q v H'
def lX(tm:List (T×V))(f:FX):TE:=λσ H Q=>E3 λρ O q=>az X.K Z tm O ρ σ H/\f ρ q/\∀ρ' r,q ρ' r->∀O' v H',iI X.K Z tm O' ρ' σ H' r v->Q v H'
def lB(tm:List (T×V))(f:FB):TT:=λσ H Q=>E3 λρ O q=>az X.K Z tm O ρ σ H/\f ρ q/\∀b,q b->∀H',aO H H'->Q b H'
def lA(tm:List (T×V))(f:FA):TA:=λσ H Q=>E3 λρ O q=>az X.K Z tm O ρ σ H/\f ρ q/\∀ts,q ts->∀vs H',aO H H'->aB X.K H' (av Z O) ts vs->Q vs H'
def lAR(tm:List (T×V))(f:FA):TA:=λσ H Q=>E3 λρ O q=>az X.K Z tm O ρ σ H/\f ρ q/\∀ts,q ts->∀vs H',aO H H'->Paired (λv t=>gN X.K H' (av Z O) t v) vs ts->Q vs H'
def VR(e:Expr)(f:FE):Prop:=Bx λtm=>PE X e (lR X Z tm f)
instance{e:Expr}{f:FE}:CoeFun (VR X Z e f) λ_=>∀tm,PE X e (lR X Z tm f):=#[λh=>Bx.h h]
def VE(e:Expr)(f:FE):Prop:=Bx λtm=>PE X e (lE X Z tm f)
instance{e:Expr}{f:FE}:CoeFun (VE X Z e f) λ_=>∀tm,PE X e (lE X Z tm f):=#[λh=>Bx.h h]
def VP(e:Expr)(f:FP):Prop:=Bx λtm=>PE X e (lP X Z tm f)
instance{e:Expr}{f:FP}:CoeFun (VP X Z e f) λ_=>∀tm,PE X e (lP X Z tm f):=#[λh=>Bx.h h]
def VX(e:Expr)(f:FX):Prop:=Bx λtm=>PE X e (lX X Z tm f)
instance{e:Expr}{f:FX}:CoeFun (VX X Z e f) λ_=>∀tm,PE X e (lX X Z tm f):=#[λh=>Bx.h h]
def VC(e:Expr)(f:FB):Prop:=Bx λtm=>PT X e (lB X Z tm f)
instance{e:Expr}{f:FB}:CoeFun (VC X Z e f) λ_=>∀tm,PT X e (lB X Z tm f):=#[λh=>Bx.h h]
def VW(e:Expr)(f:FB):Prop:=Bx λtm=>PW X e (lB X Z tm f)
instance{e:Expr}{f:FB}:CoeFun (VW X Z e f) λ_=>∀tm,PW X e (lB X Z tm f):=#[λh=>Bx.h h]
def VA(es:qap)(f:FA):Prop:=Bx λtm=>PA X es (lA X Z tm f)
instance{es:qap}{f:FA}:CoeFun (VA X Z es f) λ_=>∀tm,PA X es (lA X Z tm f):=#[λh=>Bx.h h]
def T7(es:qap)(f:FA):Prop:=Bx λtm=>PA X es (lAR X Z tm f)
instance{es:qap}{f:FA}:CoeFun (T7 X Z es f) λ_=>∀tm,PA X es (lAR X Z tm f):=#[λh=>Bx.h h]
end
def PE.weak{t t':TE}(h:PE X e t)(hw:∀σ H Q,t' σ H Q->t σ H Q):PE X e t':=λε s σ H Q I q=>h ε s σ H Q I (hw _ _ _ q)
def PT.weak{t t':TT}(h:PT X e t)(hw:∀σ H Q,t' σ H Q->t σ H Q):PT X e t':=λε s σ H Q I q=>h ε s σ H Q I (hw _ _ _ q)
def PW.weak{t t':TT}(h:PW X e t)(hw:∀σ H Q,t' σ H Q->t σ H Q):PW X e t':=λwh ε s σ H Q I q=>h wh ε s σ H Q I (hw _ _ _ q)
def PA.weak{e:qap}{t t':TA}(h:PA X e t)(hw:∀σ H Q,t' σ H Q->t σ H Q):PA X e t':=λpos ε s σ H Q I q=>h pos ε s σ H Q I (hw _ _ _ q)
def PS.weak{b:Stmt}{t t':TS}(h:PS X b t)(hw:∀D σ H,t' D σ H->t D σ H):PS X b t':=λε s σ H D I q=>h ε s σ H D I (hw D σ H q)
def jT.kN{b:qaq}{t t':TS}(h:jT X b t)(hw:∀D σ H,t' D σ H->t D σ H):jT X b t':=λε s σ H D I q=>h ε s σ H D I (hw D σ H q)
section
variable{Z:Zc}{a:Expr}{pos:Pos}
def VE.vr{f:FE}(h:VE X Z e f):VR X Z e f:=.mk λtm=>PE.weak (h tm) λσ H Q #[ρ,O,q,I,hf,k]=>#[ρ,O,q,I,hf,λt ht v H' s z=>k t ht v H' s (.inl z)]
def fT(f:FP):FE:=λρ Q=>f ρ λr=>Q r.t
def fV(f:FE):FP:=λρ Q=>f ρ λt=>Q (.vw t)
def fX(f:FP):FX:=λρ Q=>f ρ λr=>Q ρ r
def VP.ve{f:FP}(h:VP X Z e f):VE X Z e (fT f):=.mk λtm=>PE.weak (h tm) λσ H Q #[ρ,O,q,I,hf,k]=>#[ρ,O,λr=>q r.t,I,hf,λr hr v H' s z=>k r.t hr v H' s z.at]
def VP.vr{f:FP}(h:VP X Z e f):VR X Z e (fT f):=h.ve.vr
def VP.vx{f:FP}(h:VP X Z e f):VX X Z e (fX f):=.mk λtm=>PE.weak (h tm) λσ H Q #[ρ,O,q,I,hf,k]=>#[ρ,O,λr=>q ρ r,I,hf,λr hr v H' s z=>k ρ r hr O v H' z]
def VE.vp{f:FE}(h:VE X Z e f):VP X Z e (fV f):=.mk λtm=>PE.weak (h tm) λσ H Q #[ρ,O,q,I,hf,k]=>#[ρ,O,λt=>q (.vw t),I,hf,λt hr v H' s z=>k (.vw t) hr v H' s #[I.same s,z]]
def dP(i:Nat):FE:=λρ Q=>match ρ[i]? with
 |some (some (t,false))=>Q t
 |_=>False
def dS(i:Nat):FE:=λρ Q=>match ρ[i]? with
 |some (some (t,_))=>Q t
 |_=>False
def ai(i:Nat)(hN:X.N[i]?\x:=by rfl)(hv:lN 29 x:=by calc jvv 9)(hd:fY x:=by decide)(f9:qy x:=by decide):VE X Z (.Name x pos) (dP i):=.mk λtm=>PE.weak (cc hN hv hd f9) λσ H Q #[ρ,O,q,I,hf,k]=>by
 unfold dP at hf;split at hf
 rename_i t e
 let(o,s,h1,h2,rfl,v,rfl,h3):=I.sl i _ e;calc#[v,h2,k t hf v H 41 h3];calc hf.elim
def ae(i:Nat)(hN:X.N[i]?\x:=by rfl)(hv:lN 29 x:=by calc jvv 9)(hd:fY x:=by decide)(f9:qy x:=by decide):VR X Z (.Name x pos) (dS i):=.mk λtm=>PE.weak (cc hN hv hd f9) λσ H Q #[ρ,O,q,I,hf,k]=>by
 unfold dS at hf;split at hf
 rename_i t b e
 let(o,s,h1,h2,h3):=I.sl i _ e;cases b with
 |false=>let(rfl,v,rfl,h3):=h3;calc#[v,h2,k t hf v H 41 (.inl h3)]
 |true=>let(a,rfl,rfl,h3):=h3;exact#[_,h2,k t hf _ H 41 (.inr #[a,9,h3])]
 calc hf.elim
def fC(t:T):FP:=λ_ Q=>Q (.vw t)
def Ge{t:T}(h:PE X e (tC v))(ht:∀H A,At X.K H A t v):VP X Z e (fC t):=.mk λtm=>PE.weak h λσ H Q #[ρ,O,q,I,hf,k]=>k _ hf v H 41 #[I,ht _ _]
def af{i j pos}:VP X Z (.Constant (.int i) j pos) (fC (.int i)):=Ge Qj λ_ _=>bJ
def iE{i j pos}:VP X Z (.Constant (.bool i) j pos) (fC (.bl i)):=Ge UR λ_ _=>dR
def ax{i j pos}:VP X Z (.Constant (.str i) j pos) (fC (.str i)):=Ge Ql λ_ _=>eR
def iZ{j pos}:VP X Z (.Constant .none j pos) (fC .bO):=Ge Qk λ_ _=>tO
def nR{t:T}(hg:Gl X x)(hm:X.mg x\u)(r:RelV v u)(ht:∀H A,At X.K H A t v)(hd:fY x:=by decide):VP X Z (.Name x pos) (fC t):=Ge (KY hg hm r hd) ht
def nS(K:qaf)(r:R2)(p:T->T->(Rt->Prop)->Prop):Prop :=
 ∀(Z:Zc)(tm:List (T×V))(O:HD)(ρ:En)(σ:St)(H:Hp)(x y:T)(v w:V)(q:Rt->Prop)(Q:VK),az K Z tm O ρ σ H->gN K H (av Z O) x v->gN K H (av Z O) y w->p x y q ->
  (∀t,q t->∀u H',aO H H'->iI K Z tm O ρ σ H' t u->Q u H')->r v w H Q
def f2(fa fb:FE)(p:T->T->(Rt->Prop)->Prop):FP:=λρ Q=>fa ρ λx=>fb ρ λy=>p x y Q
def two{r:R2}{fa fb:FE}{p:T->T->(Rt->Prop)->Prop}(ho:nS X.K r p){tm:List (T×V)}:∀σ H Q,lP X Z tm (f2 fa fb p) σ H Q->U3 r (lR X Z tm fa) (lR X Z tm fb) σ H Q:=λσ H Q #[ρ,O,q,I,hf,k] =>
 #[ρ,O,λx=>fb ρ λy=>p x y q,I,hf,λx hx v H1 s1 a1=>#[ρ,O,λy=>p x y q,I.same s1,hx,λy hy w H2 s2 a2=>
  ho Z tm O ρ σ H2 x y v w q Q ((I.same s1).same s2) (a1.same s2) a2 hy λt ht u H' s a=>k t ht u H' ((s1.trans s2).trans s) a]]
def gv{op:Operator}{r:R2}{fa fb:FE}{p:T->T->(Rt->Prop)->Prop}(h:fm X (binaryOp op) r)(ho:nS X.K r p)(ha:VR X Z a fa)(hb:VR X Z b fb):VP X Z (.BinOp a op b pos) (f2 fa fb p) :=
 .mk λtm=>PE.weak (Oy h (ha tm) (hb tm)) (two ho)
def zD{op:CmpOp}{r:R2}{fa fb:FE}{p:T->T->(Rt->Prop)->Prop}(h:fm X (compareOp op) r)(ho:nS X.K r p)(ha:VR X Z a fa)(hb:VR X Z b fb)(hm:behindInMarks op b=false):VP X Z (.Compare a [op] [b] pos) (f2 fa fb p) :=
 .mk λtm=>PE.weak (Lb h (ha tm) (hb tm) hm) (two ho)
def l6(f:FP):FB:=λρ Q=>f ρ λr=>match r with
 |.vw (.bl c)=>Q c
 |_=>False
def zE{r:Rt}{Q:Bool->Prop}(h:match r with | .vw (.bl c)=>Q c|_=>False):∃c,r=.vw (.bl c)/\Q c:=by split at h;calc#[_,9,h];calc h.elim
def ke{op:CmpOp}{r:R2}{fa fb:FE}{p:T->T->(Rt->Prop)->Prop}(h:fm X (compareOp op) r)(ho:nS X.K r p)(ha:VR X Z a fa)(hb:VR X Z b fb)(hm:behindInMarks op b=false):VC X Z (.Compare a [op] [b] pos) (l6 (f2 fa fb p)) :=
 .mk λtm=>PT.weak (Lc h (ha tm) (hb tm) hm) λσ H Q #[ρ,O,q,I,hf,k]=>two ho σ H _ #[ρ,O,_,I,hf,λt ht u H' s a=>by let(c,rfl,hc):=zE ht;have e:=a.2;calc#[c,e,k c hc H' s]]
def dY{f:FP}(h:VP X Z e f)(he:∀whole,isTrue e 3 whole=(do let v <- whole;standAt e.pos;holding [v] (truthy v)):=by intro _;rfl):VC X Z e (l6 f) :=
 .mk λtm=>PT.weak (Fw (h tm) he) λσ H Q #[ρ,O,q,I,hf,k]=>#[ρ,O,_,I,hf,λt ht u H' s a=>by let(c,rfl,hc):=zE ht;have e:=a.2;calc#[c,e,k c hc H' s]]
def adk(f g:FB):FB:=λρ Q=>f ρ λc=>if c=true then g ρ Q else Q false
def fOr(f g:FB):FB:=λρ Q=>f ρ λc=>if c=true then Q true else g ρ Q
def adl(f:FB):FB:=λρ Q=>f ρ λc=>Q (!c)
def VW.vc{f:FB}(h:VW X Z e f):VC X Z e f:=.mk λtm=>PW.pt (h tm)
def cz{f:FB}(h:VC X Z a f):VW X Z (.BoolOp .And [a] pos) f:=.mk λtm=>pw_and1 (h tm)
def zF{f:FB}(h:VC X Z a f):VW X Z (.BoolOp .Or [a] pos) f:=.mk λtm=>pw_or1 (h tm)
def c6{rest:qap}{f g:FB}(h:VC X Z a f)(h':VW X Z (.BoolOp .And (b::rest) pos) g):VW X Z (.BoolOp .And (a::b::rest) pos) (adk f g) :=
 .mk λtm=>PW.weak (pw_and (h tm) (h' tm)) λσ H Q #[ρ,O,q,I,hf,k]=>#[ρ,O,_,I,hf,λc hc H1 s1=>by
  cases c with
  |true=>rw[ι 9] at hc ⊢;calc#[ρ,O,q,I.same s1,hc,λb hb H' s=>k b hb H' (s1.trans s)]
  |false=>rw[θ jq] at hc ⊢;calc k false hc H1 s1]
def Gf{rest:qap}{f g:FB}(h:VC X Z a f)(h':VW X Z (.BoolOp .Or (b::rest) pos) g):VW X Z (.BoolOp .Or (a::b::rest) pos) (fOr f g) :=
 .mk λtm=>PW.weak (pw_or (h tm) (h' tm)) λσ H Q #[ρ,O,q,I,hf,k]=>#[ρ,O,_,I,hf,λc hc H1 s1=>by
  cases c with
  |true=>rw[ι 9] at hc ⊢;calc k true hc H1 s1
  |false=>rw[θ jq] at hc ⊢;calc#[ρ,O,q,I.same s1,hc,λb hb H' s=>k b hb H' (s1.trans s)]]
def zG{f:FB}(h:VC X Z a f):VC X Z (.UnaryOp .Not a pos) (adl f) :=
 .mk λtm=>PT.weak (Qm (h tm)) λσ H Q #[ρ,O,q,I,hf,k]=>#[ρ,O,_,I,hf,λc hc H1 s1=>k _ hc H1 s1]
def V0(f g:FP):FP:=λρ Q=>f ρ λr=>match r with
 |.vw (.bl true)=>g ρ Q
 |.vw (.bl false)=>Q (.vw (.bl false))
 |_=>False
def Q0(f g:FP):FP:=λρ Q=>f ρ λr=>match r with
 |.vw (.bl true)=>Q (.vw (.bl true))
 |.vw (.bl false)=>g ρ Q
 |_=>False
def V1(f:FP):FP:=λρ Q=>f ρ λr=>match r with
 |.vw (.bl c)=>Q (.vw (.bl (!c)))
 |_=>False
def Gh{op}{f:FP}(h:VP X Z a f):VP X Z (.BoolOp op [a] pos) f:=.mk λtm=>Qn (h tm)
def Gi{rest:qap}{f g:FP}(h:VP X Z a f)(h':VP X Z (.BoolOp .And (b::rest) pos) g):VP X Z (.BoolOp .And (a::b::rest) pos) (V0 f g) :=
 .mk λtm=>PE.weak (Qo (h tm) (h' tm)) λσ H Q #[ρ,O,q,I,hf,k]=>#[ρ,O,_,I,hf,λr hr v H1 s1 z=>by split at hr;have e:=z.2;simp only[At] at e;calc#[true,e,by rw[ι 9];calc#[ρ,O,q,I.same s1,hr,λb hb v H' s=>k b hb v H' (s1.trans s)]];have e:=z.2;simp only[At] at e;calc#[false,e,by rw[θ jq];calc k _ hr _ H1 s1 #[I.same s1,dR]];calc hr.elim]
def V2{rest:qap}{f g:FP}(h:VP X Z a f)(h':VP X Z (.BoolOp .Or (b::rest) pos) g):VP X Z (.BoolOp .Or (a::b::rest) pos) (Q0 f g) :=
 .mk λtm=>PE.weak (UW (h tm) (h' tm)) λσ H Q #[ρ,O,q,I,hf,k]=>#[ρ,O,_,I,hf,λr hr v H1 s1 z=>by split at hr;have e:=z.2;simp only[At] at e;calc#[true,e,by rw[ι 9];calc k _ hr _ H1 s1 #[I.same s1,dR]];have e:=z.2;simp only[At] at e;calc#[false,e,by rw[θ jq];calc#[ρ,O,q,I.same s1,hr,λb hb v H' s=>k b hb v H' (s1.trans s)]];calc hr.elim]
def Q1{f:FP}(h:VP X Z a f):VP X Z (.UnaryOp .Not a pos) (V1 f) :=
 .mk λtm=>PE.weak (Qp (h tm)) λσ H Q #[ρ,O,q,I,hf,k]=>#[ρ,O,_,I,hf,λr hr v H1 s1 z=>by split at hr;have e:=z.2;simp only[At] at e;calc#[_,e,k _ hr _ H1 s1 #[I.same s1,dR]];calc hr.elim]
def fIf(c:FB)(f g:FP):FP:=λρ Q=>c ρ λb=>if b=true then f ρ Q else g ρ Q
def OE{fc:FB}{f g:FP}(hc:VC X Z c fc)(h:VP X Z a f)(h':VP X Z b g):VP X Z (.IfExp c a b pos) (fIf fc f g) :=
 .mk λtm=>PE.weak (Fx (hc tm) (h tm) (h' tm)) λσ H Q #[ρ,O,q,I,hf,k]=>#[ρ,O,_,I,hf,λc hc H1 s1=>by
  cases c with
  |true=>rw[ι 9] at hc ⊢;calc#[ρ,O,q,I.same s1,hc,λb hb v H' s=>k b hb v H' (s1.trans s)]
  |false=>rw[θ jq] at hc ⊢;calc#[ρ,O,q,I.same s1,hc,λb hb v H' s=>k b hb v H' (s1.trans s)]]
def l7:FA:=λ_ Q=>Q []
def cJ(f:FE)(g:FA):FA:=λρ Q=>f ρ λt=>g ρ λts=>Q (t::ts)
def aj:VA X Z [] l7:=.mk λtm=>PA.weak cW λσ H Q #[ρ,O,q,I,hf,k]=>k _ hf [] H 41 aB.nil
def aa{f:FE}{g:FA}(h:VE X Z e f)(h':VA X Z es g)(hs:starEach (e::es) 3=(false,eval e 3)::starEach es 3:=by rfl):VA X Z (e::es) (cJ f g) :=
 .mk λtm=>PA.weak (bw (h tm) (h' tm) hs) λσ H Q #[ρ,O,q,I,hf,k]=>#[ρ,O,_,I,hf,λt ht v H1 s1 a1=>#[ρ,O,_,I.same s1,ht,λts gF vs H2 s2 a2=>k _ gF _ H2 (s1.trans s2) (aB.cons (a1.same s2) a2)]]
def aS:T7 X Z [] l7:=.mk λtm=>PA.weak cW λσ H Q #[ρ,O,q,I,hf,k]=>k _ hf [] H 41 .nil
def aK{f:FE}{g:FA}(h:VR X Z e f)(h':T7 X Z es g)(hs:starEach (e::es) 3=(false,eval e 3)::starEach es 3:=by rfl):T7 X Z (e::es) (cJ f g) :=
 .mk λtm=>PA.weak (bw (h tm) (h' tm) hs) λσ H Q #[ρ,O,q,I,hf,k]=>#[ρ,O,_,I,hf,λt ht v H1 s1 a1=>#[ρ,O,_,I.same s1,ht,λts gF vs H2 s2 a2=>k _ gF _ H2 (s1.trans s2) (.cons (a1.same s2) a2)]]
def V3(g:FA):FP:=λρ Q=>g ρ λts=>19<=sizeLine/\Q (.vw (.tup ts))
def adm(g:FA):FP:=λρ Q=>g ρ λts=>19<=sizeLine/\Q (.fr (.lst ts))
def aT{g:FA}{x1}(h:VA X Z es g):VP X Z (.Tuple es x1 pos) (V3 g) :=
 .mk λtm=>PE.weak (j8 (h tm)) λσ H Q #[ρ,O,q,I,hf,k]=>#[ρ,O,_,I,hf,λts gF vs H1 s1 a1=>#[by rw[a1.length];calc gF.1,λp hp=>k _ gF.2 _ _ (s1.trans (aG hp)) #[(I.same s1).same (aG hp),dm (dO.of aA) (a1.same (aG hp))]]]
def bD{g:FA}(h:VA X Z es g):VP X Z (.List es pos) (adm g) :=
 .mk λtm=>PE.weak (QJ (h tm)) λσ H Q #[ρ,O,q,I,hf,k]=>#[ρ,O,_,I,hf,λts gF vs H1 s1 a1=>#[by rw[a1.length];calc gF.1,λp hp=>k _ gF.2 _ _ (s1.trans (aG hp)) ((I.same s1).wZ hp a1)]]
end
mutual
def eqT:T->T->Bool
 |.bO,.bO=>true
 |.bl a,.bl b=>a==b
 |.bl a,.int b=>(if a then 1 else 0)==b
 |.int a,.bl b=>a==(if b then 1 else 0)
 |.int a,.int b=>a==b
 |.str a,.str b=>a==b
 |.tup a,.tup b=>gw a b
 |.lst a,.lst b=>gw a b
 |_,_=>false
def gw:List T->List T->Bool
 |[],[]=>true
 |a::as,b::bs=>eqT a b && gw as bs
 |_,_=>false
end
mutual
def plainT:T->Bool
 |.tup l=>cL l
 |.lst l=>cL l
 |.dk _ _=>false
 |.dt _ _=>false
 |.df _ _ _=>false
 |.kt _=>false
 |.ins _ _ _=>false
 |.pin _ _=>false
 |.ob _=>false
 |.ty _=>false
 |_=>true
def cL:List T->Bool
 |[]=>true
 |t::ts=>plainT t && cL ts
end
mutual
def dep:T->Nat
 |.tup l=>oP l+1
 |.lst l=>oP l+1
 |_=>0
def oP:List T->Nat
 |[]=>0
 |t::ts=>max (dep t) (oP ts)
end
mutual
theorem w6:∀(t:T),plainT t=true->eqT t t=true
 |.bO,_=>by simp[eqT]
 |.bl _,_=>by simp[eqT]
 |.int _,_=>by simp[eqT]
 |.str _,_=>by simp[eqT]
 |.tup l,h=>by simp only[plainT] at h;simp only[eqT];calc l8 l h
 |.lst l,h=>by simp only[plainT] at h;simp only[eqT];calc l8 l h
 |.dk _ _,h=>by simp only[plainT] at h;cases h
 |.dt _ _,h=>by simp only[plainT] at h;cases h
 |.df _ _ _,h=>by simp only[plainT] at h;cases h
 |.kt _,h=>by simp only[plainT] at h;cases h
 |.ins _ _ _,h=>by simp only[plainT] at h;cases h
 |.pin _ _,h=>by simp only[plainT] at h;cases h
 |.ob _,h=>by simp only[plainT] at h;cases h
 |.ty _,h=>by simp only[plainT] at h;cases h
theorem l8:∀(t:List T),cL t=true->gw t t=true
 |[],_=>by simp[gw]
 |t::ts,h=>by simp only[cL,iO] at h;simp only[gw,iO];calc#[w6 t h.1,l8 ts h.2]
end
theorem kP:∀{a b:List T},gw a b=true->a.length=b.length
 |[],[],_=>rfl
 |a::as,b::bs,h=>by simp only[gw,iO] at h;simp[kP h.2]
 |[],_::_,h=>by simp[gw] at h
 |_::_,[],h=>by simp[gw] at h
theorem kQ:∀{a b:List T},a.length=b.length->gw a b=(List.range a.length).all λj=>match a[j]?,b[j]? with
  |some x,some y=>eqT x y
  |_,_=>true
 |[],[],_=>by simp[gw]
 |a::as,b::bs,h=>by have ih:=kQ (by simpa using h);simp only[gw];rw[ih,wq,List.range_succ_eq_map,List.all_cons,List.all_map];rfl
 |[],_::_,h=>by simp at h
 |_::_,[],h=>by simp at h
theorem w9:∀{a b:List T},gw a b=((List.range (min a.length b.length)).all (λj=>match a[j]?,b[j]? with
  |some x,some y=>eqT x y
  |_,_=>true) && a.length==b.length)
 |a,b=>by
   by_cases h:a.length=b.length;rw[kQ h,h,Kq];simp;have e:(a.length==b.length)=false:=by simpa using h
   rw[e,UI];cases q:gw a b with
   |false=>rfl
   |true=>calc absurd (kP q) h
section
variable{O O':zm}
def w_(I:Inv X ε σ H s){ys:qak}(h:f_ X.K H a xs)(h':dO X.K H a ys):False:=by let(aP,_,p,_):=I.list h;let(jI,_,p2,_):=I.tuple h';let(o,n,e,c,_):=p;let(o2,e2,c2,_):=p2;rw[e] at e2;cases e2;rw[c] at c2;exact absurd c2 5
mutual
theorem At.inj(I:Inv X ε σ H s):∀{t u:T}{v:V},plainT t=true->plainT u=true->At X.K H O t v->At X.K H O' u v->t=u
 |.bO,u,v,_,pu,h,h'=>by simp only[At] at h;subst h;cases u<;>simp only[At] at h'<;>first|rfl|(simp only[plainT] at pu;cases pu;done)|(let(_,_,e,_):=h';cases e)|(cases h';done)
 |.bl b,u,v,_,pu,h,h'=>by simp only[At] at h;subst h;cases u<;>simp only[At] at h'<;>first|(simp only[plainT] at pu;cases pu;done)|(let(_,_,e,_):=h';cases e;done)|(cases h';rfl)|(cases h';done)
 |.int b,u,v,_,pu,h,h'=>by simp only[At] at h;subst h;cases u<;>simp only[At] at h'<;>first|(simp only[plainT] at pu;cases pu;done)|(let(_,_,e,_):=h';cases e;done)|(cases h';rfl)|(cases h';done)
 |.str b,u,v,_,pu,h,h'=>by simp only[At] at h;subst h;cases u<;>simp only[At] at h'<;>first|(simp only[plainT] at pu;cases pu;done)|(let(_,_,e,_):=h';cases e;done)|(cases h';rfl)|(cases h';done)
 |.dk _ _,_,_,p,_,_,_=>by simp only[plainT] at p;cases p
 |.dt _ _,_,_,p,_,_,_=>by simp only[plainT] at p;cases p
 |.df _ _ _,_,_,p,_,_,_=>by simp only[plainT] at p;cases p
 |.kt _,_,_,p,_,_,_=>by simp only[plainT] at p;cases p
 |.ins _ _ _,_,_,p,_,_,_=>by simp only[plainT] at p;cases p
 |.pin _ _,_,_,p,_,_,_=>by simp only[plainT] at p;cases p
 |.ob _,_,_,p,_,_,_=>by simp only[plainT] at p;cases p
 |.ty _,_,_,p,_,_,_=>by simp only[plainT] at p;cases p
 |.tup ts,u,v,p,pu,h,h'=>by
  simp only[At] at h;let(a,vs,rfl,h1,h2):=h;cases u with
  |tup us=>simp only[At] at h';let(b,ws,e,g1,g2):=h';cases e;cases I.lT h1 g1;simp only[plainT] at p pu;rw[aB.inj I p pu h2 g2]
  |lst us=>simp only[At] at h';let(b,ws,e,g1,g2):=h';cases e;calc (w_ I g1.sq h1).elim
  |dk _ _=>simp only[plainT] at pu;cases pu
  |dt _ _=>simp only[plainT] at pu;cases pu
  |df _ _ _=>simp only[plainT] at pu;cases pu
  |kt _=>simp only[plainT] at pu;cases pu
  |ins _ _ _=>simp only[plainT] at pu;cases pu
  |pin _ _=>simp only[plainT] at pu;cases pu
  |ob _=>simp only[plainT] at pu;cases pu
  |ty _=>simp only[plainT] at pu;cases pu
  |_=>simp only[At] at h';cases h'
 |.lst ts,u,v,p,pu,h,h'=>by
  simp only[At] at h;let(a,vs,rfl,h1,h2):=h;cases u with
  |lst us=>simp only[At] at h';let(b,ws,e,g1,g2):=h';cases e;cases I.kG h1.sq g1.sq;simp only[plainT] at p pu;rw[aB.inj I p pu h2 g2]
  |tup us=>simp only[At] at h';let(b,ws,e,g1,g2):=h';cases e;calc (w_ I h1.sq g1).elim
  |dk _ _=>simp only[plainT] at pu;cases pu
  |dt _ _=>simp only[plainT] at pu;cases pu
  |df _ _ _=>simp only[plainT] at pu;cases pu
  |kt _=>simp only[plainT] at pu;cases pu
  |ins _ _ _=>simp only[plainT] at pu;cases pu
  |pin _ _=>simp only[plainT] at pu;cases pu
  |ob _=>simp only[plainT] at pu;cases pu
  |ty _=>simp only[plainT] at pu;cases pu
  |_=>simp only[At] at h';cases h'
theorem aB.inj(I:Inv X ε σ H s):∀{ts us:List T}{vs:qak},cL ts=true->cL us=true->aB X.K H O ts vs->aB X.K H O' us vs->ts=us
 |[],[],_,_,_,_,_=>rfl
 |[],_::_,_,_,_,h,h'=>by simp only[aB] at h h';subst h;let(_,_,e,_):=h';cases e
 |_::_,[],_,_,_,h,h'=>by simp only[aB] at h h';subst h';let(_,_,e,_):=h;cases e
 |t::ts,u::us,_,p,pu,h,h'=>by simp only[aB] at h h';simp only[cL,iO] at p pu;let(v,r,rfl,h1,h2):=h;let(v',r',e,g1,g2):=h';cases e;rw[At.inj I p.1 pu.1 h1 g1,aB.inj I p.2 pu.2 h2 g2]
end
theorem kR:∀{ts:List T}{j:Nat}{x:T},ts[j]?\x->dep x<=oP ts
 |[],_,_,h=>by simp at h
 |t::ts,0,x,h=>by simp at h;subst h;simp only[oP];lia
 |t::ts,j+1,x,h=>by have:=kR (by simpa using h);simp only[oP];lia
theorem cM:∀{ts:List T}{j:Nat}{x:T},cL ts=true->ts[j]?\x->plainT x=true
 |[],_,_,_,h=>by simp at h
 |t::ts,0,x,p,h=>by simp at h;subst h;simp only[cL,iO] at p;calc p.1
 |t::ts,j+1,x,p,h=>by simp only[cL,iO] at p;calc cM p.2 (by simpa using h)
def in1_units(A:Around):A.in1.units=A.units+1:=by first|rfl|simp[Around.in1,Around.units]
def kS(I:Inv X ε σ H s){ts us:List T}{ws:qak}{aP jI:qag}(h1:aB X.K H O ts vs)(h2:aB X.K H O' us ws)(r1:Vals vs aP)(r2:Vals ws jI)(key:∀(j:Nat) x y v w u u',ts[j]?\x->us[j]?\y->At X.K H O x v->At X.K H O' y w->RelV v u->RelV w u'->SeqAt.EqAt A s u u' (eqT x y)) :
  ∀(j:Nat)(g1:j<aP.toArray.size)(g2:j<jI.toArray.size),SeqAt.EqAt A s aP.toArray[j] jI.toArray[j] (match ts[j]?,us[j]? with
   |some x,some y=>eqT x y
   |_,_=>true):=λj g1 g2=>by
 have l1:=h1.length;have l2:=h2.length;have m1:=r1.length;have m2:=r2.length;simp only[iN] at g1 g2;have e1:ts[j]?\ts[j]'():=by simp
 have e2:us[j]?\us[j]'():=by simp
 let(v,a1,a2):=h1.get e1;let(w,b1,b2):=h2.get e2;let(u,c1,c2):=r1.get a1;let(u',d1,d2):=r2.get b1;have f1:aP.toArray[j]=u:=by rw[gq ()] at c1;simpa using c1
 have f2:jI.toArray[j]=u':=by rw[gq ()] at d1;simpa using d1
 rw[f1,f2,e1,e2];calc key j _ _ v w u u' e1 e2 a2 b2 c2 d2
def oQ{O:zm}(I:Inv X ε σ H s){u:T}{w:V}{b:Value}(pu:plainT u=true)(hw:At X.K H O u w)(r:RelV w b):(u=.bO/\b=.none)\/(∃c,u=.bl c/\b=.bool c)\/(∃c t,u=.int c/\b=.int c t)\/(∃c t,u=.str c/\b=.str c t)\/(∃l p xs,u=.tup l/\b=.ref p/\s.heap.IsTuple p xs)\/∃l p xs,u=.lst l/\b=.ref p/\s.heap.IsList p xs:=by
 cases u with
 |tup l=>simp only[At] at hw;let(p,ws,rfl,q,_):=hw;cases r;let(_,_,p1,_):=I.tuple q;calc .inr (.inr (.inr (.inr (.inl #[l,p,_,9,9,p1]))))
 |lst l=>simp only[At] at hw;let(p,ws,rfl,q,_):=hw;cases r;let(_,_,p1,_):=I.list q.sq;calc .inr (.inr (.inr (.inr (.inr #[l,p,_,9,9,p1.isList]))))
 |bO=>simp only[At] at hw;subst hw;cases r;calc .inl #[9,9]
 |bl c=>simp only[At] at hw;subst hw;cases r;calc .inr (.inl #[c,9,9])
 |int c=>simp only[At] at hw;subst hw;let(t,rfl):=r;calc .inr (.inr (.inl #[c,t,9,9]))
 |str c=>simp only[At] at hw;subst hw;let(t,rfl):=r;calc .inr (.inr (.inr (.inl #[c,t,9,9])))
 |_=>simp only[plainT] at pu;cases pu
def Bs(I:Inv X ε σ H s){t u:T}{w:V}{a b:Value}(gx:A.units<cLine)(key:∀(x y:T) (v w:V) (a b:Value),dep x+1<=dep t->plainT x=true->plainT y=true->At X.K H O x v->At X.K H O' y w->RelV v a->RelV w b->SeqAt.EqAt A.in1 s a b (eqT x y))(pt:plainT t=true)(pu:plainT u=true)(ht:At X.K H O t v)(hw:At X.K H O' u w)(rv:RelV v a)(rw':RelV w b):SeqAt.RcAt A s a b (eqT t u):=by
 rcases oQ I pt ht rv with⟨rfl,rfl⟩|⟨d,rfl,rfl⟩|⟨d,_,rfl,rfl⟩|⟨d,_,rfl,rfl⟩|⟨l,p,_,rfl,rfl,h⟩|⟨l,p,_,rfl,rfl,h⟩<;>rcases oQ I pu hw rw' with⟨rfl,rfl⟩|⟨c,rfl,rfl⟩|⟨c,_,rfl,rfl⟩|⟨c,_,rfl,rfl⟩|⟨l',p',_,rfl,rfl,h'⟩|⟨l',p',_,rfl,rfl,h'⟩<;>simp only[eqT]
 calc .none_none;calc .none_bool _;calc .none_int _ _;calc .none_str _ _;calc .none_tuple h' gx;calc .none_list h' gx;calc .bool_none _;calc .bool_bool _ _;calc .bool_int _ _ _;calc .bool_str _ _ _;calc .bool_tuple _ h' gx;calc .bool_list _ h' gx;calc .int_none _ _;calc .int_bool _ _ _;calc .int_int _ _ _ _;calc .int_str _ _ _ _;calc .int_tuple _ _ h' gx;calc .int_list _ _ h' gx;calc .str_none _ _;calc .str_bool _ _ _;calc .str_int _ _ _ _;calc .str_str _ _ _ _;calc .str_tuple _ _ h' gx;calc .str_list _ _ h' gx;calc .tuple_none h gx;calc .tuple_bool _ h gx;calc .tuple_int _ _ h gx;calc .tuple_str _ _ h gx;simp only[plainT] at pt pu;let(_,vs,rfl,h1,h2):=ht;let(_,ws,rfl,g1,g2):=hw;cases rv;cases rw';have e3:=h2.length;have e4:=g2.length;let(aP,r1,p1,_):=I.tuple h1;let(jI,r2,p2,_):=I.tuple g1;have e1:=r1.length;have e2:=r2.length;have:=SeqAt.RcAt.tuples p1 p2 gx (kS I h2 g2 r1 r2 λj x y v w u u' e1 e2 a1 a2 b1 b2=>key x y v w u u' (jS (Nat.succ_le_succ (kR e1)) (by simp only[dep];lia)) (cM pt e1) (cM pu e2) a1 a2 b1 b2);simp only[iN] at this;rw[<- e1,<- e2,e3,e4] at this;rw[w9];calc this;calc .tuple_list h h' gx;calc .list_none h gx;calc .list_bool _ h gx;calc .list_int _ _ h gx;calc .list_str _ _ h gx;calc .list_tuple h h' gx;simp only[plainT] at pt pu;let(_,vs,rfl,h1,h2):=ht;let(_,ws,rfl,g1,g2):=hw;cases rv;cases rw';have e3:=h2.length;have e4:=g2.length;let(aP,r1,p1,_):=I.list h1.sq;let(jI,r2,p2,_):=I.list g1.sq;have e1:=r1.length;have e2:=r2.length;by_cases hl:l.length=l'.length;have:=SeqAt.RcAt.lists p1.isList p2.isList (by simp only[iN];lia) gx (kS I h2 g2 r1 r2 λj x y v w u u' e1 e2 a1 a2 b1 b2=>key x y v w u u' (jS (Nat.succ_le_succ (kR e1)) (by simp only[dep];lia)) (cM pt e1) (cM pu e2) a1 a2 b1 b2);simp only[iN] at this;rw[<- e1,e3] at this;rw[kQ hl];calc this;have:gw l l'=false:=by
  cases q:gw l l' with
  |false=>rfl
  |true=>exact absurd (kP q) hl
 rw[this];calc SeqAt.RcAt.lists_lengths p1.isList p2.isList (by simp only[iN];rw[bne_iff_ne];lia) gx
theorem Gj{a b:Value}{k:Bool}(h:SeqAt.RcAt A s a b k)(g:a=b->k=true)(f:∀x t,a≠.float x t):SeqAt.EqAt A s a b k:=λprog w E Q hq=>by
 show rk (wpAny_ite_split (λe=>?_) λ_=>?_);rw[g (eq_of_beq e)] at hq;calc ζ (aag (η hq));cases a with
 |float x t=>calc absurd 9 (f x t)
 |_=>calc ζ (h prog w E _ (Ξ hq))
def zH(I:Inv X ε σ H s)(n:Nat):∀(t u:T)(v w:V)(a b:Value)(A:Around),dep t<=n->A.units+n<cLine->plainT t=true->plainT u=true->At X.K H O t v->At X.K H O' u w->RelV v a->RelV w b->SeqAt.EqAt A s a b (eqT t u):=by
 induction n using Nat.strongRecOn with
 |_ n ih=>intro t u v w a b A hd hu pt pu ht hw rv rw';show Gj (Bs I () (λx y v w a b h=>?_) pt pu ht hw rv rw') (λe=>?_) λx t e=>?_;calc ih (n-1) () x y v w a b A.in1 () (by rw[in1_units];lia);subst e;cases rv.inj rw';cases At.inj I pt pu ht hw;calc w6 _ pt;rcases oQ I pt ht rv with⟨_,h⟩|⟨_,_,h⟩|⟨_,_,_,h⟩|⟨_,_,_,h⟩|⟨_,_,_,_,h,_⟩|⟨_,_,_,_,h,_⟩<;>cases e.symm.trans h
end
section
variable{O O':zm}
theorem Q2(I:Inv X ε σ H s)(t u:T)(v w:V)(a b:Value)(A:Around)(hd:dep t<=100)(hu:A.units+101<cLine)(pt:plainT t=true)(pu:plainT u=true)(ht:At X.K H O t v)(hw:At X.K H O' u w)(rv:RelV v a)(rw':RelV w b):SeqAt.RcAt A s a b (eqT t u) :=
 Bs I () (λx y v w a b h=>zH I 100 x y v w a b A.in1 () (by rw[in1_units];lia)) pt pu ht hw rv rw'
theorem Q3(I:Inv X ε σ H s)(t u:T)(v w:V)(a b:Value)(A:Around)(hd:dep t<=100)(hu:A.units+101<cLine)(pt:plainT t=true)(pu:plainT u=true)(ht:At X.K H O t v)(hw:At X.K H O' u w)(rv:RelV v a)(rw':RelV w b):SeqAt.RcNeAt A s a b (!eqT t u):=by
 have gx:A.units<cLine:=by lia
 have hJ:A.in1.units+100<cLine:=by rw[in1_units];lia
 rcases oQ I pt ht rv with⟨rfl,rfl⟩|⟨d,rfl,rfl⟩|⟨d,_,rfl,rfl⟩|⟨d,_,rfl,rfl⟩|⟨l,p,_,rfl,rfl,h⟩|⟨l,p,_,rfl,rfl,h⟩<;>rcases oQ I pu hw rw' with⟨rfl,rfl⟩|⟨c,rfl,rfl⟩|⟨c,_,rfl,rfl⟩|⟨c,_,rfl,rfl⟩|⟨l',p',_,rfl,rfl,h'⟩|⟨l',p',_,rfl,rfl,h'⟩<;>simp only[eqT]
 calc .none_none;calc .none_bool _;calc .none_int _ _;calc .none_str _ _;calc .none_tuple h' gx;calc .none_list h' gx;calc .bool_none _;calc .bool_bool _ _;calc .bool_int _ _ _;calc .bool_str _ _ _;calc .bool_tuple _ h' gx;calc .bool_list _ h' gx;calc .int_none _ _;calc .int_bool _ _ _;calc .int_int _ _ _ _;calc .int_str _ _ _ _;calc .int_tuple _ _ h' gx;calc .int_list _ _ h' gx;calc .str_none _ _;calc .str_bool _ _ _;calc .str_int _ _ _ _;calc .str_str _ _ _ _;calc .str_tuple _ _ h' gx;calc .str_list _ _ h' gx;calc .tuple_none h gx;calc .tuple_bool _ h gx;calc .tuple_int _ _ h gx;calc .tuple_str _ _ h gx;simp only[plainT] at pt pu;simp only[dep] at hd;let(_,vs,rfl,h1,h2):=ht;let(_,ws,rfl,g1,g2):=hw;cases rv;cases rw';have e3:=h2.length;have e4:=g2.length;let(aP,r1,p1,_):=I.tuple h1;let(jI,r2,p2,_):=I.tuple g1;have e1:=r1.length;have e2:=r2.length;have:=SeqAt.RcNeAt.tuples p1 p2 gx (kS I h2 g2 r1 r2 λj x y v w u u' e1 e2 a1 a2 b1 b2=>zH I 100 x y v w u u' A.in1 (jS (kR e1) ()) hJ (cM pt e1) (cM pu e2) a1 a2 b1 b2);simp only[iN] at this;rw[<- e1,<- e2,e3,e4] at this;rw[w9];calc this;calc .tuple_list h h' gx;calc .list_none h gx;calc .list_bool _ h gx;calc .list_int _ _ h gx;calc .list_str _ _ h gx;calc .list_tuple h h' gx;simp only[plainT] at pt pu;simp only[dep] at hd;let(_,vs,rfl,h1,h2):=ht;let(_,ws,rfl,g1,g2):=hw;cases rv;cases rw';have e3:=h2.length;have e4:=g2.length;let(aP,r1,p1,_):=I.list h1.sq;let(jI,r2,p2,_):=I.list g1.sq;have e1:=r1.length;have e2:=r2.length;by_cases hl:l.length=l'.length;have:=SeqAt.RcNeAt.lists p1.isList p2.isList (by simp only[iN];lia) gx (kS I h2 g2 r1 r2 λj x y v w u u' e1 e2 a1 a2 b1 b2=>zH I 100 x y v w u u' A.in1 (jS (kR e1) ()) hJ (cM pt e1) (cM pu e2) a1 a2 b1 b2);simp only[iN] at this;rw[<- e1,e3] at this;rw[kQ hl];calc this;have:gw l l'=false:=by
  cases q:gw l l' with
  |false=>rfl
  |true=>exact absurd (kP q) hl
 rw[this];calc SeqAt.RcNeAt.lists_lengths p1.isList p2.isList (by simp only[iN];rw[bne_iff_ne];lia) gx
def gN.bare{A:zm}{t:T}(h:gN K H A t v):At K H [] t v:=by
 obtain h|⟨a,rfl,h⟩:=h
 calc At.bq (λ_ z=>absurd z eh) h;calc (c0.bq h (λ_ z=>absurd z eh)).at eh
def LB(K:qaf)(neg:Bool):R2:=λx y H Q=>E2 λt u=>At K H [] t x/\At K H [] u y/\plainT t=true/\plainT u=true/\dep t<=100/\Q (.bl (if neg then !eqT t u else eqT t u)) H
def Gk(hu:X.A.units+101<cLine):fm X (compareOp .Eq) (LB X.K false):=by intro ε s σ H x y v u Q I rx ry #[t,t',h1,h2,p1,p2,d,q];calc Q2 I t t' x y v u X.A d hu p1 p2 h1 h2 rx ry 34 X.w X.xe _ #[.bl _,H,I,9,q]
def Gm(hu:X.A.units+101<cLine):fm X (compareOp .NotEq) (LB X.K true):=by intro ε s σ H x y v u Q I rx ry #[t,t',h1,h2,p1,p2,d,q];calc Q3 I t t' x y v u X.A d hu p1 p2 h1 h2 rx ry 34 X.w X.xe _ #[.bl _,H,I,9,q]
end
def V4(x y:T)(q:Rt->Prop):Prop:=match x,y with
 |.int i,.int j=>q (.vw (.bl (decide (i=j))))
 |.str i,.str j=>q (.vw (.bl (decide (i=j))))
 |.bl i,.bl j=>q (.vw (.bl (decide (i=j))))
 |x,y=>plainT x=true/\plainT y=true/\dep x<=100/\q (.vw (.bl (eqT x y)))
def OF(x y:T)(q:Rt->Prop):Prop:=match x,y with
 |.int i,.int j=>q (.vw (.bl (!decide (i=j))))
 |.str i,.str j=>q (.vw (.bl (!decide (i=j))))
 |.bl i,.bl j=>q (.vw (.bl (!decide (i=j))))
 |x,y=>plainT x=true/\plainT y=true/\dep x<=100/\q (.vw (.bl (!eqT x y)))
def LC{x y:T}{q:Rt->Prop}(h:V4 x y q):plainT x=true/\plainT y=true/\dep x<=100/\q (.vw (.bl (eqT x y))):=by
 unfold V4 at h;split at h;calc#[9,9,gJ _,by simp only[eqT,YR];calc h];show#[9,9,gJ _,?_];have e:∀i j:Str,(i==j)=decide (i=j):=λi j=>by rw[UD];simp
 simp only[eqT,e];calc h;calc#[9,9,gJ _,by simp only[eqT,YR];calc h];calc h
def LD{x y:T}{q:Rt->Prop}(h:OF x y q):plainT x=true/\plainT y=true/\dep x<=100/\q (.vw (.bl (!eqT x y))):=by
 unfold OF at h;split at h;calc#[9,9,gJ _,by simp only[eqT,YR];calc h];show#[9,9,gJ _,?_];have e:∀i j:Str,(i==j)=decide (i=j):=λi j=>by rw[UD];simp
 simp only[eqT,e];calc h;calc#[9,9,gJ _,by simp only[eqT,YR];calc h];calc h
def Gn:nS K (LB K false) V4:=by intro Z tm O ρ σ H x y v w q Q I h1 h2 h k;let(p1,p2,d,h):=LC h;calc#[x,y,h1.bare,h2.bare,p1,p2,d,k _ h _ H 41 #[I,by rw[θ jq];calc dR]]
def Gp:nS K (LB K true) OF:=by intro Z tm O ρ σ H x y v w q Q I h1 h2 h k;let(p1,p2,d,h):=LD h;calc#[x,y,h1.bare,h2.bare,p1,p2,d,k _ h _ H 41 #[I,by rw[ι 9];calc dR]]
def V5(g:Int->Int->Bool)(x y:T)(q:Rt->Prop):Prop:=match x,y with
 |.int i,.int j=>q (.vw (.bl (g i j)))
 |_,_=>False
def Q5(x y:T)(q:Rt->Prop):Prop:=match x,y with
 |.int i,.int j=>q (.vw (.int (i-j)))
 |_,_=>False
def LF:nS K (qA λi j=>.int (i-j)) Q5:=by intro Z tm O ρ σ H x y v w q Q I h1 h2 h k;unfold Q5 at h;split at h;calc#[_,_,h1.int,h2.int,k _ h _ H 41 #[I,bJ]];calc h.elim
def Q6(x y:T)(q:Rt->Prop):Prop:=match x,y with
 |.int i,.int j=>FD i j/\q (.vw (.int (i * j)))
 |_,_=>False
def LG:nS K (rI FD λi j=>.int (i * j)) Q6:=by intro Z tm O ρ σ H x y v w q Q I h1 h2 h k;unfold Q6 at h;split at h;calc#[_,_,h1.int,h2.int,h.1,k _ h.2 _ H 41 #[I,bJ]];calc h.elim
def Q7(x y:T)(q:Rt->Prop):Prop:=match x,y with
 |.int i,.int j=>(0<j/\j<1073741824)/\q (.vw (.int (i / j)))
 |_,_=>False
def LH:nS K (rI U5 λi j=>.int (i / j)) Q7:=by intro Z tm O ρ σ H x y v w q Q I h1 h2 h k;unfold Q7 at h;split at h;calc#[_,_,h1.int,h2.int,h.1,k _ h.2 _ H 41 #[I,bJ]];calc h.elim
def Q8(x y:T)(q:Rt->Prop):Prop:=match x,y with
 |.int i,.int j=>0<j/\q (.vw (.int (i % j)))
 |_,_=>False
def LI:nS K (rI (λ_ j=>0<j) λi j=>.int (i % j)) Q8:=by intro Z tm O ρ σ H x y v w q Q I h1 h2 h k;unfold Q8 at h;split at h;calc#[_,_,h1.int,h2.int,h.1,k _ h.2 _ H 41 #[I,bJ]];calc h.elim
def Q9(x y:T)(q:Rt->Prop):Prop:=match x,y with
 |.int i,.int j=>(0<=j/\j<=1000000/\i.natAbs<2 ^ 64)/\q (.vw (.int (i ^ j.toNat)))
 |_,_=>False
def LJ:nS K (rI K9 λi j=>.int (i ^ j.toNat)) Q9:=by intro Z tm O ρ σ H x y v w q Q I h1 h2 h k;unfold Q9 at h;split at h;calc#[_,_,h1.int,h2.int,h.1,k _ h.2 _ H 41 #[I,bJ]];calc h.elim
def Q_(x y:T)(q:Rt->Prop):Prop:=match x,y with
 |.int i,.int j=>(0<=j/\j<=1000000/\i.natAbs<2 ^ 64)/\q (.vw (.int (i * 2 ^ j.toNat)))
 |_,_=>False
def LK:nS K (rI K9 λi j=>.int (i * 2 ^ j.toNat)) Q_:=by intro Z tm O ρ σ H x y v w q Q I h1 h2 h k;unfold Q_ at h;split at h;calc#[_,_,h1.int,h2.int,h.1,k _ h.2 _ H 41 #[I,bJ]];calc h.elim
def Ra(x y:T)(q:Rt->Prop):Prop:=match x,y with
 |.int i,.int j=>0<=j/\q (.vw (.int (i / 2 ^ j.toNat)))
 |_,_=>False
def LL:nS K (rI (λ_ j=>0<=j) λi j=>.int (i / 2 ^ j.toNat)) Ra:=by intro Z tm O ρ σ H x y v w q Q I h1 h2 h k;unfold Ra at h;split at h;calc#[_,_,h1.int,h2.int,h.1,k _ h.2 _ H 41 #[I,bJ]];calc h.elim
def Gq(x y:T)(q:Rt->Prop):Prop:=match x,y with
 |.int i,.int j=>q (.vw (.int (Builtin.bitAnd i j)))
 |_,_=>False
def Gr:nS K (qA λi j=>.int (Builtin.bitAnd i j)) Gq:=by intro Z tm O ρ σ H x y v w q Q I h1 h2 h k;unfold Gq at h;split at h;calc#[_,_,h1.int,h2.int,k _ h _ H 41 #[I,bJ]];calc h.elim
def tP(x y:T)(q:Rt->Prop):Prop:=match x,y with
 |.int i,.int j=>q (.vw (.int (Builtin.bitOr i j)))
 |_,_=>False
def nT:nS K (qA λi j=>.int (Builtin.bitOr i j)) tP:=by intro Z tm O ρ σ H x y v w q Q I h1 h2 h k;unfold tP at h;split at h;calc#[_,_,h1.int,h2.int,k _ h _ H 41 #[I,bJ]];calc h.elim
def pLt(x y:T)(q:Rt->Prop):Prop:=match x,y with
 |.int i,.int j=>q (.vw (.bl (decide (i<j))))
 |_,_=>False
def Rb:nS K (qA λi j=>.bl (decide (i<j))) pLt:=by intro Z tm O ρ σ H x y v w q Q I h1 h2 h k;unfold pLt at h;split at h;calc#[_,_,h1.int,h2.int,k _ h _ H 41 #[I,dR]];calc h.elim
def pGt(x y:T)(q:Rt->Prop):Prop:=match x,y with
 |.int i,.int j=>q (.vw (.bl (decide (j<i))))
 |_,_=>False
def Rc:nS K (qA λi j=>.bl (decide (j<i))) pGt:=by intro Z tm O ρ σ H x y v w q Q I h1 h2 h k;unfold pGt at h;split at h;calc#[_,_,h1.int,h2.int,k _ h _ H 41 #[I,dR]];calc h.elim
def OG(x y:T)(q:Rt->Prop):Prop:=match x,y with
 |.int i,.int j=>q (.vw (.int (i+j)))
 |_,_=>False
def Gs:nS K (qA λi j=>.int (i+j)) OG:=by intro Z tm O ρ σ H x y v w q Q I h1 h2 h k;unfold OG at h;split at h;calc#[_,_,h1.int,h2.int,k _ h _ H 41 #[I,bJ]];calc h.elim
def OH(K:qaf):R2:=λx y H Q=>∃l b xs zs,x=.ref l/\y=.ref b/\f_ K H l xs/\f_ K H b zs/\27+zs.length<=sizeLine/\∀p,H p=none->Q (.ref p) (upd H p (.lst (xs++zs)))
def OI(K:qaf):R2:=λx y H Q=>∃a b xs ys,x=.ref a/\y=.ref b/\dO K H a xs/\dO K H b ys/\27+ys.length<=sizeLine/\(xs=[]->Q (.ref b) H)/\(xs≠[]->ys=[]->Q (.ref a) H)/\(xs≠[]->ys≠[]->∀p,H p=none->Q (.ref p) (upd H p (.tup (xs++ys))))
section
def LM:fm X (binaryOp .Add) (OH X.K):=by
 intro ε s σ H x y v u Q I rx ry h;let(l,b,xs,zs,rfl,rfl,hH,hB,hz,q):=h;cases rx;cases ry;let(aP,r,p1,z1):=I.list hH;let(jI,r2,p2,z2):=I.list hB;let((cls,dd,data,sl),n,ho,hc,_,hd):=p1;let((Vf,T2,data2,T3),n2,yU,Lh,_,hd2):=p2;subst hc hd Lh hd2;have l1:=r.length;have l2:=r2.length;have e:aP.toArray++jI.toArray=(aP++jI).toArray:=by simp
 show concat_meets #[_,ho,9] #[_,yU,9] noFill_list_add seq_list_add PySem.F.slot_list_add PySem.F.entry_list_add (PySem.F.args_list_add_2 _ _) (list_addW l b aP.toArray jI.toArray n n2 dd T2 sl T3 (by simp only[iN];lia)) #[ho,yU,?_];rw[e];calc#[.ref _,_,I.Vq (r.append r2) (by rw[kq];lia),9,q _ I.fresh]
def LN:fm X (binaryOp .Add) (OI X.K):=by
 intro ε s σ H x y v u Q I rx ry h;let(a,b,xs,ys,rfl,rfl,ha,hb,hz,q0,q1,q2):=h;cases rx;cases ry;let(aP,r1,p1,_):=I.tuple ha;let(jI,r2,p2,_):=I.tuple hb;by_cases hx:xs=[];let((cls,dd,data,sl),ho,hc,n,hd):=id p1;let((Vf,T2,data2,T3),yU,Lh,n2,hd2):=id p2;subst hc hd Lh hd2;exact concat_meets #[_,ho,9] #[_,yU,9] noFill_tuple_add seq_tuple_add Z3 Z0 (ZY _ _)
  (tuple_addW0 a b aP.toArray jI.toArray n n2 dd T2 sl T3 (by simp[r1.h7.mpr hx])) #[ho,yU,#[.ref b,H,I,9,q0 hx]]
 show HT.Lg p1 p2 (λz=>hx (r1.h7.mp z)) (λz=>#[.ref a,H,I,9,q1 hx (r2.h7.mp z)]) (λz=>#[.ref 8,_,I.laid (λb ob q=>de _ q) (cD _) ?_,9,q2 hx (λw=>z (r2.h7.mpr w)) _ (I.bB.fresh (cD _))]) (by rw[<- r1.length,<- r2.length];calc hz);calc#[by rw[kq];calc hz,_,r1.append r2,IsTup.new _ _]
end
def OJ(K:qaf):R2:=λx y H Q=>qA (λi j=>.int (i+j)) x y H Q\/(λx y H Q=>∃i j,x=.str i/\y=.str j/\i.length+j.length<=sizeLine/\Q (.str (i++j)) H) x y H Q\/OH K x y H Q\/OI K x y H Q
def LO:fm X (binaryOp .Add) (OJ X.K):=fm.or Qy (fm.or zg (fm.or LM LN))
def Rf(x y:T)(q:Rt->Prop):Prop:=match x,y with
 |.int i,.int j=>q (.vw (.int (i+j)))
 |.str i,.str j=>i.length+j.length<=sizeLine/\q (.vw (.str (i++j)))
 |.lst a,.lst b=>a.length+b.length<=sizeLine/\q (.fr (.lst (a++b)))
 |.tup a,.tup b=>a.length+b.length<=sizeLine/\q (.vw (.tup (a++b)))
 |_,_=>False
def LP:nS K (OJ K) Rf:=by
 intro Z tm O ρ σ H x y v w q Q I h1 h2 h k;unfold Rf at h;split at h;calc .inl #[_,_,h1.int,h2.int,k _ h _ H 41 #[I,bJ]];calc .inr (.inl #[_,_,h1.str,h2.str,h.1,k _ h.2 _ H 41 #[I,eR]]);let(a,vs,rfl,s1,a1):=h1.lst;let(b,ws,rfl,s2,a2):=h2.lst;calc .inr (.inr (.inl #[a,b,vs,ws,9,9,s1,s2,by rw[a1.length,a2.length];calc h.1,λp hp=>k _ h.2 _ _ (aG hp) (I.wZ hp (a1.append a2))]));let(a,vs,rfl,s1,a1):=h1.tup;let(b,ws,rfl,s2,a2):=h2.tup;show .inr (.inr (.inr #[a,b,vs,ws,9,9,s1,s2,by rw[a1.length,a2.length];calc h.1,λe=>?_,λ_ e=>?_,λ_ _ p hp=>?_]));subst e;have e:=a1.length
 rename_i xs ys
 have e':=Of.mp e.symm;subst e';calc k _ h.2 _ H 41 #[I,dm s2 a2];subst e;have e:=a2.length
 rename_i xs ys _
 have e':=Of.mp e.symm;subst e';calc k _ h.2 _ H 41 #[I,by rw[Bb];calc dm s1 a1];calc k _ h.2 _ _ (aG hp) #[I.same (aG hp),dm (dO.of aA) ((a1.append a2).same (aG hp))];calc h.elim
section
variable{Z:Zc}{a:Expr}{pos:Pos}{fa fb:FE}
def cf(ha:VR X Z a fa)(hb:VR X Z b fb):VP X Z (.BinOp a .Add b pos) (f2 fa fb Rf):=gv LO LP ha hb
def oR(ha:VR X Z a fa)(hb:VR X Z b fb):VP X Z (.BinOp a .Sub b pos) (f2 fa fb Q5):=gv Qz LF ha hb
def fD(ha:VR X Z a fa)(hb:VR X Z b fb):VP X Z (.BinOp a .Mult b pos) (f2 fa fb Q6):=gv QA LG ha hb
def bx(ha:VR X Z a fa)(hb:VR X Z b fb):VP X Z (.BinOp a .FloorDiv b pos) (f2 fa fb Q7):=gv K_ LH ha hb
def bo(ha:VR X Z a fa)(hb:VR X Z b fb):VP X Z (.BinOp a .Mod b pos) (f2 fa fb Q8):=gv QB LI ha hb
def l9(ha:VR X Z a fa)(hb:VR X Z b fb):VP X Z (.BinOp a .Pow b pos) (f2 fa fb Q9):=gv QC LJ ha hb
def oS(ha:VR X Z a fa)(hb:VR X Z b fb):VP X Z (.BinOp a .LShift b pos) (f2 fa fb Q_):=gv QD LK ha hb
def zI(ha:VR X Z a fa)(hb:VR X Z b fb):VP X Z (.BinOp a .RShift b pos) (f2 fa fb Ra):=gv QE LL ha hb
def LQ(ha:VR X Z a fa)(hb:VR X Z b fb):VP X Z (.BinOp a .BitAnd b pos) (f2 fa fb Gq):=gv QF Gr ha hb
def i0(ha:VR X Z a fa)(hb:VR X Z b fb):VP X Z (.BinOp a .BitOr b pos) (f2 fa fb tP):=gv U6 nT ha hb
def adn(f:FE):FP:=λρ Q=>f ρ λx=>match x with
 |.int i=>Q (.vw (.int (-i)))
 |_=>False
def oU(ha:VR X Z a fa):VP X Z (.UnaryOp .USub a pos) (adn fa):=.mk λtm=>PE.weak (U4 QG (ha tm)) λσ H Q #[ρ,O,q,I,hf,k]=>#[ρ,O,_,I,hf,λt ht v H1 s1 a1=>by split at ht;calc#[_,a1.int,k _ ht _ H1 s1 #[I.same s1,bJ]];calc ht.elim]
def Gu(hu:X.A.units+101<cLine)(ha:VR X Z a fa)(hb:VR X Z b fb):VP X Z (.Compare a [.Eq] [b] pos) (f2 fa fb V4):=zD (Gk hu) Gn ha hb (iU _)
def V6(hu:X.A.units+101<cLine)(ha:VR X Z a fa)(hb:VR X Z b fb):VP X Z (.Compare a [.NotEq] [b] pos) (f2 fa fb OF):=zD (Gm hu) Gp ha hb (iU _)
def bt(hu:X.A.units+101<cLine)(ha:VR X Z a fa)(hb:VR X Z b fb):VC X Z (.Compare a [.Eq] [b] pos) (l6 (f2 fa fb V4)):=ke (Gk hu) Gn ha hb (iU _)
def i4(hu:X.A.units+101<cLine)(ha:VR X Z a fa)(hb:VR X Z b fb):VC X Z (.Compare a [.NotEq] [b] pos) (l6 (f2 fa fb OF)):=ke (Gm hu) Gp ha hb (iU _)
def mX(ha:VR X Z a fa)(hb:VR X Z b fb):VC X Z (.Compare a [.Lt] [b] pos) (l6 (f2 fa fb pLt)):=ke U7 Rb ha hb (iU _)
def rN(ha:VR X Z a fa)(hb:VR X Z b fb):VC X Z (.Compare a [.Gt] [b] pos) (l6 (f2 fa fb pGt)):=ke U8 Rc ha hb (iU _)
def f3(fa fb fc:FE)(p p':T->T->(Rt->Prop)->Prop):FP:=λρ Q=>fa ρ λx=>fb ρ λy=>p x y λr=>match r with
 |.vw (.bl true)=>fc ρ λz=>p' y z Q
 |.vw (.bl false)=>Q (.vw (.bl false))
 |_=>False
end
def Gv{A:zm}{ts:List T}{i:Int}{t:T}(h:aB K H A ts vs)(e:iW ts i\t):∃v,iW vs i\v/\At K H A t v:=by
 unfold iW at e ⊢;rw[h.length];cases q:yV ts.length i with
 |none=>rw[q] at e;cases e
 |some j=>rw[q] at e;let(v,h1,h2):=h.get e;calc#[v,h1,h2]
def T8(x y:T)(q:Rt->Prop):Prop:=match x,y with
 |.lst ts,.int i=>∃t,iW ts i\t/\q (.vw t)
 |.tup ts,.int i=>∃t,iW ts i\t/\q (.vw t)
 |.str z,.int i=>z.length<=sizeLine/\∃c,iW z.cps.toList i\c/\q (.vw (.str #[([c].toArray)]))
 |_,_=>False
def Rg:nS K (rIx K) T8:=by intro Z tm O ρ σ H x y v w q Q I h1 h2 h k;unfold T8 at h;split at h;let(t,e,h):=h;let(a,vs,rfl,s1,a1):=h1.lst;let(u,e',a2):=Gv a1 e;calc .inl #[a,vs,_,u,9,h2.int,s1,e',k _ h _ H 41 #[I,a2]];let(t,e,h):=h;let(a,vs,rfl,s1,a1):=h1.tup;let(u,e',a2):=Gv a1 e;calc .inr (.inl #[a,vs,_,u,9,h2.int,s1,e',k _ h _ H 41 #[I,a2]]);let(hz,c,e,h):=h;calc .inr (.inr #[_,_,c,h1.str,h2.int,hz,e,k _ h _ H 41 #[I,eR]]);calc h.elim
section
variable{Z:Zc}{a:Expr}{pos:Pos}{fa fb:FE}
def ar(ha:VR X Z a fa)(hb:VR X Z b fb)(hs:Bo b:=by intro _ _;rfl):VP X Z (.Subscript a b pos) (f2 fa fb T8) :=
 .mk λtm=>PE.weak (Vj QP (ha tm) (hb tm) hs) (two Rg)
end
abbrev FO:=En->(Option Int->Prop)->Prop
def lO(X:Cx)(Z:Zc)(tm:List (T×V))(f:FO):TO:=λσ H Q=>∃ρ O q,az X.K Z tm O ρ σ H/\f ρ q/\∀o,q o->∀H',aO H H'->Q o H'
def VO(X:Cx)(Z:Zc)(e:Option Expr)(f:FO):Prop:=Bx λtm=>PO X e (lO X Z tm f)
instance{X:Cx}{Z:Zc}{e:Option Expr}{f:FO}:CoeFun (VO X Z e f) λ_=>∀tm,PO X e (lO X Z tm f):=#[λh=>Bx.h h]
def PO.weak{e:Option Expr}{t t':TO}(h:PO X e t)(hw:∀σ H Q,t' σ H Q->t σ H Q):PO X e t':=λε s σ H Q I q=>h ε s σ H Q I (hw _ _ _ q)
def fO0:FO:=λ_ Q=>Q none
def fO1(f:FE):FO:=λρ Q=>f ρ λt=>match t with
 |.int i=>Q (some i)
 |_=>False
def oV{α:Type}(xs:List α)(lo hi:Option Int):List α:=(xs.drop (HT.eA 27 0 lo)).take (HT.eA 27 27 hi-HT.eA 27 0 lo)
def aB.cut{A:zm}{ts:List T}(h:aB K H A ts vs)(lo hi:Option Int):aB K H A (oV ts lo hi) (Dk vs lo hi):=by unfold oV Dk;rw[h.length];calc (h.drop _).take _
def ado(K:qaf):V->Option Int->Option Int->Hp->VK->Prop:=λx lo hi H Q=>Vo K x lo hi H Q\/Vi K x lo hi H Q\/VQ x lo hi H Q
def adp:FU X (ado X.K):=FU.or Lp (FU.or QM QX)
def pSl(x:T)(lo hi:Option Int)(q:Rt->Prop):Prop:=match x with
 |.lst ts=>q (.fr (.lst (oV ts lo hi)))
 |.tup ts=>¬ (HT.eA 19 0 lo=0/\HT.eA 19 19 hi=19)/\q (.vw (.tup (oV ts lo hi)))
 |.str z=>z.length<=sizeLine/\q (.vw (.str (Txt.slice z lo hi)))
 |_=>False
def fSl(fa:FE)(fl fh:FO):FP:=λρ Q=>fa ρ λx=>fl ρ λlo=>fh ρ λhi=>pSl x lo hi Q
section
variable{Z:Zc}{a:Expr}{lo hi:Option Expr}{pos:Pos}{fa:FE}{fl fh:FO}
def tQ:VO X Z none fO0:=.mk λtm=>PO.weak Ll λσ H Q #[ρ,O,q,I,hf,k]=>k _ hf H 41
def eX(h:VR X Z e fa):VO X Z (some e) (fO1 fa):=.mk λtm=>PO.weak (Lm (h tm)) λσ H Q #[ρ,O,q,I,hf,k]=>#[ρ,O,_,I,hf,λt ht v H' s z=>by split at ht;calc#[_,z.int,k _ ht H' s];calc ht.elim]
def gO(he:VR X Z e fa)(hl:VO X Z lo fl)(hh:VO X Z hi fh):VP X Z (.Subscript e (.Slice lo hi none p2) pos) (fSl fa fl fh) :=
 .mk λtm=>PE.weak (FV adp (he tm) (hl tm) (hh tm)) λσ H Q #[ρ,O,q,I,hf,k]=>#[ρ,O,_,I,hf,λx hx v H1 s1 a1=>#[ρ,O,_,I.same s1,hx,λl hl H2 s2=>#[ρ,O,_,(I.same s1).same s2,hl,λu hu H3 s3=>by have J:=((I.same s1).same s2).same s3;have a3:=(a1.same s2).same s3;have S:=(s1.trans s2).trans s3;unfold pSl at hu;split at hu;let(p,vs,rfl,q1,q2):=a3.lst;calc .inl #[p,vs,9,q1,λr hr=>k _ hu _ _ (S.trans (aG hr)) (J.wZ hr (q2.cut _ _))];let(p,vs,rfl,q1,q2):=a3.tup;show .inr (.inl #[p,vs,9,q1,by rw[q2.length];calc hu.1,λr hr=>k _ hu.2 _ _ (S.trans (aG hr)) #[J.same (aG hr),dm (dO.of aA) ((q2.cut _ _).same (aG hr))]]);calc .inr (.inr #[_,a3.str,hu.1,k _ hu.2 _ H3 S #[J,eR]]);calc hu.elim]]]
end
def OL(g:FA)(p:List T->(Rt->Prop)->Prop):FP:=λρ Q=>g ρ λts=>p ts Q
def i5(K:qaf)(r:qak->Hp->VK->Prop)(p:List T->(Rt->Prop)->Prop):Prop :=
 ∀(Z:Zc)(tm:List (T×V))(O:HD)(ρ:En)(σ:St)(H:Hp)(ts:List T)(vs:qak)(q:Rt->Prop)(Q:VK),az K Z tm O ρ σ H->Paired (λv t=>gN K H (av Z O) t v) vs ts->p ts q ->
  (∀t,q t->∀u H',aO H H'->iI K Z tm O ρ σ H' t u->Q u H')->r vs H Q
section
variable{Z:Zc}{a:Expr}{pos:Pos}{g:FA}{id Ty:String}{r:qak->Hp->VK->Prop}{pp:List T->(Rt->Prop)->Prop}
def aU(hc:c5 X (.builtin id) r)(ht:i5 X.K r pp)(hg:Gl X x)(hm:X.mg x=none)(hv:bootBuiltins x\.builtin id)(ha:T7 X Z (e::es) g)(hn:x≠"__name__":=by decide)(qJ:fY x:=by decide)(hs:starEach (e::es) 3=(false,eval e 3)::starEach es 3:=by rfl)(j9:(backTo pos (starEach es 3)).any (·.1)=false:=by rfl):VP X Z (.Call 51 (e::es) [] pos) (OL g pp) :=
 .mk λtm=>PE.weak (oF hc hg hm hv (ha tm) hn qJ hs j9) λσ H Q #[ρ,O,q,I,hf,k]=>#[ρ,O,_,I,hf,λts gF vs H1 s1 a1=>ht Z tm O ρ σ H1 ts vs q _ (I.same s1) a1 gF λt h u H' s z=>k t h u H' (s1.trans s) z]
def dZ(hc:c5 X (.type Ty) r)(ht:i5 X.K r pp)(hg:Gl X x)(hm:X.mg x=none)(hv:bootBuiltins x\.type Ty)(ha:T7 X Z (e::es) g)(hn:x≠"__name__":=by decide)(qJ:fY x:=by decide)(hs:starEach (e::es) 3=(false,eval e 3)::starEach es 3:=by rfl)(j9:(backTo pos (starEach es 3)).any (·.1)=false:=by rfl):VP X Z (.Call 51 (e::es) [] pos) (OL g pp) :=
 .mk λtm=>PE.weak (rJ hc hg hm hv (ha tm) hn qJ hs j9) λσ H Q #[ρ,O,q,I,hf,k]=>#[ρ,O,_,I,hf,λts gF vs H1 s1 a1=>ht Z tm O ρ σ H1 ts vs q _ (I.same s1) a1 gF λt h u H' s z=>k t h u H' (s1.trans s) z]
end
def V7(ts:List T)(q:Rt->Prop):Prop:=match ts with
 |[.lst l]=>q (.vw (.int l.length))
 |[.tup l]=>q (.vw (.int l.length))
 |[.str z]=>z.length<=sizeLine/\q (.vw (.int z.length))
 |_=>False
def OM(K:qaf):qak->Hp->VK->Prop:=λxs H Q=>(∃p ys,xs=[.ref p]/\(f_ K H p ys\/dO K H p ys)/\Q (.int ys.length) H)\/(∃z,xs=[.str z]/\z.length<=sizeLine/\Q (.int z.length) H)
def bf:c5 X (.builtin "len") (OM X.K):=c5.or tI tJ
def cA{F:α->β->Prop}{vs:List α}{t:β}(h:Paired F vs [t]):∃v,vs=[v]/\F v t:=by
 cases h with
 |cons r q=>cases q;calc#[_,9,r]
def bh:i5 K (OM K) V7:=by intro Z tm O ρ σ H ts vs q Q I h hp k;unfold V7 at hp;split at hp;let(v,rfl,a):=cA h;let(p,ws,rfl,q1,q2):=a.lst;calc .inl #[p,ws,9,.inl q1,k _ hp _ H 41 #[I,by rw[q2.length];calc bJ]];let(v,rfl,a):=cA h;let(p,ws,rfl,q1,q2):=a.tup;calc .inl #[p,ws,9,.inr q1,k _ hp _ H 41 #[I,by rw[q2.length];calc bJ]];let(v,rfl,a):=cA h;calc .inr #[_,by rw[a.str],hp.1,k _ hp.2 _ H 41 #[I,bJ]];calc hp.elim
def ON(ts:List T)(q:Rt->Prop):Prop:=match ts with
 |[.lst l]=>q (.fr (.lst l))
 |[.tup l]=>q (.fr (.lst l))
 |_=>False
def kf:i5 K (λxs H Q=>∃p ys,xs=[.ref p]/\(f_ K H p ys\/dO K H p ys)/\∀l,H l=none->Q (.ref l) (upd H l (.lst ys))) ON:=by intro Z tm O ρ σ H ts vs q Q I h hp k;unfold ON at hp;split at hp;let(v,rfl,a):=cA h;let(p,ws,rfl,q1,q2):=a.lst;calc#[p,ws,9,.inl q1,λl hl=>k _ hp _ _ (aG hl) (I.wZ hl q2)];let(v,rfl,a):=cA h;let(p,ws,rfl,q1,q2):=a.tup;calc#[p,ws,9,.inr q1,λl hl=>k _ hp _ _ (aG hl) (I.wZ hl q2)];calc hp.elim
def Gw(ts:List T)(q:Rt->Prop):Prop:=match ts with
 |[.lst l]=>q (.vw (.tup l))
 |[.tup l]=>q (.vw (.tup l))
 |_=>False
def mY:i5 K (λxs H Q=>∃p ys,xs=[.ref p]/\((f_ K H p ys/\∀l,H l=none->Q (.ref l) (upd H l (.tup ys)))\/(dO K H p ys/\Q (.ref p) H))) Gw:=by intro Z tm O ρ σ H ts vs q Q I h hp k;unfold Gw at hp;split at hp;let(v,rfl,a):=cA h;let(p,ws,rfl,q1,q2):=a.lst;calc#[p,ws,9,.inl #[q1,λl hl=>k _ hp _ _ (aG hl) #[I.same (aG hl),dm (dO.of aA) (q2.same (aG hl))]]];let(v,rfl,a):=cA h;let(p,ws,rfl,q1,q2):=a.tup;calc#[p,ws,9,.inr #[q1,k _ hp _ H 41 #[I,dm q1 q2]]];calc hp.elim
structure LR where
 nx:En->Prop
 rt:En->Rt->Prop
 bk:En->Prop:=λ_=>False
 ct:En->Prop:=λ_=>False
structure Fin(K:qaf)(Z:Zc)(tm:List (T×V))(d:LR)(D:Ends):Prop where
 nx:∀O ρ σ H,az K Z tm O ρ σ H->d.nx ρ->D.nx σ H
 rt:∀O ρ σ H r v,iI K Z tm O ρ σ H r v->d.rt ρ r->D.rt v H
 bk:∀O ρ σ H,az K Z tm O ρ σ H->d.bk ρ->D.bk σ H
 ct:∀O ρ σ H,az K Z tm O ρ σ H->d.ct ρ->D.ct σ H
abbrev FS:=LR->En->Prop
def lS(X:Cx)(Z:Zc)(tm:List (T×V))(g:FS):TS:=λD σ H=>E3 λρ O d=>az X.K Z tm O ρ σ H/\g d ρ/\Fin X.K Z tm d D
def VS(X:Cx)(Z:Zc)(st:Stmt)(g:FS):Prop:=Bx λtm=>PS X st (lS X Z tm g)
instance{X:Cx}{Z:Zc}{st:Stmt}{g:FS}:CoeFun (VS X Z st g) λ_=>∀tm,PS X st (lS X Z tm g):=#[λh=>Bx.h h]
def iQ(X:Cx)(Z:Zc)(st:qaq)(g:FS):Prop:=Bx λtm=>jT X st (lS X Z tm g)
instance{X:Cx}{Z:Zc}{st:qaq}{g:FS}:CoeFun (iQ X Z st g) λ_=>∀tm,jT X st (lS X Z tm g):=#[λh=>Bx.h h]
def aZ(Z:Zc)(i:Nat):Prop:=∀p∈Z.P,p.1≠i
section
variable{Z:Zc}{st:Stmt}{g u:FS}{pos:Pos}
def V8:FS:=λd ρ=>d.nx ρ
def V9(g u:FS):FS:=λd ρ=>g {d with nx:=u d} ρ
def aM:iQ X Z [] V8:=.mk λtm=>jT.kN Bh λD σ H #[ρ,O,d,I,h,F]=>F.nx O ρ σ H I h
def ah(h1:VS X Z st g)(h2:iQ X Z rest u):iQ X Z (st::rest) (V9 g u):=.mk λtm=>jT.kN (iT (h1 tm) (h2 tm)) λD σ H #[ρ,O,d,I,h,F] =>
 #[ρ,O,{d with nx:=u d},I,h,#[λO' ρ' σ' H' I' h'=>#[ρ',O',d,I',h',F],F.rt,F.bk,F.ct]]
def ak(h1:VS X Z st g):iQ X Z [st] g:=.mk λtm=>kH (h1 tm)
def iQ.weak(h:iQ X Z rest g)(hw:∀d ρ,u d ρ->g d ρ):iQ X Z rest u:=.mk λtm=>jT.kN (h tm) λD σ H #[ρ,O,d,I,q,F]=>#[ρ,O,d,I,hw d ρ q,F]
def V_(f:FX):FS:=λd ρ=>f ρ λρ' _=>d.nx ρ'
def br{f:FX}(h:VX X Z e f)(hs:swapsWith e none pos.line 3=pure false:=by rfl):VS X Z (.Expr e pos) (V_ f):=.mk λtm=>PS.weak (K6 (h tm) hs) λD σ H #[ρ,O,d,I,q,F] =>
 #[ρ,O,_,I,q,λρ' r hr O' v H' z=>F.nx O' ρ' σ H' z.env hr]
def adq(f:FX):FS:=λd ρ=>f ρ λρ' r=>d.rt ρ' r
def aL{f:FX}(h:VX X Z e f):VS X Z (.Return (some e) pos) (adq f):=.mk λtm=>PS.weak (y8 (h tm)) λD σ H #[ρ,O,d,I,q,F] =>
 #[ρ,O,_,I,q,λρ' r hr O' v H' z=>F.rt O' ρ' σ H' r v z hr]
def gIf(c:FB)(g u:FS):FS:=λd ρ=>c ρ λb=>if b=true then g d ρ else u d ρ
def bb{fc:FB}{a b:qaq}(hc:VC X Z c fc)(ha:iQ X Z a g)(hb:iQ X Z b u):VS X Z (.If c a b pos) (gIf fc g u):=.mk λtm=>PS.weak (Ov (hc tm) (ha tm) (hb tm)) λD σ H #[ρ,O,d,I,q,F] =>
 #[ρ,O,_,I,q,λb hb H' s=>by
  cases b with
  |true=>rw[ι 9] at hb ⊢;calc#[ρ,O,d,I.same s,hb,F]
  |false=>rw[θ jq] at hb ⊢;calc#[ρ,O,d,I.same s,hb,F]]
def Rh(i:Nat)(f:FX):FS:=λd ρ=>f ρ λρ' r=>d.nx (ρ'.set i (some (r.t,false)))
def ads(i:Nat)(f:FX):FS:=λd ρ=>f ρ λρ' r=>match r with
 |.fr t=>d.nx (ρ'.set i (some (t,true)))
 |_=>False
def aF{f:FX}(hN:X.N.Nodup)(hi:X.N[i]?\x)(hx:Loc 29 x)(he:VX X Z e f)(hp:aZ Z i)(hs:swapsWith e (some (.Name x pos')) pos.line 3=pure false:=by rfl)(hf:X.fn x=true\/X.env.scope.names.lookup x\.local:=by first|calc .inl rfl|calc .inr rfl|assumption):VS X Z (.Assign [.Name x pos'] e pos) (Rh i f):=.mk λtm=>PS.weak (tf hN hi hx (he tm) hs hf) λD σ H #[ρ,O,d,I,q,F] =>
 #[ρ,O,_,I,q,λρ' r hr O' v H' z=>F.nx _ _ _ H' (z.env.put hp z.at) hr]
def cN{f:FX}(hN:X.N.Nodup)(hi:X.N[i]?\x)(hx:Loc 29 x)(he:VX X Z e f)(hp:aZ Z i)(hs:swapsWith e (some (.Name x pos')) pos.line 3=pure false:=by rfl)(hf:X.fn x=true\/X.env.scope.names.lookup x\.local:=by first|calc .inl rfl|calc .inr rfl|assumption):VS X Z (.Assign [.Name x pos'] e pos) (ads i f):=.mk λtm=>PS.weak (tf hN hi hx (he tm) hs hf) λD σ H #[ρ,O,d,I,q,F] =>
 #[ρ,O,_,I,q,λρ' r hr O' v H' z=>by split at hr;let(a,rfl,J,hR,h0,T4):=z;calc F.nx _ _ _ H' (J.QZ hp hR h0 T4) hr;calc hr.elim]
def V'(i:Nat)(f:FE)(p:T->T->(Rt->Prop)->Prop):FS:=λd ρ=>match ρ[i]? with
 |some (some (x,false))=>f ρ λy=>p x y λr=>d.nx (ρ.set i (some (r.t,false)))
 |_=>False
def tR{f:FE}{op:Operator}{r:R2}{p:T->T->(Rt->Prop)->Prop}(hN:X.N.Nodup)(hi:X.N[i]?\x)(hx:Loc 29 x)(he:VR X Z e f)(ho:fm X (inplaceOp op) r)(ht:nS X.K r p)(hp:aZ Z i)(hf:X.fn x=true\/X.env.scope.names.lookup x\.local:=by first|calc .inl rfl|calc .inr rfl|assumption):VS X Z (.AugAssign (.Name x pos') op e pos) (V' i f p):=.mk λtm=>PS.weak (Qs hN hi hx (he tm) ho hf) λD σ H #[ρ,O,d,I,q,F]=>by
 unfold V' at q;split at q
 rename_i t e0
 let(o,s,h1,h2,rfl,v,rfl,h3):=I.sl i _ e0;calc#[v,h2,ρ,O,_,I,q,λy hy w H1 s1 a1=>ht Z tm O ρ σ H1 t y v w _ _ (I.same s1) (.inl (h3.same s1)) a1 hy λr hr z H2 s2 k=>F.nx _ _ _ H2 (k.env.put hp k.at) hr];calc q.elim
def adt(is:qao)(g:FS):FS:=λd ρ=>g d (is.foldl (λρ i=>match ρ[i]? with
 |some (some (t,true))=>ρ.set i (some (t,false))
 |_=>ρ) ρ)
theorem oW{K:qaf}{tm:List (T×V)}:∀(is:qao){O:HD}{ρ:En}{σ:St}{H:Hp},(∀i∈is,aZ Z i)->az K Z tm O ρ σ H->∃O',az K Z tm O' (is.foldl (λρ i=>match ρ[i]? with
 |some (some (t,true))=>ρ.set i (some (t,false))
 |_=>ρ) ρ) σ H
 |[],O,ρ,σ,H,_,I=>#[O,I]
 |i::is,O,ρ,σ,H,hp,I=>by
  rw[Fp];have VZ:=λj hj=>hp j (fZ _ hj);split
  rename_i t e
  calc oW is VZ (I.f7 (hp i d_) e);calc oW is VZ I
def LS(is:qao)(h:iQ X Z rest g)(hp:∀i∈is,aZ Z i):iQ X Z rest (adt is g):=.mk λtm=>jT.kN (h tm) λD σ H #[ρ,O,d,I,q,F]=>let #[O',I']:=oW is hp I;#[_,O',d,I',q,F]
end
section
variable{Z:Zc}{a:Expr}{pos:Pos}
def az.root{tm:List (T×V)}{ρ:En}(I:az K Z tm O ρ σ H){k:Nat}{t:T}(e:ρ[k]?\some (t,true)):∃a,O[k]?\some a/\σ[k]?\some (.ref a)/\c0 K H (av Z O) a t:=by let(o,s,h1,h2,a,rfl,rfl,h3):=I.sl k _ e;calc#[a,h1,h2,h3]
def Bt(k:Nat)(g:FA)(p:List T->List T->(List T->T->Prop)->Prop):FX:=λρ Q=>match ρ[k]? with
 |some (some (.lst ts,true))=>g ρ λvs=>p ts vs λhU r=>Q (ρ.set k (some (.lst hU,true))) (.vw r)
 |_=>False
def Wa(K:qaf)(r:V->qak->Hp->VK->Prop)(p:List T->List T->(List T->T->Prop)->Prop):Prop :=
 ∀(H:Hp)(A:zm)(l:Addr)(xs:qak)(ts us:List T)(vs:qak)(q:List T->T->Prop)(Q:VK),l∈A->H l\.lst xs->aB K H A ts xs->aB K H A us vs->p ts us q ->
  (∀hU t,q hU t->∀Zk v,aB K H A hU Zk->At K H A t v->Q v (upd H l (.lst Zk)))->r (.ref l) vs H Q
def Bu{r:V->qak->Hp->VK->Prop}{p:List T->List T->(List T->T->Prop)->Prop}(hm:Wa X.K r p){k:Nat}{g:FA}{tm:List (T×V)}{Q:VK}(h:lX X Z tm (Bt k g p) σ H Q) :
  ∃l,σ[k]?\some (.ref l)/\(∃xs,f_ X.K H l xs)/\lA X Z tm g σ H λvs H1=>r (.ref l) vs H1 Q:=by
 let(ρ,O,q,I,hf,kk):=h;unfold Bt at hf;split at hf
 rename_i ts e0
 let(l,h1,h2,xs,h3,h4):=I.root e0;show#[l,h2,#[xs,f_.of h3],ρ,O,_,I,hf,λus hus vs H1 s1 a1=>?_];have J:=I.same s1;have ha:l∈av Z O:=fW _ (aC.mpr (dX h1));calc hm H1 (av Z O) l xs ts us vs _ Q ha (s1 _ _ h3) (h4.same s1) a1 hus λhU t ht Zk v b1 b2=>kk _ _ ht O _ _ #[J.wrote e0 h1 #[Zk,aA,b1.wrote ha (s1 _ _ h3) 9],b2.wrote ha (s1 _ _ h3) 9];calc hf.elim
def cR(k:Nat){name:Str}{id:String}{g:FA}{r:V->qak->Hp->VK->Prop}{pp:List T->List T->(List T->T->Prop)->Prop}(slot:Slot "list" name id)(QS:typeOf (.builtin id)=pure (.type "method_descriptor"))(hm:OB X id r)(ht:Wa X.K r pp)(ha:VA X Z (e::es) g)(hN:X.N[k]?\x:=by rfl)(hv:lN 29 x:=by calc jvv 9)(hd:fY x:=by decide)(f9:qy x:=by decide)(dC:attributeBase 51 name 3 (eval 51 3)=eval 51 3:=by rfl)(zz:((backTo bF (starEach (e::es) 3)).all (λx=>!x.1) && (backToKw bF (keywordEach [] 3)).all (λx=>x.1.isSome)
    && decide ((e::es).length+([]:List Keyword).length+(if ([]:List Keyword).isEmpty then 0 else 1)<30))=true:=by rfl)(dD:(apos.endLine==bF.line)=true:=by rfl)(hs:starEach (e::es) 3=(false,eval e 3)::starEach es 3:=by rfl)(ka:(backTo bF (starEach es 3)).any (·.1)=false:=by rfl) :
  VX X Z (.Call (.Attribute 51 name apos) (e::es) [] bF) (Bt k g pp):=.mk λtm=>
 PE.weak (FZ PySem.F.plainAttrs_list slot QS hm (cc hN hv hd f9) (ha tm) dC zz dD hs ka) λσ H Q h=>
  let #[l,h1,h2,h3]:=Bu ht h;#[.ref l,h1,.inl #[9,h2],h3]
def Gx(k:Nat){name:Str}{id:String}{r:V->qak->Hp->VK->Prop}{pp:List T->List T->(List T->T->Prop)->Prop}(slot:Slot "list" name id)(QS:typeOf (.builtin id)=pure (.type "method_descriptor"))(hm:OB X id r)(ht:Wa X.K r pp)(hN:X.N[k]?\x:=by rfl)(hv:lN 29 x:=by calc jvv 9)(hd:fY x:=by decide)(f9:qy x:=by decide)(dC:attributeBase 51 name 3 (eval 51 3)=eval 51 3:=by rfl)(dD:(apos.endLine==bF.line)=true:=by rfl):VX X Z (.Call (.Attribute 51 name apos) [] [] bF) (Bt k l7 pp):=.mk λtm=>
 PE.weak (zy PySem.F.plainAttrs_list slot QS hm (cc hN hv hd f9) dC dD) λσ H Q h=>by let(l,h1,h2,ρ,O,q,I,hf,kk):=Bu ht h;calc#[.ref l,h1,.inl #[9,h2],kk [] hf [] H 41 aB.nil]
def Bv(ts us:List T)(q:List T->T->Prop):Prop:=match us with
 |[t]=>19<sizeLine/\q (ts++[t]) .bO
 |_=>False
def aQ:Wa K Bp Bv:=by intro H A l xs ts us vs q Q hl hH h1 h2 hp k;unfold Bv at hp;split at hp;let(v,rfl,a):=cA (aB.iff.mp h2);calc#[l,xs,v,9,9,hH,by rw[h1.length];calc hp.1,k _ _ hp.2 _ _ (h1.append (aB.cons a aB.nil)) tO];calc hp.elim
def adu(ts us:List T)(q:List T->T->Prop):Prop:=us=[]/\∃t,ts[19-1]?\t/\q ts.dropLast t
def aB.dropLast{A:zm}{ts:List T}(h:aB K H A ts vs):aB K H A ts.dropLast vs.dropLast:=by rw[List.dropLast_eq_take,List.dropLast_eq_take,h.length];calc h.take _
def Bw:Wa K Vr adu:=by
 intro H A l xs ts us vs q Q hl hH h1 h2 hp k;let(rfl,t,e1,hq):=hp;have e:vs=[]:=by simpa only[aB] using h2
 let(v,e2,a):=h1.get e1;calc#[l,xs,v,9,e,hH,by rw[h1.length];calc e2,k _ _ hq _ _ h1.dropLast a]
def OQ(k:Nat)(f fi:FE):FS:=λd ρ=>match ρ[k]? with
 |some (some (.lst ts,true))=>f ρ λv=>fi ρ λi=>match i with
  |.int j=>∃n,yV 19 j\n/\d.nx (ρ.set k (some (.lst (ts.set n v),true)))
  |_=>False
 |_=>False
def eS(k:Nat){f fi:FE}{i:Expr}(he:VE X Z e f)(hi:VR X Z i fi)(hN:X.N[k]?\x:=by rfl)(hv:lN 29 x:=by calc jvv 9)(hd:fY x:=by decide)(f9:qy x:=by decide)(ha:∀v,assign (.Subscript 51 i dj) 3 v=(do
    let ov <- holding [v] (eval (.Name x p) X.env)
    let iv <- holding [v,ov] (eval i X.env)
    standAt dj
    holding [v,ov,iv] (setItem ov iv v)
    release [v,ov,iv] []):=by intro _;rfl)(hs:swapsWithSole [.Subscript 51 i dj] e pos.line 3=pure false:=by rfl)(hw:swappedStores [.Subscript 51 i dj] e 3=pure none:=by rfl)(h1:(assignEach [.Subscript 51 i dj] 3).map (·.2)=[assign (.Subscript 51 i dj) 3]:=by rfl):VS X Z (.Assign [.Subscript 51 i dj] e pos) (OQ k f fi):=.mk λtm=>
 PS.weak (y9 (he tm) (Qr (cc hN hv hd f9) (hi tm) set_list ha) hs hw h1) λD σ H #[ρ,O,d,I,q,F]=>by
  unfold OQ at q;split at q
  rename_i ts e0
  let(l,h1,h2,xs,h3,h4):=I.root e0;have ha:l∈av Z O:=fW _ (aC.mpr (dX h1));show#[ρ,O,_,I,q,λt ht v H1 s1 a1=>#[.ref l,h2,ρ,O,_,I.same s1,ht,λj hj w H2 s2 a2=>?_]];split at hj;let(n,e1,hj):=hj;calc#[l,xs,_,n,9,a2.int,s2 _ _ (s1 _ _ h3),by rw[h4.length];calc e1,F.nx O _ σ _ (((I.same s1).same s2).wrote (t':=.lst (ts.set n t)) e0 h1 #[xs.set n v,aA,aB.wrote ha (s2 _ _ (s1 _ _ h3)) 9 (((h4.same s1).same s2).set n (a1.same s2))]) hj];calc hj.elim;calc q.elim
def az.give{tm:List (T×V)}{ρ:En}(I:az K Z tm O ρ σ H){t:T}(hp:aZ Z i)(hi:ρ[i]?\some (t,true)):∃a,σ[i]?\some (.ref a)/\iI K Z tm (O.set i none) (ρ.set i none) σ H (.fr t) (.ref a):=by
 let(a,h1,h2,h3):=I.root hi;have ha:=aC.mpr (dX h1);let(o1,o2,o3):=I.own a ha;have J:=I.forget hp;have J2:=I.f7 hp hi;have na:a∉roots (O.set i none):=λz=>by
  let(o,s,g1,g2,g3,v,g4,g5):=J2.sl i (some (t,false)) (by rw[EU (by rw[<- I.lO];calc (dA.mp h1).1)]);rw[h2] at g2;cases g2;cases g4;have nn:a∉av Z (O.set i none):=by
   cases t with
   |lst ts=>
    simp only[At] at g5;let(b,vs,eb,l,_):=g5;cases eb;obtain l|⟨oo,_,_,lk,_⟩:=l
    calc l.2;exact λz2=>by
     have key:∀O i,O[i]?\some a->(roots O).Nodup->a∉roots (O.set i none):=by
      intro O;induction O with
      |nil=>intro i h;simp at h
      |cons o O ih=>
       intro i h nd;cases i with
       |zero=>
        have:o\a:=by simpa using h
        subst this;calc (ou.mp nd).1
       |succ i=>
        have h':O[i]?\some a:=by simpa using h
        cases o with
        |none=>simp only[roots,TL,rp,id] at nd ⊢;calc ih i h' nd
        |some b=>
         simp only[roots,TL,rp,id] at nd ⊢;rw[ou] at nd;intro z;rcases cT.mp z with z|z
         calc nd.1 (by rw[<- z];calc aC.mpr (dX h'));exact ih i h' nd.2 z
     rcases fu.mp z2 with z2|z2
     calc key O i h1 I.nd z2;calc o2 z2
   |dk ks ts=>simp only[At] at g5;let(b,vs,eb,_,d,_):=g5;cases eb;calc d.2
   |dt ks ts=>simp only[At] at g5;let(b,vs,eb,_,d,_):=g5;cases eb;calc d.2
   |ins C ns ts=>simp only[At] at g5;let(b,dx,vs,eb,_,d,_):=g5;cases eb;calc d.2
   |_=>exact h3.elim
  exact nn (fW _ z)
 have hP:Z.H0 a=none:=by
  obtain z|z:=o1
  let(p,hpm,rfl):=gH.mp z;have:=J.par p hpm;calc absurd (aC.mpr (dX this)) na;exact z
 have sub:∀b∈av (Z.ex a) (O.set i none),b∈av Z O:=λb hb=>by
  rcases cU b hb with z|z
  calc bU i b z;rw[z];exact fW _ ha
 show#[a,h2,a,9,#[J.lσ,J.lO,λj e h=>?_,J.nd,λb hb=>?_,J.par,λb hb=>?_,J.keep,λp hp=>(I.ku p hp).bq sub],h3.bq sub,hP,o2];rcases get_set h with⟨rfl,rfl,hl⟩|⟨ne,h⟩
 let(o,s,g1,g2,g3):=J.sl j none (by rw[EU hl]);calc#[o,s,g1,g2,g3];let(o,s,g1,g2,g3):=I.sl j e h;calc#[o,s,by rw[wm (Ne.symm ne)];calc g1,g2,g3.map (λ_ _ q=>q.bq sub) λ_ _ _ q=>q.bq sub];let(q1,q2,q3):=J.own b hb;show#[q1,λz=>?_,q3];rcases cT.mp z with z|z
 calc na (by rw[<- z];calc hb);calc q2 z;rcases cT.mp hb with z|z
 let(u,eu,_):=o3;rw[z,eu];simp;calc I.ox b z
def OR(i:Nat):FX:=λρ Q=>match ρ[i]? with
 |some (some (t,true))=>Q (ρ.set i none) (.fr t)
 |some (some (t,false))=>Q ρ (.vw t)
 |_=>False
def gc(i:Nat)(hp:aZ Z i)(hN:X.N[i]?\x:=by rfl)(hv:lN 29 x:=by calc jvv 9)(hd:fY x:=by decide)(f9:qy x:=by decide):VX X Z (.Name x pos) (OR i):=.mk λtm=>PE.weak (cc hN hv hd f9) λσ H Q #[ρ,O,q,I,hf,k]=>by
 unfold OR at hf;split at hf
 rename_i t e
 let(a,h1,h2):=I.give hp e;exact#[_,h1,k _ _ hf _ _ H h2]
 rename_i t e
 let(o,s,h1,h2,rfl,v,rfl,h3):=I.sl i _ e;calc#[v,h2,k _ _ hf O v H #[I,h3]];calc hf.elim
end
def az.qQ{Z:Zc}{tm tm':List (T×V)}{ρ:En}(I:az K Z tm O ρ σ H)(h:∀p∈tm',At K H (av Z O) p.1 p.2):az K Z tm' O ρ σ H :=
 #[I.lσ,I.lO,I.sl,I.nd,I.own,I.par,I.ox,I.keep,h]
def iI.qQ{Z:Zc}{bj tm:List (T×V)}{ρ:En}{r:Rt}(h:iI K Z (bj++tm) O ρ σ H r v):iI K Z tm O ρ σ H r v:=by
 cases r with
 |vw t=>calc#[h.1.qQ λp hp=>h.1.ku p (gE _ hp),h.2]
 |fr t=>let(a,e,I,q):=h;calc#[a,e,I.qQ λp hp=>I.ku p (gE _ hp),q]
def Wk(K:qaf)(J:It)(bj:List (T×V))(ts:List T):Prop:=∀H A,(∀a∈A,H a≠none)->(∀p∈bj,At K H A p.1 p.2)->∀i:Nat,
 (i<19->J.go i H)/\(19=i->J.stop i H)/\∀t,ts[i]?\t->∀x H',J.TX i H x H'->aO H H'/\At K H' A t x
abbrev FI:=En->(List T->Prop)->Prop
def lI(X:Cx)(Z:Zc)(tm:List (T×V))(f:FI):TI:=λσ H R=>E3 λρ O q=>az X.K Z tm O ρ σ H/\f ρ q/\∀ts,q ts->∀J H' bj,aO H H'->(∀p∈bj,At X.K H' (av Z O) p.1 p.2)->Wk X.K J bj ts->R J H'
def VI(X:Cx)(Z:Zc)(tg iter:Expr)(f:FI):Prop:=Bx λtm=>PI X tg iter (lI X Z tm f)
instance{X:Cx}{Z:Zc}{tg iter:Expr}{f:FI}:CoeFun (VI X Z tg iter f) λ_=>∀tm,PI X tg iter (lI X Z tm f):=#[λh=>Bx.h h]
def PI.weak{tg:Expr}{t t':TI}(h:PI X tg e t)(hw:∀σ H R,t' σ H R->t σ H R):PI X tg e t':=λε s σ H R I q=>h ε s σ H R I (hw _ _ _ q)
def PG.weak{tg:Expr}{t t':TG}(h:PG X tg t)(hw:∀v σ H Q,t' v σ H Q->t v σ H Q):PG X tg t':=λε s σ H v u Q I r q=>h ε s σ H v u Q I r (hw _ _ _ _ q)
def Fy.weak{tg:qap}{t t':K7}(h:Fy X tg t)(hw:∀v σ H Q,t' v σ H Q->t v σ H Q):Fy X tg t':=λε s σ H v u Q I r q=>h ε s σ H v u Q I r (hw _ _ _ _ q)
def Wb(K:qaf)(tl:TE):TI:=λσ H R=>tl σ H λx H1=>(∃a,x=.ref a/\(∃xs,f_ K H1 a xs)/\R (Itl K a) H1)\/(∃a,x=.ref a/\(∃xs,dO K H1 a xs)/\R (Itt K a) H1)\/∃z,x=.str z/\R (Zi z) H1
section
variable{Z:Zc}{tg:Expr}
def zJ{l:Expr}{tl:TE}(hl:PE X l tl):PI X tg l (Wb X.K tl):=by
 intro ε s σ H R I h;show cy (hl ε s σ H _ I h) λv s1 #[x,H1,I1,r1,q1]=>?_;obtain⟨a,e,hq,q⟩|⟨a,e,hq,q⟩|⟨z,e,q⟩:=q1
 subst e;cases r1;let(xs,hq):=hq;let(aP,rv,p,hz):=I1.list hq;show aav p.isList #[52,[52],_,_,H1,9,I1.kept λb o e=>de _ e,C6 a _,#[_,hW _ 9,9,9],λb hb=>?_,q];have e:b=52:=by simpa using hb
 subst e;calc I1.nC (cD _) (I1.bB.fresh (cD _));subst e;cases r1;let(xs,hq):=hq;let(aP,rv,p,hz):=I1.tuple hq;show wpAny_pyIter_tuple (show s1.heap.IsTuple a aP.toArray from p) #[52,[52],_,_,H1,9,I1.kept λb o e=>de _ e,y_ a _,#[_,hW _ 9,9,9],λb hb=>?_,q];have e:b=52:=by simpa using hb
 subst e;calc I1.nC (cD _) (I1.bB.fresh (cD _));subst e;let(t,rfl):=r1;show wpAny_pyIter_strU ?_;have I2:Inv X ε σ H1 {s1 with heap:=s1.heap.push {cls:=.type (strIterType z),data:=.fields ([.str z t,.int 0 0].toArray)} }:=I1.kept λb o e=>de _ e;show#[52,[52],_,_,H1,9,I2,Ga z t _,#[_,hW _ 9,9,9],λb hb=>?_,q];have e:b=52:=by simpa using hb
 subst e;calc I1.nC (cD _) I1.fresh
def adv(f:FE):FI:=λρ Q=>f ρ λt=>match t with
 |.lst ts=>Q ts
 |.tup ts=>Q ts
 |.str z=>Q (z.cps.toList.map λc=>.str #[([c].toArray)])
 |_=>False
theorem tS{ts:List T}:Wk K (Itl K a) [(.lst ts,.ref a)] ts:=λH A hA h i=>by have h:=h _ d_;let(b,vs,e,l,q):=h;cases e;have hl:=q.length;show#[λhi=>#[vs,vs[i]'(),l.sq,by simp],λhi=>#[vs,l.sq,()],λt ht x H' y=>?_];let(rfl,y):=y;let(v,e1,e2):=q.get ht;have:=y vs l.sq;rw[e1] at this;cases this;calc#[aO.refl _,e2]
theorem Ri{ts:List T}:Wk K (Itt K a) [(.tup ts,.ref a)] ts:=λH A hA h i=>by have h:=h _ d_;let(b,vs,e,l,q):=h;cases e;have hl:=q.length;show#[λhi=>#[vs,vs[i]'(),l,by simp],λhi=>#[vs,l,()],λt ht x H' y=>?_];let(rfl,y):=y;let(v,e1,e2):=q.get ht;have:=y vs l;rw[e1] at this;cases this;calc#[aO.refl _,e2]
def Rj{z:Str}:Wk K (Zi z) [] (z.cps.toList.map λc=>T.str #[([c].toArray)]):=λH A hA h i=>by show#[λhi=>by rw[bN,KH] at hi;calc hi,λhi=>by rw[bN,KH] at hi;calc Nat.le_of_eq hi,λt ht x H' y=>?_];let(rfl,c,hc,rfl):=y;rw[dQ,EV,hc] at ht;cases ht;calc#[aO.refl _,eR]
def dq{l:Expr}{f:FE}(h:VE X Z l f):VI X Z tg l (adv f):=.mk λtm=>PI.weak (zJ (h tm)) λσ H R #[ρ,O,q,I,hf,k]=>#[ρ,O,_,I,hf,λt ht v H' s a=>by split at ht;have a0:=a;let(p,vs,rfl,l,_):=a;calc .inl #[p,9,#[vs,l.sq],k _ ht _ H' _ s (λp hp=>by rw[f6.mp hp];calc a0) tS];have a0:=a;let(p,vs,rfl,l,_):=a;calc .inr (.inl #[p,9,#[vs,l],k _ ht _ H' _ s (λp hp=>by rw[f6.mp hp];calc a0) Ri]);have e:=a;calc .inr (.inr #[_,e,k _ ht _ H' [] s (λp hp=>nomatch hp) Rj]);calc ht.elim]
def rangeT(lo:Int)(n:Nat):List T:=(List.range n).map λi=>T.int (lo+((i:Nat):Int))
theorem Gy{lo:Int}:Wk K (Y' lo n) [] (rangeT lo n):=λH A hA h i=>by
 unfold rangeT;show#[λhi=>by rw[bN,sV] at hi;calc hi,λhi=>by rw[bN,sV] at hi;calc Nat.le_of_eq hi,λt ht x H' y=>?_];let(rfl,rfl):=y;rw[dQ] at ht;cases e:(List.range n)[i]? with
 |none=>rw[e] at ht;cases ht
 |some j=>
  rw[e] at ht;have hj:j=i:=by have:=dA.mp e;let(h1,h2):=this;simpa using h2.symm
  subst hj;cases ht;calc#[aO.refl _,bJ]
def pR1(ts:List T)(Q:List T->Prop):Prop:=match ts with
 |[.int j]=>-(2 ^ 62)<=j/\j<2 ^ 62/\Q (rangeT 0 j.toNat)
 |_=>False
def Rk(g:FA)(p:List T->(List T->Prop)->Prop):FI:=λρ Q=>g ρ λts=>p ts Q
def dw{a:Expr}{g:FE}{pos:Pos}(hg:Gl X "range")(hm:X.mg "range"=none)(ha:VR X Z a g)(hs:starEach [a] 3=[(false,eval a 3)]:=by rfl) :
  VI X Z tg (.Call (.Name "range" p) [a] [] pos) (Rk (cJ g l7) pR1):=.mk λtm=>PI.weak (C7 hg hm ((aK ha aS hs) tm) hs) λσ H R #[ρ,O,q,I,hf,k]=>#[ρ,O,_,I,hf,λts gF vs H' s a=>by
 unfold pR1 at gF;split at gF;let(v,rfl,a1):=cA a;calc#[_,by rw[a1.int],gF.1,gF.2.1,k _ gF.2.2 _ H' [] s (λp hp=>nomatch hp) Gy];calc gF.elim]
abbrev FG:=T->En->(En->Prop)->Prop
abbrev LU:=List T->En->(En->Prop)->Prop
def lG(X:Cx)(Z:Zc)(tm:List (T×V))(is:qao)(h:FG):TG:=λv σ H Q=>E4 λρ O t q=>az X.K Z tm O ρ σ H/\At X.K H (av Z O) t v/\h t ρ q/\∀ρ',q ρ'->∀O' σ',az X.K Z tm O' ρ' σ' H->(∀a∈roots O',a∈roots O)->(∀(j:Nat),j∉is->O'[j]?=O[j]?)->σ'.length=σ.length->(∀(j:Nat),j∉is->σ'[j]?=σ[j]?)->Q σ' H
def lGs(X:Cx)(Z:Zc)(tm:List (T×V))(is:qao)(h:LU):K7:=λvs σ H Q=>E4 λρ O ts q=>az X.K Z tm O ρ σ H/\aB X.K H (av Z O) ts vs/\h ts ρ q/\∀ρ',q ρ'->∀O' σ',az X.K Z tm O' ρ' σ' H->(∀a∈roots O',a∈roots O)->(∀(j:Nat),j∉is->O'[j]?=O[j]?)->σ'.length=σ.length->(∀(j:Nat),j∉is->σ'[j]?=σ[j]?)->Q σ' H
def VG(X:Cx)(Z:Zc)(tg:Expr)(is:qao)(h:FG):Prop:=Bx λtm=>PG X tg (lG X Z tm is h)
instance{X:Cx}{Z:Zc}{tg:Expr}{is:qao}{h:FG}:CoeFun (VG X Z tg is h) λ_=>∀tm,PG X tg (lG X Z tm is h):=#[λh=>Bx.h h]
def Wc(X:Cx)(Z:Zc)(Zl:qap)(is:qao)(h:LU):Prop:=Bx λtm=>Fy X Zl (lGs X Z tm is h)
instance{X:Cx}{Z:Zc}{Zl:qap}{is:qao}{h:LU}:CoeFun (Wc X Z Zl is h) λ_=>∀tm,Fy X Zl (lGs X Z tm is h):=#[λh=>Bx.h h]
def hName(i:Nat):FG:=λt ρ Q=>Q (ρ.set i (some (t,false)))
def ay{pos:Pos}(hN:X.N.Nodup)(hi:X.N[i]?\x)(hx:Loc 29 x)(hp:aZ Z i)(hf:X.fn x=true\/X.env.scope.names.lookup x\.local:=by first|calc .inl rfl|calc .inr rfl|assumption) :
  VG X Z (.Name x pos) [i] (hName i):=.mk λtm=>PG.weak (s_ hN hi hx hf) λv σ H Q #[ρ,O,t,q,I,a,h,k] =>
 k _ h _ _ (I.put hp a) (bT i) (λj hj=>wm (λe=>hj (by simp[e]))) 4 λj hj=>wm (λe=>hj (by simp[e]))
def adw:LU:=λts ρ Q=>ts=[]/\Q ρ
def OS(h:FG)(hs:LU):LU:=λts ρ Q=>match ts with
 |t::r=>h t ρ λρ'=>hs r ρ' Q
 |[]=>False
def Wd(n:Nat)(h:LU):FG:=λt ρ Q=>match t with
 |.tup ts=>19=n/\h ts ρ Q
 |_=>False
def b_:Wc X Z [] [] adw:=.mk λtm=>Fy.weak Bi λvs σ H Q #[ρ,O,ts,q,I,a,h,k]=>by
 let(rfl,h):=h;have e:vs=[]:=by simpa only[aB] using a
 calc#[e,k _ h O σ I (λ_ z=>z) (λ_ _=>rfl) 9 λ_ _=>rfl]
def aH{js:qao}{h:FG}{hs:LU}(h1:VG X Z e is h)(h2:Wc X Z es js hs)(hse:(assignEach (e::es) 3).map (·.2)=assign e 3::(assignEach es 3).map (·.2):=by rfl):Wc X Z (e::es) (is++js) (OS h hs):=.mk λtm=>Fy.weak (oB (h1 tm) (h2 tm) hse) λvs σ H Q #[ρ,O,ts,q,I,a,hh,k]=>by
 unfold OS at hh;split at hh;simp only[aB] at a;let(v,r,rfl,a1,a2):=a;show#[v,r,9,ρ,O,_,_,I,a1,hh,λρ' hρ O' σ' I' ro eo l e=>#[ρ',O',_,q,I',a2.bq λb hb=>?_,hρ,λρ2 h2 O2 σ2 I2 ro2 eo2 l2 e2=>k ρ2 h2 O2 σ2 I2 (λa z=>ro a (ro2 a z)) (λj hj=>?_) (l2.trans l) λj hj=>?_]];rcases fu.mp hb with z|z
 calc fW _ (ro b z);calc gE _ z;rw[fu,not_or] at hj;calc (eo2 j hj.2).trans (eo j hj.1);rw[fu,not_or] at hj;calc (e2 j hj.2).trans (e j hj.1);calc hh.elim
def cX{k:Nat}{h:LU}{pos:Pos}(hc:X.calm=true)(hh:Wc X Z es is h)(hn:(assignEach es 3).length=n:=by rfl)(C5:(assignEach es 3).findIdx? (·.1)=none:=by rfl):VG X Z (.Tuple es k pos) is (Wd n h):=.mk λtm=>PG.weak (Fz hc (hh tm) hn C5) λv σ H Q #[ρ,O,t,q,I,a,h',kk]=>by unfold Wd at h';split at h';simp only[At] at a;let(p,vs,rfl,s,a):=a;calc#[p,vs,9,s,a.length.trans h'.1,ρ,O,_,q,I,a,h'.2,kk];calc h'.elim
def adx(f:FE)(h:FG):FS:=λd ρ=>f ρ λt=>h t ρ d.nx
def tT{tg:Expr}{f:FE}{h:FG}{pos:Pos}(he:VE X Z e f)(hg:VG X Z tg is h)(hs:swapsWithSole [tg] e pos.line 3=pure false:=by rfl)(hw:swappedStores [tg] e 3=pure none:=by rfl)(h1:(assignEach [tg] 3).map (·.2)=[assign tg 3]:=by rfl):VS X Z (.Assign [tg] e pos) (adx f h):=.mk λtm=>PS.weak (y9 (he tm) (hg tm) hs hw h1) λD σ H #[ρ,O,d,I,q,F] =>
 #[ρ,O,_,I,q,λt ht v H' s a=>#[ρ,O,t,_,I.same s,a,ht,λρ' hρ O' σ' I' _ _ _ _=>F.nx O' ρ' σ' H' I' hρ]]
def iF(ts:List T)(h:FG)(g:FS):FS:=λd ρ=>∃Pv:Nat->En->Prop,Pv 0 ρ/\(∀(i:Nat) t ρ',ts[i]?\t->Pv i ρ'->h t ρ' λρ2=>g {nx:=Pv (i+1),ct:=Pv (i+1),bk:=d.nx,rt:=d.rt} ρ2)/\∀ρ',Pv 19 ρ'->d.nx ρ'
def ady(f:FI)(h:FG)(g:FS):FS:=λd ρ=>f ρ λts=>iF ts h g d ρ
theorem cg{f:FI}{h:FG}{g:FS}{pos:Pos}(hp:PassesOwn 16 X.A 3 X.xe)(hc:X.calm=true)(hi:VI X Z tg iter f)(hg:VG X Z tg is h)(hb:iQ X Z body g)(hs:∀x,foldedSetIterable iter 3 x=pure x:=by intro _;rfl):VS X Z (.For tg iter body [] pos) (ady f h g):=by
 show .mk λtm ε s σ H D I0 hw=>?_;let(ρ,O,d,I,q,F):=hw;show tq (g:=λv σ H Q=>∃bj,lG X Z (bj++tm) is h v σ H Q) (tb:=λD σ H=>∃bj,lS X Z (bj++tm) g D σ H) hp hc (hi tm) (λε s σ H v u Q I r #[bj,z]=>hg (bj++tm) ε s σ H v u Q I r z) (λε s σ H D I #[bj,z]=>hb (bj++tm) ε s σ H D I z) hs ε s σ H D I0 #[ρ,O,_,I,q,λts gF J H' bj s a wk=>?_];let(Pv,p0,step,fin):=gF;have J0:=(I.same s).qQ λp hp=>by
  rcases fu.mp hp with z|z
  calc a p z;exact (I.same s).ku p z
 show#[λi m σ H=>m=19-i/\i<=19/\E2 λρ O=>az X.K Z (bj++tm) O ρ σ H/\Pv i ρ,#[19,by simp,gJ _,ρ,O,J0,p0],?_];rintro i m σ1 H1 ⟨rfl,hi,ρ1,O1,I1,p1⟩;let(w1,w2,w3):=wk H1 (av Z O1) I1.OD (λp hp=>I1.ku p (fW _ hp)) i;have un:∀{O:HD}{ρ:En}{σ:St}{H:Hp},az X.K Z (bj++tm) O ρ σ H->az X.K Z tm O ρ σ H:=λI=>I.qQ λp hp=>I.ku p (gE _ hp);by_cases dc:i<19;show .inr #[w1 dc,λσ' H'=>E2 λρ O=>az X.K Z (bj++tm) O ρ σ' H'/\Pv (i+1) ρ,λσ' H' #[ρ',O',I',p']=>#[19-(i+1),(),9,dc,ρ',O',I',p'],λx H2 y=>?_];have e:ts[i]?\ts[i]:=by simp[dc]
 let(s2,a2):=w3 ts[i] e x H2 y;calc#[bj,ρ1,O1,ts[i],_,I1.same s2,a2,step i _ ρ1 e p1,λρ2 h2 O2 σ2 I2 _ _ _ _=>#[bj,ρ2,O2,_,I2,h2,#[λO ρ σ H I p=>#[ρ,O,I,p],λO ρ σ H r v z p=>F.rt O ρ σ H r v z.qQ p,λO ρ σ H I p=>F.nx O ρ σ H (un I) p,λO ρ σ H I p=>#[ρ,O,I,p]]]];have e:i=19:=by lia
 subst e;calc .inl #[w2 (9),F.nx O1 ρ1 σ1 H1 (un I1) (fin ρ1 p1)]
def Rl(c:FB)(g:FS):FS:=λd ρ=>∃(Pv:Nat->En->Prop),(∃m,Pv m ρ)/\∀m ρ',Pv m ρ'->c ρ' λb=>if b=true then g {nx:=λρ2=>∃m',m'<m/\Pv m' ρ2,ct:=λρ2=>∃m',m'<m/\Pv m' ρ2,bk:=d.nx,rt:=d.rt} ρ' else d.nx ρ'
theorem xa{fc:FB}{g:FS}{pos:Pos}(hp:PassesOwn 16 X.A 3 X.xe)(hc:VC X Z c fc)(hb:iQ X Z body g):VS X Z (.While c body [] pos) (Rl fc g):=.mk λtm=>PS.weak (oC hp (hc tm) (hb tm)) λD σ H #[ρ,O,d,I,q,F]=>by
 let(Pv,(m0,p0),step):=q;show#[λm σ H=>E2 λρ O=>az X.K Z tm O ρ σ H/\Pv m ρ,#[m0,ρ,O,I,p0],?_];rintro m σ1 H1 ⟨ρ1,O1,I1,p1⟩;show#[ρ1,O1,_,I1,step m ρ1 p1,λb hb H2 s2=>?_];cases b with
 |true=>calc#[λσ' H'=>∃m',m'<m/\E2 λρ O=>az X.K Z tm O ρ σ' H'/\Pv m' ρ,λσ' H' z=>z,ρ1,O1,_,I1.same s2,hb,#[λO ρ σ H I #[m',hm,p]=>#[m',hm,ρ,O,I,p],F.rt,F.nx,λO ρ σ H I #[m',hm,p]=>#[m',hm,ρ,O,I,p]]]
 |false=>calc F.nx O1 ρ1 σ1 H2 (I1.same s2) hb
end
def d4(O:HD)(n:Nat):roots (O++List.replicate n none)=roots O:=by
 unfold roots;rw[List.filterMap_append];have:(List.replicate n (none:qar)).filterMap id=[]:=by
  induction n with
  |zero=>rfl
  |succ n ih=>rw[Kk,rp];exact ih
 rw[this,Bb]
def az.longer{Z:Zc}{tm:List (T×V)}{ρ:En}(I:az K Z tm O ρ σ H)(n:Nat){τ:St}(hτ:τ.length=n) :
  az K Z tm (O++List.replicate n none) (ρ++List.replicate n none) (σ++τ) H:=by
 have ea:av Z (O++List.replicate n none)=av Z O:=by unfold av;rw[d4]
 show#[by simp[I.lσ,hτ],by simp[I.lO],λi e h=>?_,by rw[d4];calc I.nd,λa h=>I.own a (by rw[d4] at h;calc h),λp hp=>?_,I.ox,I.keep,λp hp=>by rw[ea];calc I.ku p hp];rw[ea];by_cases hi:i<ρ.length;rw[nN hi] at h;let(o,s,h1,h2,h3):=I.sl i e h;calc#[o,s,by rw[nN (by rw[I.lO];calc hi)];calc h1,by rw[nN (by rw[I.lσ];calc hi)];calc h2,h3];rw[sU (),Fm] at h;split at h
 rename_i hl
 cases h;show#[none,τ[i-σ.length]'(by rw[I.lσ,hτ];calc hl),?_,?_,9];rw[sU (by rw[I.lO];lia),Fm,ι (by rw[I.lO];calc hl)];rw[sU (by rw[I.lσ];lia)];simp;cases h;have:=I.par p hp;have hl:=(dA.mp this).1;rw[nN hl];calc this
def az.Rm{Z:Zc}{tm:List (T×V)}{ρ:En}{u o:HO}(I:az K (Z.ex a) tm O ρ σ H)(hu:H a\u)(hm:nG u=true)(h0:Z.H0 a=none):az K (Z.ex a) tm O ρ σ (upd H a o):=by
 have EZ:a∈av (Z.ex a) O:=gE _ d_;have nr:∀b∈roots O,b≠a:=λb hb e=>(I.own b hb).2.1 (by rw[e];calc d_);show#[I.lσ,I.lO,λi e h=>?_,I.nd,λb hb=>?_,I.par,λb hb=>?_,λb o' e n=>?_,λp hp=>(I.ku p hp).wrote EZ hu hm];let(o',s,h1,h2,h3):=I.sl i e h;show#[o',s,h1,h2,h3.map (λ_ _ q=>q.wrote EZ hu hm) λb t e q=>?_];subst e;calc q.map (au (nr b (aC.mpr (dX h1)))) λ_ _ z=>z.wrote EZ hu hm;let(q1,q2,v,e,m):=I.own b hb;calc#[q1,q2,v,by rw[au (nr b hb)];calc e,m];by_cases e:b=a;subst e;rw[aA];simp;rw[au e];calc I.ox b hb;have:b≠a:=λe'=>by subst e';have e2:Z.H0 b\o':=e;rw[h0] at e2;cases e2
 rw[au this];calc I.keep b o' e n
def dh(h:FG)(fc:FB)(fe:FE)(ρ:En):List T->(List T->Prop)->Prop
 |[],Q=>Q []
 |t::ts,Q=>h t ρ λρ2=>fc ρ2 λb=>if b=true then fe ρ2 λu=>dh h fc fe ρ ts λus=>Q (u::us) else dh h fc fe ρ ts Q
def By(n:Nat)(is:qao)(f:FI)(h:FG)(fc:FB)(fe:FE):FP:=λρ Q=>(is.all λj=>decide (ρ.length<=j))=true/\f ρ λts=>19<=sizeLine/\dh h fc fe (ρ++List.replicate n none) ts λus=>Q (.fr (.lst us))
def T9(X:Cx)(Z:Zc)(ifs:qap)(f:FB):Prop:=Bx λtm=>F7 X ifs (lB X Z tm f)
instance{X:Cx}{Z:Zc}{ifs:qap}{f:FB}:CoeFun (T9 X Z ifs f) λ_=>∀tm,F7 X ifs (lB X Z tm f):=#[λh=>Bx.h h]
def LV:FB:=λ_ Q=>Q true
def F7.weak{e:qap}{t t':TT}(h:F7 X e t)(hw:∀σ H Q,t' σ H Q->t σ H Q):F7 X e t':=λε s σ H Q I q=>h ε s σ H Q I (hw _ _ _ q)
section
variable{Z:Zc}
def nU:T9 X Z [] LV:=.mk λtm=>F7.weak Lu λσ H Q #[ρ,O,q,I,h,k]=>k true h H 41
def gf{f:FB}(h:VC X Z c f):T9 X Z [c] f:=.mk λtm=>Lv (h tm)
def cG(X:Cx)(Z:Zc)(tm:List (T×V))(is:qao)(h:FG):TG:=λv σ H Q=>E2 λD bj=>lG X (Z.ex D) (bj++tm) is h v σ H Q
def cB(X:Cx)(Z:Zc)(tm:List (T×V))(f:FB):TT:=λσ H Q=>E2 λD bj=>lB X (Z.ex D) (bj++tm) f σ H Q
def cE(X:Cx)(Z:Zc)(tm:List (T×V))(f:FE):TE:=λσ H Q=>E2 λD bj=>lE X (Z.ex D) (bj++tm) f σ H Q
theorem Ro{Z:Zc}{tm bj:List (T×V)}{ρ:En}{H1:Hp}{D:Addr}{J:It}{ts:List T}{h:FG}{fc:FB}{fe:FE}{q:Rt->Prop}{Q:VK}(X:Cx)(hK:X.K=K)(I:az K Z (bj++tm) O ρ σ H1)(hD:H1 D=none)(wk:Wk K J bj ts)(hz:19<=sizeLine)(Zm:∀j∈is,ρ.length<=j)(hw:dh h fc fe (ρ++List.replicate n none) ts λus=>q (.fr (.lst us)))(k:∀r,q r->∀v H',aO H1 H'->iI K Z tm O ρ σ H' r v->Q v H') :
  F8 J (cG X Z tm is h) (cB X Z tm fc) (cE X Z tm fe) n σ D (Q (.ref D)) H1:=by
 subst hK;let(n1,n2,n3):=I.fresh hD;show#[λi m acc H2=>m=19-i/\i<=19/\aO H1 H2/\H2 D\.lst acc/\∃us,aB X.K H2 (av (Z.ex D) O) us acc/\acc.length<=i/\az X.K (Z.ex D) (bj++tm) O ρ σ H2/\dh h fc fe (ρ++List.replicate n none) (ts.drop i) λr=>q (.fr (.lst (us++r))),
  #[19,by simp,gJ _,aG hD,aA,[],aB.nil,gJ _,I.new hD 9,by simpa using hw],?_]
 rintro i m acc H2 ⟨rfl,hi,s2,Zn,us,a2,hl,I2,w2⟩;show#[Zn,?_];let(w1,w2',w3):=wk H2 (av (Z.ex D) O) I2.OD (λp hp=>I2.ku p (fW _ hp)) i;by_cases dc:i<19;show .inr #[w1 dc,(),λx H3 y=>?_];have e:ts[i]?\ts[i]:=by simp[dc]
 let(s3,a3):=w3 ts[i] e x H3 y;rw[Ur dc] at w2;have I3:=(I2.same s3).longer n (τ:=List.replicate n none) 4;have ea:av (Z.ex D) (O++List.replicate n none)=av (Z.ex D) O:=by unfold av;rw[d4]
 show#[D,bj,_,_,ts[i],_,I3,by rw[ea];calc a3,w2,λρ4 hρ4 O4 σ4 I4 ro4 eo4 l4 e4=>#[#[?_,λj v hj=>?_],D,bj,ρ4,O4,_,I4,hρ4,λb hb H5 s5=>?_]];rw[l4];simp;have Zo:=(dA.mp hj).1;have:j∉is:=λz=>by have:=Zm j z;have:=I.lσ;lia
 rw[e4 j this,nN Zo];calc hj;have S5:=(s2.trans s3).trans s5;have J5:=(I2.same s3).same s5;cases b with
 |true=>
   show Vz #[D,bj,ρ4,O4,_,I4.same s5,hb,λu hu y H6 s6 a6=>?_];have hD6:=s6 _ _ (s5 _ _ (s3 _ _ Zn));show#[hD6,19-(i+1),(),9,dc,λb o e=>?_,aA,us++[u],?_,by simp;lia,(J5.same s6).Rm hD6 9 n3,?_];rw[au (bz e hD)];calc s6 _ _ (S5 _ _ e);have EZ:D∈av (Z.ex D) O:=gE _ d_;have a6':At X.K H6 (av (Z.ex D) O) u y:=a6.bq λb hb=>by
    rcases fu.mp hb with z|z
    let(j,hj):=Kj.mp (aC.mp z);have Zo:=(dA.mp hj).1;have nj:j∉is:=λz=>by have:=Zm j z;have:=I.lO;lia
    have:=eo4 j nj;rw[nN Zo,hj] at this;calc fW _ (aC.mpr (dX this));exact gE _ z
   calc aB.wrote EZ hD6 9 ((((a2.same s3).same s5).same s6).append (aB.cons a6' aB.nil));have e2:∀r,(us++[u])++r=us++(u::r):=λr=>by simp
   simp only[e2];calc hu
 |false=>exact Vy #[19-(i+1),(),9,dc,S5,s5 _ _ (s3 _ _ Zn),us,(a2.same s3).same s5,(),J5,hb]
 have e:i=19:=by lia
 subst e;show .inl #[w2' (9),?_];rw[List.drop_length] at w2;simp only[dh,Bb] at w2;show k _ w2 _ H2 s2 #[D,9,I2.qQ λp hp=>I2.ku p (gE _ hp),#[acc,Zn,a2],n3,n2]
def Bz{tm:List (T×V)}{f:FI}{h:FG}{fc:FB}{fe:FE}{Q:VK}(hq:lP X Z tm (By n is f h fc fe) σ H Q):F_ n (lI X Z tm f) (cG X Z tm is h) (cB X Z tm fc) (cE X Z tm fe) σ H Q:=by
 let(ρ,O,q,I,(Zm,hf),k):=hq;show#[ρ,O,_,I,hf,λts gF J H' bj s a wk D hD=>?_];have I':=(I.same s).qQ λp hp=>by
  rcases fu.mp hp with z|z
  calc a p z;exact (I.same s).ku p z
 show Ro X 9 I' hD wk gF.1 (λj hj=>?_) gF.2 λr hr v H2 s2 z=>k r hr v H2 (s.trans s2) z;have:=KJ.mp Zm j hj;calc χ this
variable{ts:ω}{elt tg:Expr}{ifs:qap}{pos:Pos}{f:FI}{h:FG}{fc:FB}{fe:FE}
def eC(hc:X.calm=true)(hS:kc X.N ts 29 sc=true)(hi:VI X Z tg iter f)(hg:∀D cl C fp s H,VG 28 (Z.ex D) tg is h)(ht:∀D cl C fp s H,T9 28 (Z.ex D) ifs fc)(he:∀D cl C fp s H,VE 28 (Z.ex D) elt fe)(hs:∀x,foldedSetIterable iter 3 x=pure x:=by intro _;rfl):VP X Z 48 (By 19 is f h fc fe):=.mk λtm=>
 PE.weak (Lx hc hS (hi tm) (λcl C fp s H ε s' σ H' v u Q I r #[D,bj,z]=>hg D cl C fp s H (bj++tm) ε s' σ H' v u Q I r z) (λcl C fp s H ε s' σ H' Q I #[D,bj,z]=>ht D cl C fp s H (bj++tm) ε s' σ H' Q I z)
  (λcl C fp s H ε s' σ H' Q I #[D,bj,z]=>he D cl C fp s H (bj++tm) ε s' σ H' Q I z) hs) λσ H Q hq=>Bz hq
def xb{py wW:Pos}(hN:X.N.Nodup)(hy:X.N[i]?\y)(hx:Loc 29 y)(hc:X.calm=true)(hS:kc X.N ts 29 sc=true)(hi:VI X Z tg iter f)(hg:∀D cl C fp s H,VG 28 (Z.ex D) tg is h)(ht:∀D cl C fp s H,T9 28 (Z.ex D) ifs fc)(he:∀D cl C fp s H,VE 28 (Z.ex D) elt fe)(VN:swapsWith 48 (some (.Name y py)) wW.line 3=pure true)(hs:∀x,foldedSetIterable iter 3 x=pure x)(hf:X.fn y=true\/X.env.scope.names.lookup y\.local)(tm:List (T×V)) :
  PS X (.Assign [.Name y py] 48 wW) (K8 (lP X Z tm (By 19 is f h fc fe)) (oA i)) :=
 PS.weak (Ly hN hy hx hc hS (hi tm) (λcl C fp s H ε s' σ H' v u Q I r #[D,bj,z]=>hg D cl C fp s H (bj++tm) ε s' σ H' v u Q I r z) (λcl C fp s H ε s' σ H' Q I #[D,bj,z]=>ht D cl C fp s H (bj++tm) ε s' σ H' Q I z)
  (λcl C fp s H ε s' σ H' Q I #[D,bj,z]=>he D cl C fp s H (bj++tm) ε s' σ H' Q I z) VN hs hf) λD σ H hq=>Bz hq
def BA{py wW:Pos}(hN:X.N.Nodup)(hy:X.N[i]?\y)(hx:Loc 29 y)(hc:X.calm=true)(hS:kc X.N ts 29 sc=true)(hi:VI X Z tg iter f)(hg:∀D cl C fp s H,VG 28 (Z.ex D) tg is h)(ht:∀D cl C fp s H,T9 28 (Z.ex D) ifs fc)(he:∀D cl C fp s H,VE 28 (Z.ex D) elt fe)(hp:aZ Z i)(VN:swapsWith 48 (some (.Name y py)) wW.line 3=pure true:=by rfl)(hs:∀x,foldedSetIterable iter 3 x=pure x:=by intro _;rfl)(hf:X.fn y=true\/X.env.scope.names.lookup y\.local:=by first|calc .inl rfl|calc .inr rfl|assumption) :
  VS X Z (.Assign [.Name y py] 48 wW) (Rh i (fX (By 19 is f h fc fe))):=.mk λtm=>
 PS.weak (xb hN hy hx hc hS hi hg ht he VN hs hf tm) λD σ H #[ρ,O,d,I,q,F]=>#[ρ,O,_,I,q,λr hr v H' s z=>F.nx _ _ _ H' (z.env.put hp z.at) hr]
def jr{h:FG}{fc:FB}{fe:FE}{ρ:En}{ts:List T}{Q:List T->Prop}(p:T->Bool)(u:T->T)(step:∀t∈ts,∀k:List T->Prop,∀r:List T->Prop,(if p t=true then r [u t] else r [])->h t ρ λρ2=>fc ρ2 λb=>if b=true then fe ρ2 λx=>r [x] else r [])(hq:Q ((ts.filter p).map u)):dh h fc fe ρ ts Q:=by
 induction ts generalizing Q with
 |nil=>calc hq
 |cons t ts ih=>
  have st:=step t d_ (λ_=>True) (λl=>match l with
   |[x]=>dh h fc fe ρ ts λus=>Q (x::us)
   |_=>dh h fc fe ρ ts Q)
  have rest:∀{Q':List T->Prop},Q' ((ts.filter p).map u)->dh h fc fe ρ ts Q':=λhq=>ih (λt ht=>step t (fZ _ ht)) hq;show st ?_;by_cases hp:p t=true;rw[ι hp];show rest ?_;rw[Z1 hp] at hq;calc hq;rw[θ hp];show rest ?_;rw[Z2 hp] at hq;calc hq
end
def fE(K:qaf)(H:Hp)(A:zm):List Bool->zm->List T->qak->Prop
 |[],as,ts,vs=>as=[]/\ts=[]/\vs=[]
 |false::fs,as,ts,vs=>∃t hU v jW,ts=t::hU/\vs=v::jW/\At K H A t v/\fE K H A fs as hU jW
 |true::fs,as,ts,vs=>∃a rO t hU jW,as=a::rO/\ts=t::hU/\vs=.ref a::jW/\c0 K H A a t/\fE K H A fs rO hU jW
def We(K:qaf)(H:Hp)(as Ox:zm)(H':Hp)(us:List T):Rt->V->Prop
 |.vw t,v=>At K H' (as++Ox) t v/\Paired (λa u=>c0 K H' (as++Ox) a u) as us
 |.fr t,v=>∃b,v=.ref b/\H b=none/\b∉as/\c0 K H' (b::(as++Ox)) b t/\Paired (λa u=>c0 K H' (b::(as++Ox)) a u) as us
abbrev GT:=List T->(List T->Rt->Prop)->Prop
def qR(K:qaf)(fs:List Bool)(G:GT):Sp:=λvs H Q _=>E4 λts as Ox q=>as.Nodup/\(∀a∈as,a∉Ox)/\(∀a∈Ox,H a≠none)/\fE K H (as++Ox) fs as ts vs/\G ts q /\
 ∀us r,q us r->∀v H',(∀b o,H b\o->b∉as->H' b\o)->We K H as Ox H' us r v->Q v H'
def ro:List Bool->zm->HD
 |[],_=>[]
 |false::fs,as=>none::ro fs as
 |true::fs,a::as=>some a::ro fs as
 |true::fs,[]=>none::ro fs []
def pz:List Bool->zm->Nat->List (Nat×Addr)
 |[],_,_=>[]
 |false::fs,as,k=>pz fs as (k+1)
 |true::fs,a::as,k=>(k,a)::pz fs as (k+1)
 |true::fs,[],k=>pz fs [] (k+1)
def xc:List Bool->List T->En
 |f::fs,t::ts=>some (t,f)::xc fs ts
 |_,_=>[]
def kU:List Bool->En->List T
 |[],_=>[]
 |false::fs,ρ=>kU fs ρ.tail
 |true::fs,some (t,_)::ρ=>t::kU fs ρ
 |true::fs,ρ=>.bO::kU fs ρ.tail
section
variable{A:zm}
theorem gP:∀{fs:List Bool}{as:zm}{ts:List T}{vs:qak},fE K H A fs as ts vs->19=fs.length/\vs.length=fs.length/\(ro fs as).length=fs.length/\(xc fs ts).length=fs.length/\roots (ro fs as)=as
 |[],as,ts,vs,h=>by let(rfl,rfl,rfl):=h;calc#[9,9,9,9,9]
 |false::fs,as,ts,vs,h=>by let(t,hU,v,jW,rfl,rfl,_,h):=h;let(h1,h2,h3,h4,h5):=gP h;calc#[by simp[h1],by simp[h2],by simp[ro,h3],by simp[xc,h4],by simpa[ro,roots] using h5]
 |true::fs,as,ts,vs,h=>by let(a,rO,t,hU,jW,rfl,rfl,rfl,_,h):=h;let(h1,h2,h3,h4,h5):=gP h;show#[by simp[h1],by simp[h2],by simp[ro,h3],by simp[xc,h4],?_];simp only[ro,roots,rp,id] at h5 ⊢;rw[h5]
theorem oX:∀{fs:List Bool}{as:zm}{ts:List T}{vs:qak},fE K H A fs as ts vs->∀(i:Nat) e,(xc fs ts)[i]?\e->∃o s,(ro fs as)[i]?\o/\(vs.map some)[i]?\s/\iY K H A e o s
 |[],as,ts,vs,h,i,e,he=>by simp[xc] at he
 |false::fs,as,ts,vs,h,i,e,he=>by
  let(t,hU,v,jW,rfl,rfl,a,h):=h;cases i with
  |zero=>simp only[xc,YM,Option.some.injEq] at he;subst he;calc#[none,some v,9,9,9,v,9,a]
  |succ i=>calc oX h i e (by simpa[xc] using he)
 |true::fs,as,ts,vs,h,i,e,he=>by
  let(a,rO,t,hU,jW,rfl,rfl,rfl,r,h):=h;cases i with
  |zero=>simp only[xc,YM,Option.some.injEq] at he;subst he;calc#[some a,some (.ref a),9,9,a,9,9,r]
  |succ i=>calc oX h i e (by simpa[xc] using he)
theorem l_:∀{fs:List Bool}{as:zm}{ts:List T}{vs:qak},fE K H A fs as ts vs->∀a∈as,∃t,c0 K H A a t
 |[],as,ts,vs,h,a,ha=>by let(rfl,rfl,rfl):=h;cases ha
 |false::fs,as,ts,vs,h,a,ha=>by let(t,hU,v,jW,rfl,rfl,_,h):=h;calc l_ h a ha
 |true::fs,as,ts,vs,h,a,ha=>by
  let(b,rO,t,hU,jW,rfl,rfl,rfl,r,h):=h;rcases cT.mp ha with z|z
  subst z;calc#[t,r];calc l_ h a z
theorem Gz:∀{fs:List Bool}{as:zm}{ts:List T}{vs:qak}(k:Nat),fE K H A fs as ts vs->(pz fs as k).map (·.2)=as/\∀p∈pz fs as k,k<=p.1/\(ro fs as)[p.1-k]?\some p.2
 |[],as,ts,vs,k,h=>by let(rfl,rfl,rfl):=h;calc#[9,λ_ z=>nomatch z]
 |false::fs,as,ts,vs,k,h=>by
  let(t,hU,v,jW,rfl,rfl,_,h):=h;let(h1,h2):=Gz (k+1) h;show#[h1,λp hp=>?_];let(l,e):=h2 p hp;show#[(),?_];have:p.1-k=(p.1-(k+1))+1:=by lia
  rw[this];simpa[ro] using e
 |true::fs,as,ts,vs,k,h=>by
  let(a,rO,t,hU,jW,rfl,rfl,rfl,_,h):=h;let(h1,h2):=Gz (k+1) h;show#[by simp[pz,h1],λp hp=>?_];rcases cT.mp hp with z|z
  subst z;calc#[cD _,by simp[ro]];let(l,e):=h2 p z;show#[(),?_];have:p.1-k=(p.1-(k+1))+1:=by lia
  rw[this];simpa[ro] using e
theorem tV{R:Addr->T->Prop}{ρ:En}:∀{fs:List Bool}{as:zm}{ts:List T}{vs:qak}(k:Nat),fE K H A fs as ts vs->(∀p∈pz fs as k,∃t,ρ[p.1]?\some (t,true)/\R p.2 t)->Paired R as (kU fs (ρ.drop k))
 |[],as,ts,vs,k,h,_=>by let(rfl,rfl,rfl):=h;calc .nil
 |false::fs,as,ts,vs,k,h,q=>by let(t,hU,v,jW,rfl,rfl,_,h):=h;have:=tV (k+1) h q;simp only[kU,List.tail_drop];calc this
 |true::fs,as,ts,vs,k,h,q=>by
  let(a,rO,t,hU,jW,rfl,rfl,rfl,_,h):=h;have:=tV (ρ:=ρ) (k+1) h λp hp=>q p (fZ _ hp);let(u,e,r):=q (k,a) d_;have hk:=(dA.mp e).1;have e2:ρ[k]\(u,true):=by rw[gq hk] at e;exact Option.some.inj e
  rw[Ur hk,e2];calc .cons r this
end
theorem GB{N:ω}{fs:List Bool}{as Ox:zm}{ts:List T}{Q:VK}{q:List T->Rt->Prop}{g:FS}(nd:as.Nodup)(nx:∀a∈as,a∉Ox)(ox:∀a∈Ox,H a≠none)(ha:fE X.K H (as++Ox) fs as ts vs)(kk:∀us r,q us r->∀v H',(∀b o,H b\o->b∉as->H' b\o)->We X.K H as Ox H' us r v->Q v H')(hq:g {nx:=λρ=>q (kU fs ρ) (.vw .bO),rt:=λρ r=>q (kU fs ρ) r} (xc fs ts++List.replicate (N.length-19) none)) :
  lS X #[H,pz fs as 0,Ox] [] g {nx:=λ_ H'=>Q .bO H',rt:=Q} (start N vs) H:=by
 obtain⟨K,eK⟩:∃K,K=X.K:=#[_,9];unfold lS;rw[<- eK] at ha kk ⊢;let(l1,l2,l3,l4,l5):=gP ha;let(p1,p2):=Gz 0 ha;have ea:av #[H,pz fs as 0,Ox] (ro fs as++List.replicate (N.length-19) none)=as++Ox:=by unfold av;rw[d4,l5]
 have I0:az K #[H,pz fs as 0,Ox] [] (ro fs as++List.replicate (N.length-19) none) (xc fs ts++List.replicate (N.length-19) none) (start N vs) H:=by
  show#[?_,?_,λi e he=>?_,by rw[d4,l5];calc nd,λa h=>?_,λp hp=>?_,ox,λb o e _=>e,λp hp=>nomatch hp];unfold L2.start;simp[l2,l4,l1];simp[l3,l4];rw[ea];by_cases hi:i<fs.length;rw[nN (by rw[l4];calc hi)] at he;let(o,s,h1,h2,h3):=oX ha i e he;show#[o,s,by rw[nN (by rw[l3];calc hi)];calc h1,?_,h3];unfold L2.start;rw[nN (by rw[bN,l2];calc hi)];calc h2;rw[List.getElem?_append_right (),Fm] at he;split at he
  rename_i hl
  cases he;show#[none,none,?_,?_,9];rw[sU (),Fm,ι (by rw[l3];rw[l4] at hl;calc hl)];unfold L2.start;rw[sU (by rw[bN];lia),Fm,bN,ι (by rw[l2];rw[l4,l1] at hl;calc hl)];cases he;rw[d4,l5] at h;let(t,r):=l_ ha a h;calc#[.inl (by rw[p1];calc h),nx a h,r.mut];let(_,e):=p2 p hp;rw[Nat.sub_zero] at e;rw[nN (dA.mp e).1];exact e
 have fin:∀{O:HD}{ρ:En}{σ:St}{H':Hp}{Z':Zc},Z'.P=pz fs as 0->az K Z' [] O ρ σ H'->Paired (λa u=>c0 K H' (av Z' O) a u) as (kU fs ρ):=λ{O ρ σ H' Z'} eP I=>by
  have:=tV (ρ:=ρ) (R:=λa u=>c0 K H' (av Z' O) a u) 0 ha λp hp=>?_;rw[List.drop_zero] at this;calc this;have e:=I.par p (by rw[eP];calc hp);have hl:=(dA.mp e).1;have Ks:p.1<ρ.length:=by rw[<- I.lO];exact hl
  let(o,s',h1,h2,h3):=I.sl p.1 ρ[p.1] 4;rw[e] at h1;cases h1;cases q:ρ[p.1] with
  |none=>rw[q] at h3;cases h3
  |some tb=>
    let(t,b):=tb;rw[q] at h3;cases b with
    |false=>cases h3.1
    |true=>let(a',e1,_,r):=h3;cases e1;exact#[t,by rw[<- q];simp,r]
 have keep:∀{O:HD}{ρ:En}{σ:St}{H':Hp}{Z':Zc},Z'.H0=H->Z'.P=pz fs as 0->az K Z' [] O ρ σ H'->∀b o,H b\o->b∉as->H' b\o:=λe0 eP I b o e n=>I.keep b o (by rw[e0];calc e) (by rw[eP,p1];calc n);have sub:∀{O:HD}{ρ:En}{σ:St}{H':Hp}{Z':Zc},Z'.P=pz fs as 0->az K Z' [] O ρ σ H'->∀a∈as,a∈roots O:=λeP I a h=>by
  have:a∈(pz fs as 0).map (·.2):=by rw[p1];exact h
  let(p,hp,rfl):=gH.mp this;exact aC.mpr (dX (I.par p (by rw[eP];calc hp)))
 show#[_,_,_,I0,hq,#[λO ρ σ H' I h=>?_,λO ρ σ H' r v z h=>?_,λ_ _ _ _ _ h=>h.elim,λ_ _ _ _ _ h=>h.elim]];have sb:∀a∈as++Ox,a∈av #[H,pz fs as 0,Ox] O:=λa h=>by
  rcases fu.mp h with h|h
  calc fW _ (sub 9 I a h);exact gE _ h
 calc kk _ _ h .bO H' (keep 9 9 I) #[tO,Paired.kD (fin 9 I) λ_ _ q=>q.bq sb];cases r with
 |vw t=>
   let(I,a):=z;have sb:∀a∈as++Ox,a∈av #[H,pz fs as 0,Ox] O:=λa h=>by
    rcases fu.mp h with h|h
    calc fW _ (sub 9 I a h);exact gE _ h
   calc kk _ _ h v H' (keep 9 9 I) #[a.bq sb,Paired.kD (fin 9 I) λ_ _ q=>q.bq sb]
 |fr t=>
   let(b,rfl,I,hR,h0,hx):=z;have sb:∀a∈b::(as++Ox),a∈av (Zc.ex #[H,pz fs as 0,Ox] b) O:=λa h=>by
    rcases cT.mp h with h|h
    rw[h];calc gE _ d_;rcases fu.mp h with h|h
    calc fW _ (sub 9 I a h);exact gE _ (fZ _ h)
   calc kk _ _ h (.ref b) H' (keep 9 9 I) #[b,9,h0,λhb=>(I.own b (sub 9 I b hb)).2.1 d_,hR.bq sb,Paired.kD (fin 9 I) λ_ _ q=>q.bq sb]
section
def fnV{st:Stmt}{N:ω}{k:Nat}{fs:List Bool}{G:GT}(F:Dr K x qual st f fd)(S:aI N ps (aq st))(hfs:fs.length=ps.length)(fA:∀(bP:Value) (A:Around) (outer:List Env) (s:Shared) (H:Hp) (E:XK) (as Ox:zm),bA k (A.deeper (envOfC qual (aq st) 8 f bP))->∀ts q,19=fs.length->G ts q ->
    ∃g,iQ (j_ iP P w K mg base N qual (aq st) f bP A outer s H E).C4 #[H,pz fs as 0,Ox] (cn st) g/\g {nx:=λρ=>q (kU fs ρ) (.vw .bO),rt:=λρ r=>q (kU fs ρ) r} (xc fs ts++List.replicate (N.length-19) none)) :
  dz P w K mg base iP (k+1) f fd ps (qR K fs G):=by
 show F.ok S (λvs H Q E h=>?_) (λbP A outer s H vs Q E hr h=>?_);let(ts,as,Ox,q,_,_,_,ha,_):=h;rw[<- hfs];calc (gP ha).2.1;let(ts,as,Ox,q,nd,nx,ox,ha,hG,kk):=h;have l1:=(gP ha).1;let(g,hg,hq):=fA bP A outer s H E as Ox hr ts q l1 hG;calc#[_,hg [],GB nd nx ox ha kk hq]
end
def cH(K:qaf)(n:Nat)(G:List T->(Rt->Prop)->Prop):Sp:=qR K (List.replicate n false) λts q=>G ts (q [])
section
variable{A:zm}
theorem ic:∀{n:Nat}{ts:List T}{vs:qak},19=n->aB K H A ts vs->fE K H A (List.replicate n false) [] ts vs
 |0,ts,vs,l,h=>by have e:ts=[]:=Of.mp l;subst e;simp only[aB] at h;calc#[9,9,h]
 |n+1,ts,vs,l,h=>by
  cases ts with
  |nil=>simp at l
  |cons t ts=>simp only[aB] at h;let(v,r,rfl,h1,h2):=h;calc#[t,ts,v,r,9,9,h1,ic (by simpa using l) h2]
end
def az.BB{Z:Zc}{tm:List (T×V)}{ρ:En}(I:az K Z tm O ρ σ H)(h:H a=none)(s:aO H H'){u:HO}(hu:H' a\u):az K (Z.ex a) tm O ρ σ H':=by
 have J:=I.same s;let(n1,n2,n3):=I.fresh h;have mr:∀b∈av (Z.ex a) O,b∈av Z O\/H b=none:=λb hb=>(cU b hb).imp id λe=>by rw[e];exact h
 have fw:∀{t:T}{v:V},At K H (av Z O) t v->At K H' (av (Z.ex a) O) t v:=λq=>(q.more mr).same s;show#[J.lσ,J.lO,λi e hi=>?_,J.nd,λb hb=>?_,J.par,λb hb=>?_,J.keep,λp hp=>fw (I.ku p hp)];let(o,w,h1,h2,h3):=I.sl i e hi;show#[o,w,h1,h2,h3.map (λ_ _ q=>fw q) λb t eo q=>?_];calc c0.same (q.map 9 λ_ _ z=>z.more mr) s;let(q1,q2,q3):=J.own b hb;show#[q1,λz=>?_,q3];rcases cT.mp z with z|z
 calc n1 (by rw[<- z];calc fW _ hb);calc q2 z;rcases cT.mp hb with z|z
 rw[z,hu];simp;calc J.ox b z
def i6(n:Nat)(g:FA)(G:List T->(Rt->Prop)->Prop):FP:=λρ Q=>g ρ λts=>19=n/\G ts Q
section
variable{Z:Zc}{k:Nat}{G:List T->(Rt->Prop)->Prop}{pos:Pos}{g:FA}
def BC{tm:List (T×V)}{ρ:En}{ts:List T}{q:Rt->Prop}{Q:VK}(I:az X.K Z tm O ρ σ H)(a:aB X.K H (av Z O) ts vs)(hn:19=n)(hG:G ts q)(k:∀r,q r->∀v H',aO H H'->iI X.K Z tm O ρ σ H' r v->Q v H'):cH X.K n G (vs++[]) H Q E0:=by
 rw[Bb];show#[ts,[],av Z O,λ_ r=>q r,Kn,λ_ z=>absurd z eh,I.OD,ic hn a,hG,λus r hr v H' fr z=>?_];have s:aO H H':=λb o e=>fr b o e eh;cases r with
 |vw t=>calc k _ hr v H' s #[I.same s,z.1]
 |fr t=>
  let(b,rfl,hb,_,hR,_):=z;let(n1,n2,n3):=I.fresh hb;let(u,eu,_):=hR.mut;show k _ hr _ H' s #[b,9,I.BB hb s eu,hR.bq λc hc=>?_,n3,n2];rcases cU c hc with z|z
  calc fZ _ z;rw[z];calc d_
def cC(F:dz 34 X.w X.K X.mg X.base iP k f fd ps (cH X.K n G))(hr:bA k X.A)(hg:Gl X x)(hm:X.mg x\.ref f)(hk:W.keepIn X.K (.ref f)=true)(hb:Binds X.K fd ps [])(ha:VA X Z (e::es) g)(qJ:fY x:=by decide)(he:starEach (e::es) 3=(false,eval e 3)::starEach es 3:=by rfl)(j9:(backTo pos (starEach es 3)).any (·.1)=false:=by rfl) :
  VP X Z (.Call 51 (e::es) [] pos) (i6 n g G):=.mk λtm=>PE.weak (hY F hr hg hm hk hb .nil jV (ha tm) qJ he j9) λσ H Q #[ρ,O,q,I,hf,k] =>
 #[ρ,O,_,I,hf,λts gF vs H1 s1 a1=>BC (I.same s1) a1 gF.1 gF.2 λr hr v H' s z=>k r hr v H' (s1.trans s) z]
end
def AM(K:qaf)(H:Hp)(A:zm)(O:HD)(ρ:En):List (Option Nat)->List T->qak->Prop
 |[],ts,vs=>ts=[]/\vs=[]
 |none::ms,ts,vs=>∃t hU v jW,ts=t::hU/\vs=v::jW/\At K H A t v/\AM K H A O ρ ms hU jW
 |some k::ms,ts,vs=>∃a t hU jW,ts=t::hU/\vs=.ref a::jW/\ρ[k]?\some (t,true)/\O[k]?\some a/\AM K H A O ρ ms hU jW
def lAM(X:Cx)(Z:Zc)(tm:List (T×V))(ms:List (Option Nat))(f:FA):TA:=λσ H Q=>E3 λρ O q=>az X.K Z tm O ρ σ H/\f ρ q/\∀ts,q ts->∀vs H',aO H H'->AM X.K H' (av Z O) O ρ ms ts vs->Q vs H'
def Rp(X:Cx)(Z:Zc)(es:qap)(ms:List (Option Nat))(f:FA):Prop:=Bx λtm=>PA X es (lAM X Z tm ms f)
instance{X:Cx}{Z:Zc}{es:qap}{ms:List (Option Nat)}{f:FA}:CoeFun (Rp X Z es ms f) λ_=>∀tm,PA X es (lAM X Z tm ms f):=#[λh=>Bx.h h]
def GC(i:Nat):FE:=λρ Q=>match ρ[i]? with
 |some (some (t,true))=>Q t
 |_=>False
section
variable{Z:Zc}{g:FA}
def BD:Rp X Z [] [] l7:=.mk λtm=>PA.weak cW λσ H Q #[ρ,O,q,I,hf,k]=>k _ hf [] H 41 #[9,9]
def kW{ms:List (Option Nat)}{f:FE}(h:VE X Z e f)(h':Rp X Z es ms g)(hs:starEach (e::es) 3=(false,eval e 3)::starEach es 3:=by rfl):Rp X Z (e::es) (none::ms) (cJ f g) :=
 .mk λtm=>PA.weak (bw (h tm) (h' tm) hs) λσ H Q #[ρ,O,q,I,hf,k]=>#[ρ,O,_,I,hf,λt ht v H1 s1 a1=>#[ρ,O,_,I.same s1,ht,λts gF vs H2 s2 a2=>k _ gF _ H2 (s1.trans s2) #[t,ts,v,vs,9,9,a1.same s2,a2]]]
def nV(j:Nat){ms:List (Option Nat)}{py:Pos}(h':Rp X Z es ms g)(hN:X.N[j]?\y:=by rfl)(hv:lN 29 y:=by calc jvv 9)(hd:fY y:=by decide)(f9:qy y:=by decide)(hs:starEach (.Name y py::es) 3=(false,eval (.Name y py) 3)::starEach es 3:=by rfl):Rp X Z (.Name y py::es) (some j::ms) (cJ (GC j) g) :=
 .mk λtm=>PA.weak (bw (cc hN hv hd f9) (h' tm) hs) λσ H Q #[ρ,O,q,I,hf,k]=>by
  have Zp:GC j ρ λt=>g ρ λts=>q (t::ts):=hf;unfold GC at Zp;split at Zp
  rename_i t e0
  let(a,h1,h2,h3):=I.root e0;calc#[.ref a,h2,ρ,O,_,I,Zp,λts gF vs H2 s2 a2=>k _ gF _ H2 s2 #[a,t,ts,vs,9,9,e0,h1,a2]];calc Zp.elim
end
def putK:qao->List T->En->En
 |k::ks,u::us,ρ=>putK ks us (ρ.set k (some (u,true)))
 |_,_,ρ=>ρ
theorem oY:∀(ks:qao)(us:List T)(ρ:En),(putK ks us ρ).length=ρ.length
 |[],_,_=>rfl
 |_::_,[],_=>rfl
 |k::ks,u::us,ρ=>by rw[putK,oY];simp
theorem xf:∀{ks:qao}{us:List T}{ρ:En}{i:Nat}{e:Option (T×Bool)},ks.Nodup->ks.length=us.length->(putK ks us ρ)[i]?\e->(i∉ks/\ρ[i]?\e)\/∃(j:Nat)(u:T),ks[j]?\i/\us[j]?\u/\e\(u,true)
 |[],us,ρ,i,e,_,_,h=>.inl #[eh,h]
 |k::ks,[],ρ,i,e,_,l,h=>by simp at l
 |k::ks,u::us,ρ,i,e,nd,l,h=>by
  rw[ou] at nd;rcases xf nd.2 (by simpa using l) (show (putK ks us (ρ.set k (some (u,true))))[i]?\e from h) with⟨h1,h2⟩|⟨j,u',h1,h2,h3⟩
  rcases get_set h2 with⟨rfl,rfl,_⟩|⟨ne,h2⟩
  calc .inr #[0,u,9,9,9];calc .inl #[λz=>by rcases cT.mp z with z|z;calc ne z;calc h1 z,h2];calc .inr #[j+1,u',by simpa using h1,by simpa using h2,h3]
section
variable{A:zm}
def At.Rq{as:zm}{t:T}(fr:∀b o,H b\o->b∉as->H' b\o)(sub:∀a∈as,a∈A)(mu:∀a∈as,∃u,H a\u/\nG u=true)(h:At K H A t v):At K H' A t v:=by
 show At.map (H:=H) (H':=H') (λb vs q=>?_) (λb vs q=>?_) (λb aY q=>?_) (λb vs q=>fr _ _ q λm=>by let(u,eu,mm):=mu b m;rw[q] at eu;cases eu;cases mm) h
 obtain q|q:=q
 show .inl #[?_,q.2];have nb:b∉as:=λz=>q.2 (sub b z);obtain z|⟨o',z⟩:=q.1
 calc .inl (fr _ _ z nb);calc .inr #[o',fr _ _ z nb];calc .inr q;obtain z|z:=q
 show .inl ?_;have nb:b∉as:=λm=>by
  let(u,eu,mu):=mu b m;obtain z|⟨o',z⟩:=z
  rw[z] at eu;cases eu;cases mu;rw[z] at eu;cases eu;cases mu
 obtain z|⟨o',z⟩:=z
 calc .inl (fr _ _ z nb);calc .inr #[o',fr _ _ z nb];calc .inr z;calc#[fr _ _ q.1 λz=>q.2 (sub b z),q.2]
theorem AM.args{A':zm}{O:HD}{ρ:En}(sub:∀a∈A',a∈A)(hr:∀(k:Nat) t,ρ[k]?\some (t,true)->∃a,O[k]?\some a/\c0 K H A a t):∀{ms:List (Option Nat)}{ts:List T}{vs:qak},AM K H A O ρ ms ts vs ->
  ∃as,fE K H A' (ms.map Option.isSome) as ts vs/\Paired (λa k=>O[k]?\some a) as (ms.filterMap id)
 |[],ts,vs,h=>#[[],#[9,h.1,h.2],.nil]
 |none::ms,ts,vs,h=>by let(t,hU,v,jW,rfl,rfl,a,h):=h;let(as,h1,h2):=AM.args sub hr h;calc#[as,#[t,hU,v,jW,9,9,a.bq sub,h1],h2]
 |some k::ms,ts,vs,h=>by let(a,t,hU,jW,rfl,rfl,e0,e1,h):=h;let(as,h1,h2):=AM.args sub hr h;let(a',e2,r):=hr k t e0;rw[e1] at e2;cases e2;calc#[a::as,#[a,as,t,hU,jW,9,9,9,r.bq sub,h1],.cons e1 h2]
end
def Rr(ms:List (Option Nat))(g:FA)(G:GT):FX:=λρ Q=>g ρ λts=>G ts λus r=>Q (putK (ms.filterMap id) us ρ) r
section
variable{Z:Zc}{k:Nat}{fs:List Bool}{G:GT}{pos:Pos}{g:FA}{ms:List (Option Nat)}
theorem xh{tm:List (T×V)}{ρ:En}(I:az K Z tm O ρ σ H)(h1:O[i]?\some a)(h2:O[j]?\some a):i=j:=by
 have key:∀(O:HD)(i j:Nat),i<j->O[i]?\some a->O[j]?\some a->(roots O).Nodup->False:=by
  intro O;induction O with
  |nil=>intro i j _ h;simp at h
  |cons o O ih=>
   intro i j T6 e1 e2 nd;cases j with
   |zero=>lia
   |succ j=>
    have Dt:O[j]?\some a:=by simpa using e2
    cases i with
    |zero=>
     have:o\a:=by simpa using e1
     subst this;simp only[roots,rp,id] at nd;calc (ou.mp nd).1 (aC.mpr (dX Dt))
    |succ i=>
     show ih i j () (by simpa using e1) Dt ?_;cases o with
     |none=>simpa[roots] using nd
     |some b=>simp only[roots,rp,id] at nd;exact (ou.mp nd).2
 rcases Nat.lt_trichotomy i j with l|l|l
 calc (key O i j l h1 h2 I.nd).elim;calc l;calc (key O j i l h2 h1 I.nd).elim
theorem fF{α β:Type}{F:α->β->Prop}:∀{l₁:List α}{l₂:List β}{a:α},Paired F l₁ l₂->a∈l₁->∃b∈l₂,F a b
 |_,_,_,.nil,h=>nomatch h
 |_,_,a,.cons r t,h=>by
  rcases cT.mp h with z|z
  subst z;calc#[_,d_,r];let(b,h1,h2):=fF t z;calc#[b,fZ _ h1,h2]
theorem oZ{α β:Type}{F:α->β->Prop}:∀{l₁:List α}{l₂:List β}{i:Nat}{b:β},Paired F l₁ l₂->l₂[i]?\b->∃a,l₁[i]?\a/\F a b
 |_,_,_,_,.nil,e=>by simp at e
 |_,_,0,_,.cons r _,e=>by simp at e;subst e;calc#[_,9,r]
 |_,_,i+1,b,.cons _ t,e=>by let(a,h1,h2):=oZ (i:=i) (b:=b) t (by simpa using e);calc#[a,by simpa using h1,h2]
theorem eF{α β:Type}{F:α->β->Prop}:∀{l₁:List α}{l₂:List β}{i:Nat}{a:α},Paired F l₁ l₂->l₁[i]?\a->∃b,l₂[i]?\b/\F a b
 |_,_,_,_,.nil,e=>by simp at e
 |_,_,0,_,.cons r _,e=>by simp at e;subst e;calc#[_,9,r]
 |_,_,i+1,b,.cons _ t,e=>by let(a,h1,h2):=eF (i:=i) (a:=b) t (by simpa using e);calc#[a,by simpa using h1,h2]
def az.called{Z':Zc}{tm:List (T×V)}{ρ:En}{as:zm}{ks:qao}{us:List T}(I:az K Z tm O ρ σ H)(hk:Paired (λa k=>O[k]?\some a) as ks)(nk:ks.Nodup)(fr:∀b o,H b\o->b∉as->H' b\o)(hu:Paired (λa u=>c0 K H' (av Z' O) a u) as us)(hZ:Z'.H0=Z.H0)(hP:Z'.P=Z.P)(hox:∀a∈Z'.Ox,a∉roots O/\H' a≠none)(more:∀a∈av Z' O,a∈av Z O\/H a=none):az K Z' tm O (putK ks us ρ) σ H':=by
 have zK:∀a∈as,a∈roots O:=λa h=>by let(k,_,e):=fF hk h;exact aC.mpr (dX e)
 have sub:∀a∈as,a∈av Z O:=λa h=>fW _ (zK a h);have adz:∀a∈as,a∈av Z' O:=λa h=>fW _ (zK a h);have mu:∀a∈as,∃u,H a\u/\nG u=true:=λa h=>(I.own a (zK a h)).2.2;have fw:∀{t:T}{v:V},At K H (av Z O) t v->At K H' (av Z' O) t v:=λq=>(q.more more).Rq fr adz mu;have Zq:∀{t:List T}{v:qak},aB K H (av Z O) t v->aB K H' (av Z' O) t v:=λq=>aB.iff.mpr (Paired.kD (aB.iff.mp q) λ_ _ z=>fw z);show#[by rw[oY];calc I.lσ,by rw[oY];calc I.lO,λi e h=>?_,I.nd,λb hb=>?_,by rw[hP];calc I.par,λa ha=>(hox a ha).2,λb o e n=>?_,λp hp=>fw (I.ku p hp)];rcases xf nk (by rw[<- Ko hk,Ko hu]) h with⟨h1,h2⟩|⟨j,u,h1,h2,rfl⟩
 let(o,s,g1,g2,g3):=I.sl i e h2;show#[o,s,g1,g2,g3.map (λ_ _ q=>fw q) λb t eo q=>?_];subst eo;have nb:b∉as:=λm=>by let(k,zL,BE):=fF hk m;exact h1 (by rw[xh I g1 BE];calc zL)
 let(u,eu,_):=q.mut;calc q.map (by rw[eu];calc fr _ _ eu nb) λ_ _ z=>Zq z;let(a,ha,r):=oZ hu h2;let(k,zL,BE):=eF hk ha;rw[h1] at zL;cases zL;have hl:i<ρ.length:=by rw[<- I.lO];exact (dA.mp BE).1
 let(o,s,g1,g2,g3):=I.sl i ρ[i] 4;rw[BE] at g1;cases g1;show#[some a,s,BE,g2,a,9,?_,r];cases q:ρ[i] with
 |none=>rw[q] at g3;cases g3
 |some tb=>
  let(t,b):=tb;rw[q] at g3;cases b with
  |false=>cases g3.1
  |true=>let(a',e1,e2,_):=g3;cases e1;exact e2
 let(q1,q2,v,e,m):=I.own b hb;show#[by rw[hZ,hP];calc q1,λz=>(hox b z).1 hb,?_];by_cases hba:b∈as;let(j,hj):=Kj.mp hba;let(u,_,r):=eF hu hj;calc r.mut;calc#[v,fr _ _ e hba,m];rw[hZ] at e;rw[hP] at n;show fr _ _ (I.keep b o e n) λm=>?_;rcases (I.own b (zK b m)).1 with z|z
 calc n z;rw[z] at e;cases e
def xi(F:dz 34 X.w X.K X.mg X.base iP k f fd ps (qR X.K fs G))(hr:bA k X.A)(hg:Gl X x)(hm:X.mg x\.ref f)(hk:W.keepIn X.K (.ref f)=true)(hb:Binds X.K fd ps [])(ha:Rp X Z (e::es) ms g)(hfs:ms.map Option.isSome=fs:=by rfl)(Ku:(ms.filterMap id).Nodup:=by decide)(qJ:fY x:=by decide)(he:starEach (e::es) 3=(false,eval e 3)::starEach es 3:=by rfl)(j9:(backTo pos (starEach es 3)).any (·.1)=false:=by rfl) :
  VX X Z (.Call 51 (e::es) [] pos) (Rr ms g G):=.mk λtm=>PE.weak (hY F hr hg hm hk hb .nil jV (ha tm) qJ he j9) λσ H Q #[ρ,O,q,I,hf,k] =>
 #[ρ,O,_,I,hf,λts gF vs H1 s1 a1=>by
   subst hfs;change qR X.K _ G (vs++[]) H1 Q E0;rw[Bb];have J:=I.same s1;let(as,h1,h2):=AM.args (A':=av Z O) (λ_ z=>z) (λk t e=>by let(a,q1,q2,q3):=J.root e;calc#[a,q1,q3]) a1;have zK:∀a∈as,a∈roots O:=λa h=>by let(k,_,e):=fF h2 h;exact aC.mpr (dX e)
   have ndA:as.Nodup:=by
    clear h1;have:∀{as:zm}{ks:qao},ks.Nodup->Paired (λa k=>O[k]?\some a) as ks->as.Nodup:=by
     intro as ks nd h;induction h with
     |nil=>calc Kn
     |cons r t ih=>rw[ou] at nd ⊢;show#[λm=>?_,ih nd.2];let(k',m1,m2):=fF t m;exact nd.1 (by rw[xh J r m2];calc m1)
    exact this Ku h2
   have Zr:∀b,b∈as++(av Z O).filter (λb=>decide (b∉as))↔b∈av Z O:=λb=>by rw[fu,yT];constructor;rintro (z|z);calc fW _ (zK b z);calc z.1;intro z;by_cases hb:b∈as;calc .inl hb;exact .inr #[z,ο hb]
   let(rO,LW,qS):=AM.args (A':=as++(av Z O).filter (λb=>decide (b∉as))) (λb z=>(Zr b).mp z) (λk t e=>by let(a,q1,q2,q3):=J.root e;calc#[a,q1,q3]) a1;have ee:rO=as:=by
    have:∀{as rO:zm}{ks:qao},Paired (λa k=>O[k]?\some a) as ks->Paired (λa k=>O[k]?\some a) rO ks->rO=as:=by
     intro as rO ks h h';induction h generalizing rO with
     |nil=>cases h';rfl
     |cons r t ih=>
       cases h' with
       |cons r' t'=>rw[r] at r';cases r';rw[ih t']
    exact this h2 qS
   subst ee;show#[ts,rO,(av Z O).filter (λb=>decide (b∉rO)),_,ndA,λa h z=>?_,λa h=>J.OD a (yT.mp h).1,LW,gF,λus r hr v H' fr z=>?_];calc (χ (yT.mp z).2) h;have Wf:∀a∈Z.Ox,a∉roots O/\H' a≠none:=λa h=>by
    have na:a∉roots O:=λm=>(J.own a m).2.1 h;show#[na,?_];cases e:H1 a with
    |none=>calc absurd e (J.ox a h)
    |some u=>rw[fr _ _ e λm=>na (zK a m)];simp
   cases r with
   |vw t=>let(z1,z2):=z;calc k _ _ hr O v H' #[J.called h2 Ku fr (Paired.kD z2 λ_ _ q=>q.bq λb hb=>(Zr b).mpr hb) 9 9 Wf λa h=>.inl h,z1.bq λb hb=>(Zr b).mpr hb]
   |fr t=>
     let(b,rfl,hb,nb,hR,z2):=z;let(n1,n2,n3):=J.fresh hb;have sb:∀c∈av (Z.ex b) O,c∈b::(rO++(av Z O).filter (λb=>decide (b∉rO))):=λc hc=>by
      rcases cU c hc with z|z
      calc fZ _ ((Zr c).mpr z);rw[z];exact d_
     show k _ _ hr O _ H' #[b,9,J.called h2 Ku fr (Paired.kD z2 λ_ _ q=>q.bq sb) 9 9 (λa h=>?_) (λa h=>(cU a h).imp id λe=>by rw[e];calc hb),hR.bq sb,n3,n2];rcases cT.mp h with z|z
     subst z;let(u,eu,_):=hR.mut;calc#[λm=>n1 (fW _ m),by rw[eu];simp];calc Wf a z]
end
section
variable(K:qaf)
theorem xj:PySem.W.kitOne K (.type "int") (.type "str")\false:=by kernel_rfl
theorem tW:PySem.W.kitOne K (.type "bool") (.type "str")\false:=by kernel_rfl
theorem xk:PySem.W.kitOne K (.type "str") (.type "str")\true:=by kernel_rfl
theorem tX:PySem.W.kitOne K (.type "list") (.type "str")\false:=by kernel_rfl
theorem qT:PySem.W.kitOne K (.type "tuple") (.type "str")\false:=by kernel_rfl
theorem tY:PySem.W.kitOne K (.type "dict") (.type "str")\false:=by kernel_rfl
theorem ma:PySem.W.kitOne K (.type "NoneType") (.type "str")\false:=by kernel_rfl
end
def Ty2(K:qaf)(H:Hp):V->String->Prop
 |.bO,t=>t="NoneType"
 |.bl _,t=>t="bool"
 |.int _,t=>t="int"
 |.str _,t=>t="str"
 |.ref a,t=>(t="list"/\∃xs,f_ K H a xs)\/(t="tuple"/\∃xs,dO K H a xs)\/(t="dict"/\∃aY,H a\.dK aY)
 |_,_=>False
def Wg(K:qaf):qak->Hp->VK->Prop:=λxs H Q=>E4 λx n t b=>xs=[x,.ty n]/\Ty2 K H x t/\W.kitOne K (.type t) (.type n)\b/\Q (.bl b) H
def Dz:c5 X (.builtin "isinstance") (Wg X.K):=by
 intro ε s σ H xs us Q I r h;let(x,n,t,b,rfl,ty,e,q):=h;let(u,w',rfl,rx,ry):=vals2 r;obtain rfl:=ry;have fin:∀tk,EP X ε σ Q (.bool b) {s with toks:=tk}:=λtk=>#[.bl b,H,I.tok _,9,q];cases x with
 |bO=>cases (show t=_ from ty);cases (show u=Value.none from rx);calc P8 W.kitx_none I.wt True.intro e (λz=>nomatch z) fin
 |bl y=>cases (show t=_ from ty);cases (show u=Value.bool y from rx);calc P8 W.kitx_bool I.wt True.intro e (λz=>nomatch z) fin
 |int i=>cases (show t=_ from ty);let(t,q):=(show ∃t,u=Value.int i t from rx);cases q;calc P8 W.kitx_int I.wt True.intro e (λz=>nomatch z) fin
 |str y=>cases (show t=_ from ty);let(t,q):=(show ∃t,u=Value.str y t from rx);cases q;calc P8 W.kitx_str I.wt True.intro e (λz=>nomatch z) fin
 |ref a=>
  cases (show u=Value.ref a from rx);obtain⟨rfl,xs,hq⟩|⟨rfl,xs,hq⟩|⟨rfl,aY,hq⟩:=ty
  let(aP,_,p,_):=I.list hq;let(o,n',h1,h2,_):=p;calc P8 W.kitx_list I.wt #[o,h1,h2] e (λz=>nomatch z) fin;let(aP,_,p,_):=I.tuple hq;let(o,h1,h2,_):=p;calc P8 W.kitx_tuple I.wt #[o,h1,h2] e (λz=>nomatch z) fin;let(_,_,vs,_,p):=(show bL 34 X.w H 42 a (.dK aY) from I.bB a _ hq);let(o,es,ep,h1,h2,_):=p;calc P8 W.kitx_dict I.wt #[o,h1,h2.1] e (λz=>nomatch z) fin
 |_=>calc (show False from ty).elim
def isStr:T->Bool
 |.str _=>true
 |_=>false
def known:T->Bool
 |.dt _ _=>false
 |.df _ _ _=>false
 |.kt _=>false
 |.ins _ _ _=>false
 |.pin _ _=>false
 |.ob _=>false
 |.ty _=>false
 |_=>true
def GD(K:qaf)(n:String)(p:T->Bool):Prop:=∀H A t v,known t=true->gN K H A t v->∃ty,Ty2 K H v ty/\W.kitOne K (.type ty) (.type n)\p t
def eG:GD K "str" isStr:=by
 intro H A t v hk h;cases t with
 |bO=>rw[h.bO];calc#[_,9,ma K]
 |bl b=>rw[h.bl];calc#[_,9,tW K]
 |int b=>rw[h.int];calc#[_,9,xj K]
 |str b=>rw[h.str];calc#[_,9,xk K]
 |tup l=>let(a,vs,rfl,q,_):=h.tup;calc#[_,.inr (.inl #[9,_,q]),qT K]
 |lst l=>let(a,vs,rfl,q,_):=h.lst;calc#[_,.inl #[9,_,q],tX K]
 |dk ks l=>let(a,vs,rfl,_,q,_):=h.dk;calc#[_,.inr (.inr #[9,_,q]),tY K]
 |_=>simp only[known] at hk;cases hk
def Wh(f:FE)(p:T->Bool):FP:=λρ Q=>f ρ λt=>known t=true/\Q (.vw (.bl (p t)))
section
variable{Z:Zc}{a:Expr}{pos:Pos}{fa fb Zs:FE}
def tZ:bootBuiltins "isinstance"\.builtin "isinstance":=by decide +kernel
def gh{n:String}{q:T->Bool}(hq:GD X.K n q)(hg:Gl X "isinstance")(hm:X.mg "isinstance"=none)(hgy:Gl X y)(hmy:X.mg y=none)(hby:bootBuiltins y\.type n)(ha:VR X Z e fa)(hny:y≠"__name__":=by decide)(hdy:fY y:=by decide)(hs:starEach [e,.Name y p2] 3=(false,eval e 3)::starEach [.Name y p2] 3:=by rfl)(Dg:starEach [.Name y p2] 3=(false,eval (.Name y p2) 3)::starEach [] 3:=by rfl)(j9:(backTo pos (starEach [.Name y p2] 3)).any (·.1)=false:=by rfl) :
  VP X Z (.Call (.Name "isinstance" p) [e,.Name y p2] [] pos) (Wh fa q):=.mk λtm=>
 PE.weak (oF Dz hg hm tZ (bw (ha tm) (bw (KZ (v:=.ty n) hgy hmy hby rfl hny hdy) cW Dg) hs) 5 5 hs j9) λσ H Q #[ρ,O,q',I,hf,k]=>#[ρ,O,_,I,hf,λt ht v H1 s1 a1=>by let(ty,h1,h2):=hq H1 _ t v ht.1 a1;calc#[v,n,ty,_,9,h1,h2,k _ ht.2 _ H1 s1 #[I.same s1,dR]]]
def jX:T->Bool
 |.bO=>true
 |.bl _=>true
 |.int _=>true
 |.str _=>true
 |_=>false
def xm:List T->Bool
 |[]=>true
 |t::ts=>jX t && xm ts
def E1(x:T):List T->Bool
 |[]=>false
 |t::ts=>eqT t x || E1 x ts
theorem me{K:qaf}{H:Hp}{A:zm}:∀{ts:List T}{vs:qak}{x:T}{v:V},xm ts=true->jX x=true->aB K H A ts vs->At K H A x v->vs.all iX=true/\iX v=true/\Zb v vs=E1 x ts
 |[],vs,x,v,_,fx,h,hx=>by simp only[aB] at h;subst h;show#[9,?_,9];cases x<;>simp only[At] at hx<;>first|(subst hx;rfl)|(simp only[jX] at fx;cases fx)
 |t::ts,vs,x,v,f,fx,h,hx=>by
  let(u,r,rfl,h1,h2):=h;simp only[xm,iO] at f;let(i1,i2,i3):=me f.2 fx h2 hx;have ft:iX u=true:=by cases t<;>simp only[At] at h1<;>first|(subst h1;rfl)|(have:=f.1;simp only[jX] at this;cases this)
  have e:Kt u v=eqT t x:=by
   cases t<;>simp only[At] at h1<;>first
    | (have:=f.1;simp only[jX] at this;cases this;done)
    | (subst h1
       cases x<;>simp only[At] at hx<;>first
        | (simp only[jX] at fx;cases fx;done)
        | (subst hx;simp[Kt,eqT];done))
  show#[by simp[ft,i1],i2,?_];simp only[E1,Zb,CZ]
  congr 1
def Wi(K:qaf)(neg:Bool):R2:=λx y H Q=>rIn K neg x y H Q\/E2 λi j=>x=.str i/\y=.str j/\Q (.bl (if neg then !(!(Builtin.Str.occurrences j i 0 j.length 1).isEmpty) else !(Builtin.Str.occurrences j i 0 j.length 1).isEmpty)) H
def GF:fm X (compareOp .In) (Wi X.K false):=by
 intro ε s σ H x y v u Q I rx ry h;obtain h|⟨i,j,h1,h2,h⟩:=h
 calc Dl ε s σ H x y v u Q I rx ry h;calc C_ ε s σ H x y v u Q I rx ry #[i,j,h1,h2,by simpa using h]
def GG(i j:Str):Bool:=!(Builtin.Str.occurrences j i 0 j.length 1).isEmpty
def Zt(x y:T)(q:Rt->Prop):Prop:=match y with
 |.lst ts=>jX x=true/\xm ts=true/\q (.vw (.bl (E1 x ts)))
 |.tup ts=>jX x=true/\xm ts=true/\q (.vw (.bl (E1 x ts)))
 |.str j=>∃i,x=.str i/\q (.vw (.bl (GG i j)))
 |_=>False
def GH:nS K (Wi K false) Zt:=by
 intro Z tm O ρ σ H x y v w q Q I h1 h2 h k;have x1:jX x=true->At K H (av Z O) x v:=λf=>by
  obtain h|⟨a,rfl,h⟩:=h1
  calc h;cases x<;>first|exact h.elim|(simp only[jX] at f;cases f)
 unfold Zt at h;split at h;let(f1,f2,h):=h;let(a,vs,rfl,q1,q2):=h2.lst;let(i1,i2,i3):=me f2 f1 q2 (x1 f1);calc .inl #[a,vs,9,.inl q1,i2,i1,k _ h _ H 41 #[I,by rw[θ jq,i3];calc dR]];let(f1,f2,h):=h;let(a,vs,rfl,q1,q2):=h2.tup;let(i1,i2,i3):=me f2 f1 q2 (x1 f1);calc .inl #[a,vs,9,.inr q1,i2,i1,k _ h _ H 41 #[I,by rw[θ jq,i3];calc dR]];let(i,rfl,h):=h;calc .inr #[i,_,h1.str,h2.str,k _ h _ H 41 #[I,by rw[θ jq];calc dR]];calc h.elim
def Wj(ha:VR X Z a fa)(hb:VR X Z b fb)(hm:behindInMarks .In b=false:=by rfl):VP X Z (.Compare a [.In] [b] pos) (f2 fa fb Zt):=zD GF GH ha hb hm
def OT(ha:VR X Z a fa)(hb:VR X Z b fb)(hm:behindInMarks .In b=false:=by rfl):VC X Z (.Compare a [.In] [b] pos) (l6 (f2 fa fb Zt)):=ke GF GH ha hb hm
def BF:T->Bool
 |.bO=>true
 |_=>false
def t_(x y:T)(q:Rt->Prop):Prop:=match y with
 |.bO=>q (.vw (.bl (!BF x)))
 |_=>False
def LX{A:zm}{t:T}(h:gN K H A t v):decide (v=.bO)=BF t:=by
 cases t with
 |bO=>rw[h.bO];rfl
 |bl b=>rw[h.bl];rfl
 |int b=>rw[h.int];rfl
 |str b=>rw[h.str];rfl
 |ob b=>rw[h.ob];rfl
 |ty b=>have:=h.elim (λq=>by simpa only[At] using q) λ#[_,_,q]=>q.elim;rw[this];rfl
 |tup l=>let(a,vs,rfl,_):=h.tup;rfl
 |lst l=>let(a,vs,rfl,_):=h.lst;rfl
 |dk ks l=>let(a,vs,rfl,_):=h.dk;rfl
 |dt ks l=>let(a,vs,rfl,_):=h.dt;rfl
 |df o ks l=>let(a,vs,rfl,_):=h.df;rfl
 |kt k=>let(a,rfl,_):=h.kt;rfl
 |ins C ns l=>let(a,dx,vs,rfl,_):=h.ins;rfl
 |pin a t=>have e:=h.elim (λq=>by simp only[At] at q;calc q.1) λ#[_,_,q]=>q.elim;rw[e];rfl
def DA:nS K (λx y H Q=>y=.bO/\Q (.bl (!decide (x=.bO))) H) t_:=by intro Z tm O ρ σ H x y v w q Q I h1 h2 h k;unfold t_ at h;split at h;calc#[h2.bO,k _ h _ H 41 #[I,by rw[LX h1];calc dR]];calc h.elim
def GJ(ha:VR X Z a fa)(hb:VR X Z b fb):VC X Z (.Compare a [.IsNot] [b] pos) (l6 (f2 fa fb t_)):=ke La DA ha hb (iU _)
def GK{g g':Int->Int->Bool}{tm:List (T×V)}{Q:VK}(h:lP X Z tm (f3 fa fb Zs (V5 g) (V5 g')) σ H Q):FH (qA λi j=>.bl (g i j)) (qA λi j=>.bl (g' i j)) (lR X Z tm fa) (lR X Z tm fb) (lR X Z tm Zs) σ H Q:=by
 let(ρ,O,q,I,hf,k):=h;show#[ρ,O,_,I,hf,λx hx v H1 s1 a1=>#[ρ,O,_,I.same s1,hx,λy hy w H2 s2 a2=>?_]];have J:=(I.same s1).same s2;unfold V5 at hy;split at hy
 rename_i i j
 show#[i,j,(a1.same s2).int,a2.int,_,9,?_];cases e:g i j with
 |true=>
  rw[e] at hy;show Vz #[ρ,O,_,J,hy,λz hz w3 H3 s3 a3=>?_];split at hz
  rename_i e1
  cases e1;calc#[_,_,(a2.same s3).int,a3.int,k _ hz _ H3 ((s1.trans s2).trans s3) #[J.same s3,dR]];calc hz.elim
 |false=>rw[e] at hy;exact Vy (k _ hy _ H2 (s1.trans s2) #[J,dR])
 calc hy.elim
def GL{op QH:CmpOp}{g g':Int->Int->Bool}(ho:fm X (compareOp op) (qA λi j=>.bl (g i j)))(nA:fm X (compareOp QH) (qA λi j=>.bl (g' i j)))(ha:VR X Z a fa)(hb:VR X Z b fb)(hc:VR X Z c Zs)(hm:lastMarks [op,QH] [b,c]=false:=by with_unfolding_all rfl):VC X Z (.Compare a [op,QH] [b,c] pos) (l6 (f3 fa fb Zs (V5 g) (V5 g'))):=.mk λtm=>PT.weak (FJ ho nA (ha tm) (hb tm) (hc tm) hm) λσ H Q #[ρ,O,q,I,hf,k] =>
 GK #[ρ,O,_,I,hf,λt ht u H' s a=>by let(c,rfl,hc):=zE ht;have e:=a.2;calc#[c,e,k c hc H' s]]
def dF(ts:List T):List T:=ts.mapIdx λi t=>.tup [.int (i:Int),t]
def Wl(f:FE):FI:=λρ Q=>f ρ λt=>match t with
 |.lst ts=>Q (dF ts)
 |_=>False
theorem LY{a:Addr}{ts:List T}:Wk K (Ite K a) [(.lst ts,.ref a)] (dF ts):=λH A hA h i=>by
 have h:=h _ d_;let(b,vs,e,l,q):=h;cases e;have hl:=q.length;have hle:(dF ts).length=19:=by unfold dF;rw[List.length_mapIdx]
 show#[λhi=>#[vs,vs[i]'(),l.sq,by simp],λhi=>#[vs,l.sq,()],λt ht x H' y=>?_];let(p,u,hp,rfl,hu,rfl):=y;unfold dF at ht;rw[Uu] at ht;cases e:ts[i]? with
 |none=>rw[e] at ht;cases ht
 |some t'=>rw[e] at ht;cases ht;let(v,e1,e2):=q.get e;have:=hu vs l.sq;rw[e1] at this;cases this;calc#[aG hp,dm (dO.of aA) (aB.cons bJ (aB.cons (e2.same (aG hp)) aB.nil))]
def ie{x1}(hg:Gl X "enumerate")(hm:X.mg "enumerate"=none)(ha:VE X Z a fa)(hs:starEach [a] 3=[(false,eval a 3)]:=by rfl) :
  VI X Z (.Tuple elts x1 tp) (.Call (.Name "enumerate" p) [a] [] pos) (Wl fa):=.mk λtm=>PI.weak (Lz hg hm (bw (ha tm) cW hs) hs) λσ H R #[ρ,O,q,I,hf,k]=>#[ρ,O,_,I,hf,λt ht v H' s a=>by
 split at ht;have a0:=a;let(p,vs,rfl,l,_):=a;calc#[p,9,#[vs,l.sq],k _ ht _ H' _ s (λp hp=>by rw[f6.mp hp];calc a0) LY];calc ht.elim]
def di:List T->Option (List Bool)
 |[]=>some []
 |.bl b::ts=>(di ts).map (b::·)
 |_=>none
def intsOf:List T->Option (qan)
 |[]=>some []
 |.int b::ts=>(intsOf ts).map (b::·)
 |_=>none
theorem GN{K:qaf}{H:Hp}{A:zm}:∀{ts:List T}{bs:List Bool}{vs:qak},di ts\bs->aB K H A ts vs->vs=bs.map V.bl
 |[],bs,vs,e,h=>by simp only[di] at e;cases e;simp only[aB] at h;rw[h];rfl
 |.bl b::ts,bs,vs,e,h=>by
  simp only[di] at e;cases q:di ts with
  |none=>rw[q] at e;cases e
  |some cs=>rw[q] at e;cases e;let(v,r,rfl,rfl,h):=h;rw[GN q h];rfl
 |.bO::_,_,_,e,_=>by simp[di] at e
 |.int _::_,_,_,e,_=>by simp[di] at e
 |.str _::_,_,_,e,_=>by simp[di] at e
 |.tup _::_,_,_,e,_=>by simp[di] at e
 |.lst _::_,_,_,e,_=>by simp[di] at e
 |.dk _ _::_,_,_,e,_=>by simp[di] at e
 |.dt _ _::_,_,_,e,_=>by simp[di] at e
 |.df _ _ _::_,_,_,e,_=>by simp[di] at e
 |.kt _::_,_,_,e,_=>by simp[di] at e
 |.ins _ _ _::_,_,_,e,_=>by simp[di] at e
 |.pin _ _::_,_,_,e,_=>by simp[di] at e
 |.ob _::_,_,_,e,_=>by simp[di] at e
 |.ty _::_,_,_,e,_=>by simp[di] at e
theorem BG{K:qaf}{H:Hp}{A:zm}:∀{ts:List T}{bs:qan}{vs:qak},intsOf ts\bs->aB K H A ts vs->vs=bs.map V.int
 |[],bs,vs,e,h=>by simp only[intsOf] at e;cases e;simp only[aB] at h;rw[h];rfl
 |.int b::ts,bs,vs,e,h=>by
  simp only[intsOf] at e;cases q:intsOf ts with
  |none=>rw[q] at e;cases e
  |some cs=>rw[q] at e;cases e;let(v,r,rfl,rfl,h):=h;rw[BG q h];rfl
 |.bO::_,_,_,e,_=>by simp[intsOf] at e
 |.bl _::_,_,_,e,_=>by simp[intsOf] at e
 |.str _::_,_,_,e,_=>by simp[intsOf] at e
 |.tup _::_,_,_,e,_=>by simp[intsOf] at e
 |.lst _::_,_,_,e,_=>by simp[intsOf] at e
 |.dk _ _::_,_,_,e,_=>by simp[intsOf] at e
 |.dt _ _::_,_,_,e,_=>by simp[intsOf] at e
 |.df _ _ _::_,_,_,e,_=>by simp[intsOf] at e
 |.kt _::_,_,_,e,_=>by simp[intsOf] at e
 |.ins _ _ _::_,_,_,e,_=>by simp[intsOf] at e
 |.pin _ _::_,_,_,e,_=>by simp[intsOf] at e
 |.ob _::_,_,_,e,_=>by simp[intsOf] at e
 |.ty _::_,_,_,e,_=>by simp[intsOf] at e
def Wm(ts:List T)(q:Rt->Prop):Prop:=match ts with
 |[.lst l]=>∃bs,di l\bs/\q (.vw (.bl (bs.all id)))
 |_=>False
def DB:i5 K (λxs H Q=>∃(p:Addr)(bs:List Bool),xs=[.ref p]/\f_ K H p (bs.map V.bl)/\Q (.bl (bs.all id)) H) Wm:=by intro Z tm O ρ σ H ts vs q Q I h hp k;unfold Wm at hp;split at hp;let(bs,e,hp):=hp;let(v,rfl,a):=cA h;let(p,ws,rfl,q1,q2):=a.lst;rw[GN e q2] at q1;calc#[p,bs,9,q1,k _ hp _ H 41 #[I,dR]];calc hp.elim
def Wn(ts:List T)(q:Rt->Prop):Prop:=match ts with
 |[.lst l]=>∃ns,intsOf l\ns/\q (.vw (.int ns.sum))
 |_=>False
def DC:i5 K (λxs H Q=>∃(p:Addr)(ns:qan),xs=[.ref p]/\f_ K H p (ns.map V.int)/\Q (.int ns.sum) H) Wn:=by intro Z tm O ρ σ H ts vs q Q I h hp k;unfold Wn at hp;split at hp;let(bs,e,hp):=hp;let(v,rfl,a):=cA h;let(p,ws,rfl,q1,q2):=a.lst;rw[BG e q2] at q1;calc#[p,bs,9,q1,k _ hp _ H 41 #[I,bJ]];calc hp.elim
def OU(ts:List T)(q:Rt->Prop):Prop:=match ts with
 |[.int i]=>q (.vw (.int i))
 |[.bl b]=>q (.vw (.int (if b then 1 else 0)))
 |_=>False
def o4:i5 K (λxs H Q=>(∃i,xs=[.int i]/\Q (.int i) H)\/∃k,xs=[.bl k]/\Q (.int (if k then 1 else 0)) H) OU:=by intro Z tm O ρ σ H ts vs q Q I h hp k;unfold OU at hp;split at hp;let(v,rfl,a):=cA h;calc .inl #[_,by rw[a.int],k _ hp _ H 41 #[I,bJ]];let(v,rfl,a):=cA h;calc .inr #[_,by rw[a.bl],k _ hp _ H 41 #[I,bJ]];calc hp.elim
def adA(f:FP)(fb:FE):FP:=λρ Q=>f ρ λr=>match r with
 |.fr (.lst ts)=>fb ρ λy=>match y with
  |.int k=>-(2 ^ 63)<=k/\k<2 ^ 63/\19 * k.toNat<=sizeLine/\Q (.fr (.lst (List.replicate k.toNat ts).flatten))
  |_=>False
 |_=>False
theorem aB.rep{K:qaf}{H:Hp}{A:zm}{ts:List T}{vs:qak}(h:aB K H A ts vs):∀k:Nat,aB K H A (List.replicate k ts).flatten (List.replicate k vs).flatten
 |0=>aB.nil
 |k+1=>by rw[Kk,Kk,UA,UA];calc h.append (aB.rep h k)
def ua{f:FP}(ha:VP X Z a f)(hb:VR X Z b fb):VP X Z (.BinOp a .Mult b pos) (adA f fb):=.mk λtm=>PE.weak (Oy QU (ha tm) (hb tm)) λσ H Q #[ρ,O,q,I,hf,k]=>#[ρ,O,_,I,hf,λr hr v H1 s1 z=>by split at hr;let(l,rfl,J,(xs,e,q1),_):=z;show#[ρ,O,_,I.same s1,hr,λy hy w H2 s2 a2=>?_];split at hy;let(h1,h2,h3,hy):=hy;have q2:=(q1.same s2).bq gM;calc#[l,_,xs,9,a2.int,s2 _ _ e,h1,h2,by rw[q2.length];calc h3,λp hp=>k _ hy _ _ ((s1.trans s2).trans (aG hp)) (((I.same s1).same s2).wZ hp (q2.rep _))];calc hy.elim;calc hr.elim]
end
structure Df(K:qaf)(mg:qae)(x:Str)(st:Stmt)(ps:ω)(f:Addr)(fd:FuncData):Prop where
 F:Dr K x x st f fd
 m:mg x\.ref f
 b:Binds K fd ps []
def cp(P:Program)(w:World)(K:qaf)(mg:qae)(base:Heap)(x:Str)(ps:ω)(k:Nat)(sp:Sp):Prop :=
 ∃f fd,mg x\.ref f/\W.keepIn K (.ref f)=true/\Binds K fd ps []/\dz P w K mg base iP k f fd ps sp
def Df.gQ{st:Stmt}{k:Nat}{sp:Sp}(D:Df K mg x st ps f fd)(F:dz P w K mg base iP k f fd ps sp):cp P w K mg base x ps k sp :=
 #[f,fd,D.m,D.F.kp,D.b,F]
def gR{Ox:zm}:aZ #[H,[],Ox] i:=λ_ z=>nomatch z
section
def jJ{st:Stmt}{N:ω}{k:Nat}{G:List T->(Rt->Prop)->Prop}(F:Dr K x qual st f fd)(S:aI N ps (aq st))(hn:n=ps.length)(fA:∀(bP:Value) (A:Around) (outer:List Env) (s:Shared) (H:Hp) (E:XK) (Ox:zm),bA k (A.deeper (envOfC qual (aq st) 8 f bP))->∀ts q,G ts q ->
    ∃g,iQ (j_ iP P w K mg base N qual (aq st) f bP A outer s H E).C4 #[H,[],Ox] (cn st) g/\(19=n->g {nx:=λ_=>q (.vw .bO),rt:=λ_ r=>q r} (ts.map (λt=>some (t,false))++List.replicate (N.length-19) none))) :
  dz P w K mg base iP (k+1) f fd ps (cH K n G):=by
 have hp:∀n as k,pz (List.replicate n false) as k=[]:=by
  intro n;induction n with
  |zero=>intro as k;rfl
  |succ n ih=>intro as k;exact ih as (k+1)
 have hfi:∀n ρ,kU (List.replicate n false) ρ=[]:=by
  intro n;induction n with
  |zero=>intro ρ;rfl
  |succ n ih=>intro ρ;exact ih ρ.tail
 have he:∀n ts,19=n->xc (List.replicate n false) ts=ts.map λt=>some (t,false):=by
  intro n;induction n with
  |zero=>intro ts e;cases ts<;>simp_all [xc]
  |succ n ih=>
    intro ts e;cases ts with
    |nil=>simp at e
    |cons t ts=>rw[Kk,xc,ih ts (by simpa using e)];rfl
 show fnV F S (by rw[P5];calc hn) λbP A outer s H E as Ox hr ts q hl hG=>?_;rw[P5] at hl;let(g,h1,h2):=fA bP A outer s H E Ox hr ts (q []) hG;show#[g,by rw[hp];calc h1,?_];rw[he n ts hl];simp only[hfi];calc h2 hl
end
def bA.dG{k:Nat}(r:bA k A):A.units+101<cLine:=by have:=r.un;lia
def zM:bootBuiltins "list"\.type "list":=by decide +kernel
def BH:bootBuiltins "tuple"\.type "tuple":=by decide +kernel
def Wo:bootBuiltins "all"\.builtin "all":=by decide +kernel
def Wq:bootBuiltins "sum"\.builtin "sum":=by decide +kernel
def Wr:bootBuiltins "min"\.builtin "min":=by decide +kernel
def OW:bootBuiltins "int"\.type "int":=by decide +kernel
def mZ:bootBuiltins "str"\.type "str":=by decide +kernel
theorem nW:∀{fs:List Bool}{as:zm}{k:Nat},∀p∈pz fs as k,k<=p.1/\fs[p.1-k]?\true
 |[],_,_,p,hp=>nomatch hp
 |false::fs,as,k,p,hp=>by
  let(h1,h2):=nW (fs:=fs) p hp;show#[(),?_];have:p.1-k=(p.1-(k+1))+1:=by lia
  rw[this];simpa using h2
 |true::fs,a::as,k,p,hp=>by
  rcases cT.mp hp with z|z
  subst z;calc#[cD _,by simp];let(h1,h2):=nW (fs:=fs) p z;show#[(),?_];have:p.1-k=(p.1-(k+1))+1:=by lia
  rw[this];simpa using h2
 |true::fs,[],k,p,hp=>by
  let(h1,h2):=nW (fs:=fs) p hp;show#[(),?_];have:p.1-k=(p.1-(k+1))+1:=by lia
  rw[this];simpa using h2
def BI{fs:List Bool}{as Ox:zm}(h:fs[i]?≠some true):aZ #[H,pz fs as 0,Ox] i:=λp hp e=>by have:=(nW p hp).2;rw[Nat.sub_zero,e] at this;calc h this
def ig(lo:Int)(n:Nat):(rangeT lo n).length=n:=by unfold rangeT;rw[bN,sV]
def ij{lo:Int}{t:T}(h:(rangeT lo n)[i]?\t):i<n/\t=.int (lo+(i:Int)):=by
 unfold rangeT at h;rw[dQ] at h;cases e:(List.range n)[i]? with
 |none=>rw[e] at h;cases h
 |some j=>rw[e] at h;let(h1,h2):=dA.mp e;rw[List.getElem_range] at h2;rw[sV] at h1;subst h2;cases h;calc#[h1,9]
def fG{lo:Int}{h:FG}{g:FS}{d:LR}{ρ:En}(Pv:Nat->En->Prop)(h0:Pv 0 ρ)(hs:∀(i:Nat) ρ',i<n->Pv i ρ'->h (.int (lo+(i:Int))) ρ' λρ2=>g {nx:=Pv (i+1),ct:=Pv (i+1),bk:=d.nx,rt:=d.rt} ρ2)(hd:∀ρ',Pv n ρ'->d.nx ρ'):iF (rangeT lo n) h g d ρ:=#[Pv,h0,λi t ρ' e p=>by let(h1,rfl):=ij e;calc hs i ρ' h1 p,λρ' p=>hd ρ' (by rw[ig] at p;calc p)]
theorem cF{f:α->T}{xs:List α}{h:FG}{g:FS}{d:LR}{ρ:En}(Pv:Nat->En->Prop)(h0:Pv 0 ρ)(hs:∀(i:Nat) x ρ',xs[i]?\x->Pv i ρ'->h (f x) ρ' λρ2=>g {nx:=Pv (i+1),ct:=Pv (i+1),bk:=d.nx,rt:=d.rt} ρ2)(hd:∀ρ',Pv 27 ρ'->d.nx ρ'):iF (xs.map f) h g d ρ:=#[Pv,h0,λi t ρ' e p=>by
 rw[dQ] at e;cases q:xs[i]? with
 |none=>rw[q] at e;cases e
 |some x=>rw[q] at e;cases e;calc hs i x ρ' q p,λρ' p=>hd ρ' (by rw[bN] at p;calc p)]
def uc{c:Bool}{A:Prop}(hc:c=true)(h:A):if c=true then A else B:=by rw[ι hc];calc h
def i7{c:Bool}{A:Prop}(hc:c=false)(h:B):if c=true then A else B:=by rw[θ (by rw[hc];calc jq)];calc h
def cO{c A:Prop}[Decidable c](h1:c->A)(h2:¬ c->B):if decide c=true then A else B:=by by_cases h:c;rw[ι (ο h)];calc h1 h;rw[θ (by rw[ς h];calc jq)];calc h2 h
section
def kX{t:Addr}{items:Array Value}{x:Value}(hit:s.heap.IsTupleIter it t i)(ht:s.heap.IsTuple t items)(hx:items[i]?\x)(hQ:∀h',h'.IsTupleIter it t (i+1)->Heap.SameBut it 42 h'->Q x {s with heap:=h'}):wpAny 15 A (Builtin.SmallTypes.nextOf (.ref it)) Q E s:=by
 let(o,ho,hc,hd):=id hit;let(ol,hol,_,nl,hdl):=ht;show ζ (Γ hit.typeIs YI
  (ψ YI hit.typeIs F.entry_tuple_iterator_next ?_ (F.args_tuple_iterator_next_1 _)))
 change wpAny _ _ (field (.ref it) 0 >>= _) _ _ s;show ζ (Λ ho hd 9 (ζ (Λ ho hd 9 (ζ (aad hol hdl ?_)))));simp only[kA,hx];show ζ (aaw ho hd 4 (η #[x,9,η (hQ _ ?_ (Ux ..))]));exact#[_,Heap.get?_update_self _ ho (Obj.isFreed_of_fields (Y4 hd _)),(Obj.cls_mapFields ..).trans hc,by
  rw[Y4 hd];simp[rawInt]]
def mf{t:Addr}{items:Array Value}(hh:A.handled=none)(hit:s.heap.IsTupleIter it t i)(ht:s.heap.IsTuple t items)(hx:items[i]?=none)(hE:∀h' e,Heap.ExtBut it 42 h'->(∃o,h'.get? e\o/\o.cls=.type "StopIteration")->E (.ref e) {s with heap:=h'}):wpAny 15 A (Builtin.SmallTypes.nextOf (.ref it)) Q E s:=by
 let(o,ho,hc,hd):=id hit;let(ol,hol,_,nl,hdl):=ht;show ζ (Γ hit.typeIs YI
  (ψ YI hit.typeIs F.entry_tuple_iterator_next ?_ (F.args_tuple_iterator_next_1 _)))
 change wpAny _ _ (field (.ref it) 0 >>= _) _ _ s;show ζ (Λ ho hd 9 (ζ (Λ ho hd 9 (ζ (aad hol hdl ?_)))));simp only[kA,hx];show ζ (aag (ζ (aaw ho hd 4 (ζ (ζ (m:=firstArgMember _ _) (aaA (by first|rfl|(simp only[firstArgMember];rfl)) (Δ (ζ (wpAny_handled ?_)) (by size_fits))))))))
 first|rw[show A.in1.handled=none from hh]|rw[hh]
 calc ζ (η (wpAny_throw (hE _ _ (((Ux ..).extBut.push _).push _) #[_,hW _ 9,9])))
end
structure Part(prog:Program)(w:World)(i:Addr)(fp:zm)(n:Nat)(Pv:Nat->Value->Prop)(st:Nat->Heap->Prop):Prop where
 draws:∀A:Around,A.handled=none->Draws prog w A i fp n Pv st
 mem:i∈fp
 fld:∀k h,st k h->∃o vs,h.get? i\o/\o.data=.fields vs
def DD(it l:Addr)(eV:l≠it)(items:Array Value):Part prog w it [it,l] items.size (λi v=>items[i]?\v) (λi h=>h.IsListIter it l i/\h.IsList l items) :=
 #[λA hh=>Draws.list hh it l eV items,by simp,λk h st=>let #[#[o,e,_,d],_]:=st;#[o,_,e,d]]
def zN(it l:Addr)(eV:l≠it)(items:Array Value):Part prog w it [it,l] items.size (λi v=>items[i]?\v) (λi h=>h.IsTupleIter it l i/\h.IsTuple l items) :=
 #[λA hh=>{live:=λ_ _ st=>let #[o,ho,_]:=st.1;#[o,ho],frame:=λ_ _ _ st hk=>#[let #[o,ho,r]:=st.1;#[o,hk it 4 o ho,r],let #[o,ho,r]:=st.2;#[o,hk l 4 o ho,r]],item:=λi s Q E hi st hQ=>kX st.1 st.2 (x:=items[i]) (by simp[hi]) λh' LZ hs'=>hQ _ h' s.toks (by simp[hi]) #[LZ,st.2.extBut hs'.extBut eV] hs',done:=λs Q E st hE=>mf hh st.1 st.2 4 hE},by simp,λk h st=>let #[#[o,e,_,d],_]:=st;#[o,_,e,d]]
def GO(it:Addr)(x:Str)(t:Tok):Part prog w it [it] x.cps.size (λi v=>∃c u,x.cps[i]?\c/\v=.str #[([c].toArray)] u) (λi h=>h.IsStrIter it (strIterType x) x t i):=by
 rcases dg x with z|z
 rw[z];calc#[λA hh=>Draws.strAscii hh it x t,by simp,λk h st=>let #[o,e,_,d]:=st;#[o,_,e,d]];rw[z];calc#[λA hh=>Draws.strWide hh it x t,by simp,λk h st=>let #[o,e,_,d]:=st;#[o,_,e,d]]
structure Apart(z TI TO i1 i2:Addr)(qC o5:zm):Prop where
 TIz:TI≠z
 TOz:TO≠z
 i1z:i1≠z
 i2z:i2≠z
 TITO:TI≠TO
 TIi1:TI≠i1
 TIi2:TI≠i2
 TOi1:TO≠i1
 TOi2:TO≠i2
 i12:i1≠i2
 z1:z∉qC
 z2:z∉o5
 O1:TO∉qC
 O2:TO∉o5
 x1:i2∉qC
 x2:i1∉o5
section
variable{z TI TO i1 i2:Addr}{qC o5:zm}{n1 n2:Nat}{P1 P2:Nat->Value->Prop}{S1 S2:Nat->Heap->Prop}
def GP{k:Nat}{a b:Value}(hh:A.handled=none)(D:Apart z TI TO i1 i2 qC o5)(p1:Part prog w i1 qC n1 P1 S1)(p2:Part prog w i2 o5 n2 P2 S2)(hz:IsZip 42 z TI TO .none)(L3:IsPair 42 TI (.ref i1) (.ref i2))(L4:IsPair 42 TO a b)(h1:S1 k 42)(h2:S2 k 42)(hx:k<n1)(hy:k<n2)(hQ:∀x y h' tk,P1 k x->P2 k y->IsZip h' z TI TO (rawInt 8)->IsPair h' TO x y->S1 (k+1) h'->S2 (k+1) h'->IsPair h' 8 x y->h'.objs.size=8+1 ->
    (∀c o,c≠z->c≠TO->c≠i1->c≠i2->s.heap.get? c\o->h'.get? c\o)->Q 24 {s with heap:=h',toks:=tk}) :
  wpAny 15 A (Builtin.«zip.__next__» #[[.ref z],[]]) (λfin s'=>∃v,fin=.done (.ret v)/\Q v s') E s:=by
 change wpAny _ _ (field (.ref z) 2 >>= _) _ _ _;show ζ (Λ hz 9 9 (ζ (Λ hz 9 9 (ζ (aad L3 9 (ζ (ζ (Λ hz 9 9 (η (ζ (aag (ζ (Λ hz 9 9 (ζ (Θ hz 4 λh₁ Gb zO=>ζ ?_)))))))))))))));have f1:∀{m h h' c},c∉qC->S1 m h->Heap.SameBut c h h'->S1 m h':=λ{m h h' c} hc st sb=>(p1.draws A hh).frame m h h' st λb hb o e=>sb.extBut b o (λq=>hc (q▸hb)) e;have f2:∀{m h h' c},c∉o5->S2 m h->Heap.SameBut c h h'->S2 m h':=λ{m h h' c} hc st sb=>(p2.draws A hh).frame m h h' st λb hb o e=>sb.extBut b o (λq=>hc (q▸hb)) e;show ζ (ζ (aaH (ζ ((p1.draws _ hh).item k _ _ _ hx (f1 D.z1 h1 zO) λx h₂ tk₂ px h1₂ wX=>η ?_))));have GQ:=wX.extBut _ _ D.TOi1 (zO.extBut _ _ D.TOz L4);show ζ (aad GQ 9 (ζ (aaB GQ λh₃ Ws yW=>ζ (wpAny_letGo (η ?_)))));show ζ (ζ (aaH (ζ ((p2.draws _ hh).item k _ _ _ hy (f2 D.O2 (f2 D.x2 (f2 D.z2 h2 zO) wX) yW) λy h₄ tk₄ py h2₄ E_=>η ?_))));have Wu:=E_.extBut _ _ D.TOi2 Ws;show ζ (aad Wu 9 (ζ (aaB Wu λh₅ L5 Fb=>?_)))
 replace L5:IsPair h₅ TO x y:=L5
 show ζ (wpAny_letGo (η (η ?_)));show ζ (aad L5 9 (ζ (wpAny_newTuple ?_)));have hsz:h₅.objs.size=8:=by rw[Fb.1,E_.1,yW.1,wX.1,zO.1]
 have hz₅:=Fb.extBut _ _ D.TOz.symm (E_.extBut _ _ D.i2z.symm (yW.extBut _ _ D.TOz.symm (wX.extBut _ _ D.i1z.symm Gb)));have hk₅:∀c o,c≠z->c≠TO->c≠i1->c≠i2->s.heap.get? c\o->h₅.get? c\o:=λc o c1 c2 c3 c4 e=>
  Fb.extBut _ _ c2 (E_.extBut _ _ c4 (yW.extBut _ _ c2 (wX.extBut _ _ c3 (zO.extBut _ _ c1 e))))
 have h1₅:=f1 D.O1 (f1 D.x1 (f1 D.O1 h1₂ yW) E_) Fb;have h2₅:=f2 D.O2 h2₄ Fb;have Wv:=dB hz₅;show ζ ?_;have hz₆:IsZip (h₅.push {cls:=.type "tuple",data:=.seq ([x,y].toArray)}) z TI TO .ellipsis:=de _ hz₅;show ζ (Θ hz₆ 4 λh₇ hz₇ hs₇=>Θ hz₇ 4 λh₈ hz₈ hs₈=>?_);have up:∀c o,c≠z->h₅.get? c\o->h₈.get? c\o:=λc o c1 e=>hs₈.extBut _ _ c1 (hs₇.extBut _ _ c1 (de _ e));have hT₈:=hs₈.extBut _ _ (C0 Wv) (hs₇.extBut _ _ (C0 Wv) (hW _ 9));have hz8:h₈.objs.size=h₅.objs.size+1:=by rw[hs₈.1,hs₇.1,CW]
 have h1₈:=(p1.draws A hh).frame _ _ _ h1₅ λb hb o e=>up b o (λq=>D.z1 (q▸hb)) e;have h2₈:=(p2.draws A hh).frame _ _ _ h2₅ λb hb o e=>up b o (λq=>D.z2 (q▸hb)) e;rw[hsz] at hz₈ hT₈ hz8;show η #[_,9,?_];rw[hsz];calc hQ x y h₈ tk₄ px py hz₈ (up _ _ D.TOz L5) h1₈ h2₈ hT₈ hz8 λc o c1 c2 c3 c4 e=>up c o c1 (hk₅ c o c1 c2 c3 c4 e)
def L6{k:Nat}{a b:Value}{Q:PySem.Fin->Shared->Prop}(hh:A.handled=none)(D:Apart z TI TO i1 i2 qC o5)(p1:Part prog w i1 qC n1 P1 S1)(p2:Part prog w i2 o5 n2 P2 S2)(hz:IsZip 42 z TI TO .none)(L3:IsPair 42 TI (.ref i1) (.ref i2))(L4:IsPair 42 TO a b)(h1:S1 k 42)(h2:S2 k 42)(Ru:k=n1\/(k<n1/\k=n2))(hE:∀h' tk e,(∀c o,c≠z->c≠TO->c≠i1->c≠i2->s.heap.get? c\o->h'.get? c\o)->(∃o,h'.get? e\o/\o.cls=.type "StopIteration")->E (.ref e) {s with heap:=h',toks:=tk}) :
  wpAny 15 A (Builtin.«zip.__next__» #[[.ref z],[]]) Q E s:=by
 have f1:∀{m h h' c},c∉qC->S1 m h->Heap.SameBut c h h'->S1 m h':=λ{m h h' c} hc st sb=>(p1.draws A hh).frame m h h' st λb hb o e=>sb.extBut b o (λq=>hc (q▸hb)) e;have f2:∀{m h h' c},c∉o5->S2 m h->Heap.SameBut c h h'->S2 m h':=λ{m h h' c} hc st sb=>(p2.draws A hh).frame m h h' st λb hb o e=>sb.extBut b o (λq=>hc (q▸hb)) e;change wpAny _ _ (field (.ref z) 2 >>= _) _ _ _;show ζ (Λ hz 9 9 (ζ (Λ hz 9 9 (ζ (aad L3 9 (ζ (ζ (Λ hz 9 9 (η (ζ (aag (ζ (Λ hz 9 9 (ζ (Θ hz 4 λh₁ Gb zO=>ζ (ζ (ζ (aaH ?_))))))))))))))))));obtain rfl|⟨dc,rfl⟩:=Ru
 . show ζ ((p1.draws _ hh).done _ _ _ (f1 D.z1 h1 zO) λh₂ e wX he=>?_);let(oe,Rv,Ww):=he;have T_:=wX _ _ D.i1z.symm Gb;have hez:e≠z:=λx=>by subst x;rw[T_] at Rv;cases Rv;simp at Ww
   show Θ T_ 4 λh₃ _ yW=>hE h₃ _ e (λc o c1 _ c3 _ x=>yW.extBut _ _ c1 (wX _ _ c3 (zO.extBut _ _ c1 x))) #[oe,yW.extBut _ _ hez Rv,Ww]
 . show ζ ((p1.draws _ hh).item k _ _ _ dc (f1 D.z1 h1 zO) λx h₂ tk₂ px h1₂ wX=>η ?_);have GQ:=wX.extBut _ _ D.TOi1 (zO.extBut _ _ D.TOz L4);show ζ (aad GQ 9 (ζ (aaB GQ λh₃ Ws yW=>ζ (wpAny_letGo (η (ζ (ζ (aaH (ζ ((p2.draws _ hh).done _ _ _ (f2 D.O2 (f2 D.x2 (f2 D.z2 h2 zO) wX) yW) λh₄ e E_ he=>?_))))))))));let(oe,Rv,Ww):=he;have hz₄:=E_ _ _ D.i2z.symm (yW.extBut _ _ D.TOz.symm (wX.extBut _ _ D.i1z.symm Gb));have hez:e≠z:=λx=>by subst x;rw[hz₄] at Rv;cases Rv;simp at Ww
   show Θ hz₄ 4 λh₅ _ Fb=>hE h₅ _ e (λc o c1 c2 c3 c4 x=>Fb.extBut _ _ c1 (E_ _ _ c4 (yW.extBut _ _ c2 (wX.extBut _ _ c3 (zO.extBut _ _ c1 x))))) #[oe,Fb.extBut _ _ hez Rv,Ww]
def nH{k:Nat}{a b:Value}{Q:(Option Value)->Shared->Prop}(hh:A.handled=none)(D:Apart z TI TO i1 i2 qC o5)(p1:Part prog w i1 qC n1 P1 S1)(p2:Part prog w i2 o5 n2 P2 S2)(hz:IsZip 42 z TI TO .none)(L3:IsPair 42 TI (.ref i1) (.ref i2))(L4:IsPair 42 TO a b)(h1:S1 k 42)(h2:S2 k 42)(hx:k<n1)(hy:k<n2)(hQ:∀x y h' tk,P1 k x->P2 k y->IsZip h' z TI TO (rawInt 8)->IsPair h' TO x y->S1 (k+1) h'->S2 (k+1) h'->IsPair h' 8 x y->h'.objs.size=8+1 ->
    (∀c o,c≠z->c≠TO->c≠i1->c≠i2->s.heap.get? c\o->h'.get? c\o)->Q (some 24) {s with heap:=h',toks:=tk}):wpAny 15 A (pyNext (.ref z)) Q E s:=by
 have hT:s.TypeIs (.ref z) "zip":=#[_,hz,9];exact ζ (aap (Γ hT F.slot_zip_next
  (wpAny_call_entry F.slot_zip_next hT F.entry_zip_next
    (GP hh D p1 p2 hz L3 L4 h1 h2 hx hy λx y h' tk q1 q2 a1 a2 a3 a4 a5 a6 a7=>η (hQ x y h' tk q1 q2 a1 a2 a3 a4 a5 a6 a7)) (F.args_zip_next_1 _))))
def o6{k:Nat}{a b:Value}{Q:(Option Value)->Shared->Prop}(hh:A.handled=none)(D:Apart z TI TO i1 i2 qC o5)(p1:Part prog w i1 qC n1 P1 S1)(p2:Part prog w i2 o5 n2 P2 S2)(hz:IsZip 42 z TI TO .none)(L3:IsPair 42 TI (.ref i1) (.ref i2))(L4:IsPair 42 TO a b)(h1:S1 k 42)(h2:S2 k 42)(Ru:k=n1\/(k<n1/\k=n2))(hQ:∀h' tk,(∀c o,c≠z->c≠TO->c≠i1->c≠i2->s.heap.get? c\o->h'.get? c\o)->Q none {s with heap:=h',toks:=tk}):wpAny 15 A (pyNext (.ref z)) Q E s:=by
 have hT:s.TypeIs (.ref z) "zip":=#[_,hz,9];show ζ (aap (Γ hT F.slot_zip_next
  (ψ F.slot_zip_next hT F.entry_zip_next (L6 hh D p1 p2 hz L3 L4 h1 h2 Ru λh' tk e hk he=>?_) (F.args_zip_next_1 _))))
 let(o,ho,hc):=he;calc ζ (aaz #[o,ho,hc] isSubtype_stop (η (hQ _ _ hk)))
end
def i8(v:Value)(o:Obj)(c:Heap->Prop):Prop:=∀(prog:Program)(w:World)(A:Around)(E:qad)(s:Shared)(Q:qad),c 42 ->
 Q 24 {s with heap:=s.heap.push o}->wpAny 15 A (pyIter v) Q E s
def xn(l:Addr)(items:Array Value):i8 (.ref l) {cls:=.type "list_iterator",data:=.fields ([.ref l,.int 0 0].toArray)} (λh=>h.IsList l items):=λ_ _ _ _ _ _ h q=>aav h q
def ud(l:Addr)(items:Array Value):i8 (.ref l) {cls:=.type "tuple_iterator",data:=.fields ([.ref l,.int 0 0].toArray)} (λh=>h.IsTuple l items):=λ_ _ _ _ _ _ h q=>wpAny_pyIter_tuple h q
def zP(x:Str)(t:Tok):i8 (.str x t) {cls:=.type (strIterType x),data:=.fields ([.str x t,.int 0 0].toArray)} (λ_=>True):=λ_ _ _ _ _ _ _ q=>wpAny_pyIter_strU q
abbrev Zu(h:Heap)(o1 o2:Obj):Heap:=((h.push o1).push o2).push {cls:=.type "tuple",data:=.seq ([.ref h.objs.size,.ref (h.push o1).objs.size].toArray)}
abbrev Zv(h:Heap)(o1 o2:Obj):Heap:=(Zu h o1 o2).push {cls:=.type "tuple",data:=.seq ([.none,.none].toArray)}
abbrev Rx(h:Heap)(o1 o2:Obj):Heap:=(Zv h o1 o2).push {cls:=.type "zip",data:=.fields ([.none,.bool false,.bool false,.ref ((h.push o1).push o2).objs.size,.ref (Zu h o1 o2).objs.size].toArray)}
def zQ{v1 v2:Value}{o1 o2:Obj}{c1 c2:Heap->Prop}(i1:i8 v1 o1 c1)(i2:i8 v2 o2 c2)(zR:∀h o,c2 h->c2 (h.push o)) :
  Meets (Builtin.«zip.__new__» #[[.type "zip",v1,v2],[]]) (λ_ R s=>c1 42/\c2 42 /\
   R (.ok (.ret (.ref (Zv 42 o1 o2).objs.size))) {s with heap:=Rx 42 o1 o2}) :=
 .of_wp λprog w A R s h=>by
  let(hp,g,d,tk,os):=s;let(hc1,Lh,h):=h;have zS:=sub_zip;have hC2:=zR _ o1 Lh;have I1:=λA E Q q=>i1 prog w A E _ Q hc1 q;have I2:∀A E Q,Q (.ref (hp.push o1).objs.size) #[(hp.push o1).push o2,g,d,tk,os]->wpAny 15 A (pyIter v2) Q E #[hp.push o1,g,d,tk,os]:=λA E Q q=>i2 prog w A E _ Q hC2 q
  wp_walk using I1,I2
  calc#[_,9,h]
section
def DE{v1 v2:Value}{o1 o2:Obj}{c1 c2:Heap->Prop}(i1:i8 v1 o1 c1)(i2:i8 v2 o2 c2)(zR:∀h o,c2 h->c2 (h.push o))(h1:c1 42)(h2:c2 42)(Wx:o1.isFreed=false)(Wy:o2.isFreed=false)(h:∀h',IsZip h' (8+04) (8+2) (8+03) .none->IsPair h' (8+2) 24 (.ref 36) ->
    IsPair h' (8+03) .none .none->h'.get? 8\o1->h'.get? 36\o2->h'.objs.size=8+05 ->
    (∀c o,s.heap.get? c\o->h'.get? c\o)->Q (.ref (8+04)) {s with heap:=h'}) :
  wpAny 15 A (call (.type "zip") [v1,v2]) Q E s:=by
 show callType_new F.called_zip 5 (F.typeCall_zip_2 _ _) (F.newCall_zip_2 _ _) (λobj=>F.args_object_init_3 obj _ _) F.entry_zip_new
  (zQ i1 i2 zR) #[h1,h2,?_]
 have z1:(s.heap.push o1).objs.size=8+1:=CW ..;have z2:((s.heap.push o1).push o2).objs.size=8+2:=by rw[CW,z1]
 have z3:(Zu 42 o1 o2).objs.size=8+03:=by rw[CW,z2]
 have z4:(Zv 42 o1 o2).objs.size=8+04:=by rw[CW,z3]
 have z5:(Rx 42 o1 o2).objs.size=8+05:=by rw[CW,z4]
 have g5:(Rx 42 o1 o2).get? (Zv 42 o1 o2).objs.size\_:=hW _ 9;have g4:(Rx 42 o1 o2).get? (Zu 42 o1 o2).objs.size\_:=de _ (hW _ 9);have g3:(Rx 42 o1 o2).get? ((s.heap.push o1).push o2).objs.size\_:=de _ (de _ (hW _ 9));have g2:(Rx 42 o1 o2).get? (s.heap.push o1).objs.size\_:=de _ (de _ (de _ (hW _ Wy)));have g1:(Rx 42 o1 o2).get? 8\_:=de _ (de _ (de _ (de _ (hW _ Wx))));rw[z2,z3,z4] at g5;rw[z1,z2] at g3;rw[z3] at g4;rw[z1] at g2;rw[z4];exact#[#[_,g5,9],h _ g5 g3 g4 g1 g2 z5 λc o x=>
  de _ (de _ (de _ (de _ (de _ x))))]
end
structure DF(P:Program)(w:World)(K:qaf)(i:Addr)(fp:zm)(sq:Hp->qak->Prop)(it:Nat->Heap->Prop):Prop where
 part:∀(X:Cx)(ε:qaa)(σ:St)(H:Hp)(s:Shared),34=P->X.w=w->X.K=K->Inv X ε σ H s->∀xs,sq H xs ->
  ∃(Pv:Nat->Value->Prop)(S:Nat->Heap->Prop),Part P w i fp 27 Pv S/\(∀k v,Pv k v->∃x,xs[k]?\x/\RelV x v)/\(∀k h,S k h->it k h)/\∀k,it k 42->S k 42
 keep:∀k h h',it k h->(∀o,h.get? i\o->h'.get? i\o)->it k h'
 obj:∀k h,it k h->∃o,h.get? i\o/\∀v,o.data≠.cell v
 inj:∀(X:Cx)(ε:qaa)(σ:St)(H:Hp)(s:Shared),X.K=K->Inv X ε σ H s->∀xs ys,sq H xs->sq H ys->xs=ys
def src_list(i l:Addr)(eV:l≠i):DF P w K i [i,l] (λH xs=>f_ K H l xs) (λk h=>h.IsListIter i l k) where
 part:=λX ε σ H s hP hw hK I xs hq=>by
  subst hP hw hK;let(aP,rv,p,hz):=I.list hq;have e:aP.toArray.size=27:=by simp[rv.length]
  show#[_,_,e▸DD i l eV aP.toArray,λk v hv=>?_,λk h st=>st.1,λk st=>#[st,p.isList]];have wI:aP[k]?\v:=by simpa using hv
  have hk:k<27:=by rw[<- e];simp;exact (dA.mp wI).1
  let(u,hu,ru):=rv.get (show xs[k]?\xs[k] by simp);rw[wI] at hu;cases hu;exact#[_,by simp,ru]
 keep:=λk h h' st q=>st.at q
 obj:=λk h st=>let #[o,e,_,d]:=st;#[o,e,λv z=>by rw[d] at z;cases z]
 inj:=λX ε σ H s hK I xs ys h1 h2=>by subst hK;calc I.kG h1 h2
def src_tuple(i l:Addr)(eV:l≠i):DF P w K i [i,l] (λH xs=>dO K H l xs) (λk h=>h.IsTupleIter i l k) where
 part:=λX ε σ H s hP hw hK I xs hq=>by
  subst hP hw hK;let(aP,rv,p,hz):=I.tuple hq;have e:aP.toArray.size=27:=by simp[rv.length]
  show#[_,_,e▸zN i l eV aP.toArray,λk v hv=>?_,λk h st=>st.1,λk st=>#[st,p]];have wI:aP[k]?\v:=by simpa using hv
  have hk:k<27:=by rw[<- e];simp;exact (dA.mp wI).1
  let(u,hu,ru):=rv.get (show xs[k]?\xs[k] by simp);rw[wI] at hu;cases hu;exact#[_,by simp,ru]
 keep:=λk h h' st q=>let #[o,e,r]:=st;#[o,q o e,r]
 obj:=λk h st=>let #[o,e,_,d]:=st;#[o,e,λv z=>by rw[d] at z;cases z]
 inj:=λX ε σ H s hK I xs ys h1 h2=>by subst hK;calc I.lT h1 h2
def zU(x:Str):qak:=x.cps.toList.map λc=>.str #[([c].toArray)]
def L7(i:Addr)(x:Str)(t:Tok):DF P w K i [i] (λ_ xs=>xs=zU x) (λk h=>h.IsStrIter i (strIterType x) x t k) where
 part:=λX ε σ H s hP hw hK I xs hq=>by
  subst hP hw hK hq;have e:x.cps.size=(zU x).length:=by unfold zU;simp
  show#[_,_,e▸GO i x t,λk v hv=>?_,λk h st=>st,λk st=>st];let(c,u,h1,rfl):=hv;exact#[.str #[([c].toArray)],by unfold zU;rw[dQ];simp[h1],u,9]
 keep:=λk h h' st q=>let #[o,e,r]:=st;#[o,q o e,r]
 obj:=λk h st=>let #[o,e,_,d]:=st;#[o,e,λv z=>by rw[d] at z;cases z]
 inj:=λX ε σ H s hK I xs ys h1 h2=>by rw[h1,h2]
section
def L8{ch:zm}(I:Inv X ε σ H s)(k:∀b u,b∉ch->s.heap.get? b\u->h'.get? b\u)(hf:∀b∈ch,lV X ε H b):Inv X ε σ H {s with heap:=h',toks:=t'}:=by
 have Fu:∀b u,H b\u->b∉ch:=λb u e z=>by rw[(hf b z).1] at e;cases e
 show I.step (λb hb=>?_) (λb u _ _ hc e _=>k b u hc e) (λb u _ _ hc e _=>#[u.slots,k b u hc e]) (λb u _ e n=>n) (λb u hc e=>#[u,k b u hc e])
  (λb xs e=>e) (λb u v e=>e) (λb ps e=>#[([].toArray),?_]) (λm hm=>?_) (λb u e=>?_) I.bare
 let(_,f1,_,f3,f4,f5):=hf b hb;calc#[f3,f1,f4,f5];rw[e];simp;let(ob,es,ep,ho,r):=hm;calc#[ob,es,ep,k _ ob (λz=>(hf _ z).2.1 9) ho,r];show (I.bB b u e).wD (λc v hc q=>k c v ?_ q) (λc q=>q) λc xs q=>q;obtain z|z:=hc
 rw[z];calc Fu b u e;calc Fu c _ z
end
def Itz(zV zW:Hp->qak->Prop):It :=
 #[λi H=>∃xs ys,zV H xs/\zW H ys/\i<27/\i<ys.length,λi H v H'=>∃t x y,H t=none/\v=.ref t/\(∀xs,zV H xs->xs[i]?\x)/\(∀ys,zW H ys->ys[i]?\y)/\H'=upd H t (.tup [x,y]),
  λi H=>∃xs ys,zV H xs/\zW H ys/\(i=27\/(i<27/\i=ys.length))]
def GR{x1}{z TI TO i1 i2:Addr}{qC o5:zm}{zV zW:Hp->qak->Prop}{t1 t2:Nat->Heap->Prop}(D:Apart z TI TO i1 i2 qC o5)(p1:DF P w K i1 qC zV t1)(p2:DF P w K i2 o5 zW t2) :
  Turn P w K (.Tuple elts x1 tp) (Itz zV zW) [z,TI,TO,i1,i2] z (λi h=>IsZip h z TI TO .none/\IsPair h TI (.ref i1) (.ref i2)/\(∃a b,IsPair h TO a b)/\t1 i h/\t2 i h) where
 mem:=by simp
 obj:=λi h st b hb=>by
  let(h1,h2,(a,c,h3),h4,h5):=st;simp only[cT,eh,Ψ] at hb;obtain rfl|rfl|rfl|rfl|rfl:=hb
  calc#[_,h1,λv q=>by cases q];calc#[_,h2,λv q=>by cases q];calc#[_,h3,λv q=>by cases q];calc p1.obj i h h4;exact p2.obj i h h5
 keep:=λi h h' st k=>by let(h1,h2,(a,c,h3),h4,h5):=st;exact#[k z 4 _ h1,k TI 4 _ h2,#[a,c,k TO 4 _ h3],p1.keep i h h' h4 λo q=>k i1 4 o q,p2.keep i h h' h5 λo q=>k i2 4 o q]
 item:=by
  intro X hP hw hK hc i ε s σ H E I hf st hg;let(xs,ys,Zw,OX,l1,l2):=hg;let(h1,h2,(a,c,h3),h4,h5):=st;let(P1,S1,q1,v1,b1,f1):=p1.part X ε σ H s hP hw hK I xs Zw;let(P2,S2,q2,v2,b2,f2):=p2.part X ε σ H s hP hw hK I ys OX;show nH (I.ok.hd hc) D q1 q2 h1 h2 h3 (f1 i h4) (f2 i h5) l1 l2 λx y h₁ tk px py Gb adB s1 s2 hp₁ hsz hk=>?_;let(x',ex,rx):=v1 i x px;let(y',ey,ry):=v2 i y py;show#[_,9,wpAny_letOwnedTupleGo_zip Gb λh₂ T_ wX=>?_];have qN:=wX;have dc:=dB h1;have hte:=C0 dc;have kk:∀b ob,b∉[z,TI,TO,i1,i2]->s.heap.get? b\ob->h₂.get? b\ob:=λb ob hb q=>by simp only[cT,eh,Ψ,not_or] at hb;exact (qN.2 b hb.1).trans (hk b ob hb.1 hb.2.2.1 hb.2.2.2.1 hb.2.2.2.2 q)
  have new:bL 34 X.w (upd H 8 (.tup [x',y'])) h₂ 8 (.tup [x',y']) :=
   #[by change 2<=sizeLine;rw[π];decide,[x,y],.cons rx (.cons ry .nil),#[_,(qN.2 _ hte).trans hp₁,9,_,9]]
  show#[.ref 8,upd H 8 (.tup [x',y']),I.grown kk hf (cD _) new,9,#[_,x',y',I.fresh,9,λzs hz=>by rw[p1.inj X ε σ H s hK I _ _ hz Zw];calc ex,λzs hz=>by rw[p2.inj X ε σ H s hK I _ _ hz OX];calc ey,9],#[T_,?_,#[x,y,?_],?_,?_],λb hb=>?_];calc (qN.2 TI D.TIz).trans (hk TI _ D.TIz D.TITO D.TIi1 D.TIi2 h2);calc (qN.2 TO D.TOz).trans adB;calc p1.keep _ _ _ (b1 _ _ s1) λo q=>(qN.2 i1 D.i1z).trans q;calc p2.keep _ _ _ (b2 _ _ s2) λo q=>(qN.2 i2 D.i2z).trans q;have T5:b<8:=by
   simp only[cT,eh,Ψ] at hb;obtain rfl|rfl|rfl|rfl|rfl:=hb
   calc dc;calc dB h2;calc dB h3;let(o,e,_):=p1.obj i _ h4;calc dB e;let(o,e,_):=p2.obj i _ h5;exact dB e
  rw[au (gr T5)];exact (hf b hb).1
 done:=by intro X hP hw hK hc i ε s σ H E I hf st hg;let(xs,ys,Zw,OX,he):=hg;let(h1,h2,(a,c,h3),h4,h5):=st;let(P1,S1,q1,v1,b1,f1):=p1.part X ε σ H s hP hw hK I xs Zw;let(P2,S2,q2,v2,b2,f2):=p2.part X ε σ H s hP hw hK I ys OX;show o6 (I.ok.hd hc) D q1 q2 h1 h2 h3 (f1 i h4) (f2 i h5) he λh' tk hk=>#[9,L8 I (λb u hb q=>?_) hf];simp only[cT,eh,Ψ,not_or] at hb;exact hk b u hb.1 hb.2.2.1 hb.2.2.2.1 hb.2.2.2.2 q
 self:=λ_ _ _ _ _ st h=>by let(h1,_):=st;calc wpAny_pyIter_zip h1 h
inductive ZK(K:qaf)(H:Hp):V->(Hp->qak->Prop)->Prop where
 |lst {a:Addr} {xs:qak}:f_ K H a xs->ZK K H (.ref a) (λH xs=>f_ K H a xs)
 |tup {a:Addr} {xs:qak}:dO K H a xs->ZK K H (.ref a) (λH xs=>dO K H a xs)
 |str (z:Str):ZK K H (.str z) (λ_ xs=>xs=zU z)
theorem OY{x:V}{sq:Hp->qak->Prop}(I:Inv X ε σ H s)(z:ZK X.K H x sq)(r:RelV x u) :
  ∃(o:Obj)(c:Heap->Prop)(fp:zm)(it:Addr->Nat->Heap->Prop),i8 u o c/\c 42/\(∀h o,c h->c (h.push o))/\o.isFreed=false/\(∀b∈fp,b<8) /\
   ∀i,8<=i->DF 34 X.w X.K i (i::fp) sq (it i)/\∀h,h.get? i\o->it i 0 h:=by
 cases z with
 |lst hq=>
   rename_i a xs
   cases r;let(aP,rv,p,hz):=I.list hq;have hl:a<8:=by let(o,n,e,_):=p;exact dB e
   show#[_,_,[a],λi k h=>h.IsListIter i a k,xn a aP.toArray,p.isList,λh o q=>Heap.IsList.push q _,9,λb hb=>by rw[f6.mp hb];calc hl,λi hi=>#[src_list i a (gr (qH hl hi)),λh e=>#[_,e,9,9]]]
 |tup hq=>
   rename_i a xs
   cases r;let(aP,rv,p,hz):=I.tuple hq;have hl:a<8:=by let(o,e,_):=p;exact dB e
   show#[_,_,[a],λi k h=>h.IsTupleIter i a k,ud a aP.toArray,p,λh o q=>(let #[o',e,r]:=q;#[o',de _ e,r]),9,λb hb=>by rw[f6.mp hb];calc hl,λi hi=>#[src_tuple i a (gr (qH hl hi)),λh e=>#[_,e,9,9]]]
 |str z=>let(t,rfl):=r;show#[_,_,[],λi k h=>h.IsStrIter i (strIterType z) z t k,zP z t,trivial,λ_ _ _=>trivial,9,λb hb=>?_,λi hi=>#[L7 i z t,λh e=>#[_,e,9,9]]];cases hb
def nn{a b:Nat}(h:a<b):a≠b:=gr h
def GU{qC o5:zm}(h1:∀b∈qC,b<n)(h2:∀b∈o5,b<n):Apart (n+04) (n+2) (n+03) n (n+1) (n::qC) ((n+1)::o5):=by
 have k1:∀b:Nat,n<b->b∉(n::qC):=λb hb m=>by
  rcases cT.mp m with q|q
  calc C0 hb q;exact CY _ (TV hb (h1 b q))
 have k2:∀b:Nat,n+1<b->b∉((n+1)::o5):=λb hb m=>by
  rcases cT.mp m with q|q
  calc C0 hb q;exact CY _ (TV (TV (Ba n) hb) (h2 b q))
 have k3:n∉((n+1)::o5):=λm=>by
  rcases cT.mp m with q|q
  calc gr (Ba n) q;exact CY _ (h2 n q)
 calc#[nn (),nn (),nn (),nn (),nn (),(nn ()).symm,(nn ()).symm,(nn ()).symm,(nn ()).symm,nn (),k1 _ (),k2 _ (),k1 _ (),k2 _ (),k1 _ (),k3]
def L9{c:Nat}(h:c∈[n+04,n+2,n+03,n,n+1]):n<=c:=by
 simp only[cT,eh,Ψ] at h
 lia
def adC(K:qaf)(ta:TA):TI:=λσ H R=>ta σ H λvs H1=>E4 λx y zV zW=>vs=[x,y]/\ZK K H1 x zV/\ZK K H1 y zW/\R (Itz zV zW) H1
section
variable{Z:Zc}
def boot_zip:bootBuiltins "zip"\.type "zip":=by decide +kernel
def Ry{x1}{a:Expr}{ta:TA}{pos:Pos}(hg:Gl X "zip")(hm:X.mg "zip"=none)(ha:PA X [a,b] ta)(hs:starEach [a,b] 3=[(false,eval a 3),(false,eval b 3)])(Dg:starEach [b] 3=[(false,eval b 3)]) :
  PI X (.Tuple elts x1 tp) (.Call (.Name "zip" p) [a,b] [] pos) (adC X.K ta):=by
 intro ε s σ H R I h;show Call_ (lQ I hg hm boot_zip (YH (cy (ha pos ε s σ H _ I h) λus s1 #[vs,H1,I1,r1,q1]=>?_) (by rw[hs,Dg]) (by rw[Dg];rfl)));let(x,y,zV,zW,e,k1,k2,q):=q1;subst e;let(u,w',rfl,ru,rw'):=vals2 r1;let(o1,c1,qC,t1,i1,hc1,OZ,Wx,Rz,z1):=OY I1 k1 ru;let(o2,c2,o5,t2,i2,Lh,zR,Wy,O0,z2):=OY I1 k2 rw';show DE i1 i2 zR hc1 Lh Wx Wy λh' hz L3 L4 g1 g2 hsz hk=>?_;have I2:=I1.kept (t':=s1.toks) hk;show wpAny_pyIter_zip hz ?_;let(S1,a1):=z1 52 (cD _);let(S2,a2):=z2 (52+1) (KO _);have D:=GU Rz O0;show#[52+04,_,_,_,H1,9,I2,GR D S1 S2,#[hz,L3,#[_,_,L4],a1 _ g1,a2 _ g2],λc hc=>?_,q];have hge:=L9 hc;calc I1.nC hge (I1.bB.fresh hge)
def RA:T->Option (List T)
 |.lst ts=>some ts
 |.tup ts=>some ts
 |.str z=>some (z.cps.toList.map λc=>.str #[([c].toArray)])
 |_=>none
def ue(xs ys:List T):List T:=List.zipWith (λa b=>.tup [a,b]) xs ys
def adD(fa fb:FE):FI:=λρ Q=>fa ρ λx=>fb ρ λy=>match RA x,RA y with
 |some xs,some ys=>Q (ue xs ys)
 |_,_=>False
def O5{A:zm}{x:T}{xs:List T}(h:At K H A x v)(e:RA x\xs):∃sq,ZK K H v sq/\∀H A,At K H A x v->∃vs,sq H vs/\aB K H A xs vs:=by
 cases x with
 |lst ts=>cases e;let(a,vs,rfl,l,q):=h;show#[_,.lst l.sq,λH A h=>?_];let(a',jW,e,l',q'):=h;cases e;calc#[jW,l'.sq,q']
 |tup ts=>cases e;let(a,vs,rfl,l,q):=h;show#[_,.tup l,λH A h=>?_];let(a',jW,e,l',q'):=h;cases e;calc#[jW,l',q']
 |str z=>
  cases e;subst h;show#[_,.str z,λH A h=>#[zU z,9,?_]];unfold zU;generalize z.cps.toList=l;induction l with
  |nil=>calc aB.nil
  |cons c l ih=>calc aB.cons eR ih
 |_=>cases e
theorem RB{x y:T}{w:V}{xs ys:List T}{zV zW:Hp->qak->Prop}(h1:∀H A,At K H A x v->∃vs,zV H vs/\aB K H A xs vs)(h2:∀H A,At K H A y w->∃vs,zW H vs/\aB K H A ys vs) :
  Wk K (Itz zV zW) [(x,v),(y,w)] (ue xs ys):=λH A hA h i=>by
 let(vs,q1,l1):=h1 H A (h _ d_);let(ws,q2,l2):=h2 H A (h _ (fZ _ d_));have e1:=l1.length;have e2:=l2.length;have el:(ue xs ys).length=min 27 ys.length:=by unfold ue;rw[List.length_zipWith]
 show#[λhi=>#[vs,ws,q1,q2,(),()],λhi=>#[vs,ws,q1,q2,()],λt ht x H' y=>?_];let(p,a,b,hp,rfl,ha,hb,rfl):=y;unfold ue at ht;rw[List.getElem?_zipWith] at ht;cases ex:xs[i]? with
 |none=>rw[ex] at ht;cases ht
 |some tx=>
   cases ey:ys[i]? with
   |none=>rw[ex,ey] at ht;cases ht
   |some ty=>rw[ex,ey] at ht;cases ht;let(v1,g1,g2):=l1.get ex;let(v2,g3,g4):=l2.get ey;have z1:=ha vs q1;have z2:=hb ws q2;rw[g1] at z1;rw[g3] at z2;cases z1;cases z2;calc#[aG hp,dm (dO.of aA) (aB.cons (g2.same (aG hp)) (aB.cons (g4.same (aG hp)) aB.nil))]
def GV{x1}{pos:Pos}{a:Expr}{fa fb:FE}(hg:Gl X "zip")(hm:X.mg "zip"=none)(ha:VE X Z a fa)(hb:VE X Z b fb)(hs:starEach [a,b] 3=[(false,eval a 3),(false,eval b 3)]:=by rfl)(Dg:starEach [b] 3=[(false,eval b 3)]:=by rfl) :
  VI X Z (.Tuple elts x1 tp) (.Call (.Name "zip" p) [a,b] [] pos) (adD fa fb):=.mk λtm=>
 PI.weak (Ry hg hm (bw (ha tm) (bw (hb tm) cW Dg) (by rw[hs,Dg])) hs Dg) λσ H R #[ρ,O,q,I,hf,k]=>#[ρ,O,_,I,hf,λx hx v H1 s1 a1=>#[ρ,O,_,I.same s1,hx,λy hy w H2 s2 a2=>by
  split at hy
  rename_i xs ys e1 e2
  let(zV,k1,w1):=O5 (a1.same s2) e1;let(zW,k2,w2):=O5 a2 e2;exact#[v,w,zV,zW,9,k1,k2,k _ hy _ H2 _ (s1.trans s2) (λp hp=>by
   rcases cT.mp hp with e|hp
   rw[e];calc a1.same s2;rw[f6.mp hp];calc a2) (RB w1 w2)]
  calc hy.elim]]
end
end VT
variable{Z:VT.Zc}{ρ:VT.En}{ts:List VT.T}{fa fb fe:VT.FE}{tm:List (VT.T×L2.V)}{g:VT.FA}{fc:VT.FB}
abbrev qab:=List (VT.T×L2.V)
abbrev Φ:=List VT.T
abbrev qam:=VT.Rt->Prop
abbrev ν:=@VT.VP.vr
abbrev υ:=@VT.VP.ve
abbrev v9:=@VT.VP.vx
namespace HE
open PySem PySem.W PySem.Calls PyProof.Rows
def nX(tb:String->Option Builtin)(p:Program)(w:World)(n₀:Nat)(ann:Option Value):Nat->SharedT->Thread->Option SharedT
 |0,_,_=>none
 |n+1,s,t=>match through t with
  |true=>some s
  |false=>match stepOk n₀ ann t with
   |false=>none
   |true=>match stepT (denote tb) p w s t with
    |some (s',t')=>nX tb p w n₀ ann n s' t'
    |none=>none
theorem rP{tb:String->Option Builtin}{p:Program}{w:World}{n₀:Nat}{ann:Option Value}:∀{n:Nat}{s s':SharedT}{t:Thread},nX tb p w n₀ ann n s t\s'->topRun tb p w n₀ ann n s.abs t\s'.abs
 |0,_,_,_,h=>by cases h
 |n+1,s,s',t,h=>by
  unfold nX at h;unfold topRun;cases ht:through t with
  |true=>rw[ht] at h;cases h;rfl
  |false=>
   rw[ht] at h;cases hk:stepOk n₀ ann t with
   |false=>rw[hk] at h;cases h
   |true=>
    rw[hk] at h;cases hs:stepT (denote tb) p w s t with
    |none=>rw[hs] at h;cases h
    |some r=>let(s₂,t₂):=r;rw[hs] at h;rw[stepT_spec hs];calc rP h
def mkT(l:List Obj):BT:=(l.foldl (λ(p:BT×Nat) o=>(p.1.ins p.2 o,p.2+1)) (.nil,0)).1
def kY(P:Params):BT:=mkT (boot_heap P).objs.toList
def Wz(T:BT)(os:OsState):SharedT:=#[T,11,{},Array.mk [],boot_drawn,boot_toks,os]
theorem boot_abs(P:Params):absHeap (kY P) 11 {}=boot_heap P:=by kernel_rfl
theorem DG(P:Params):((boot_heap P).isNs mainGlobals,(boot_heap P).objs.size,(boot_heap P).nsMap mainGlobals "__annotations__")=(true,11,some (.ref 06)):=by kernel_rfl
def RC(p:Program)(T:BT)(w:World)(M:Nat)(os:OsState):Option SharedT:=nX treeTable p w 11 (some (.ref 06)) M (Wz T os) (topStub p)
def Kf(as:zm)(g:Addr->Option Obj):Frag:=as.filterMap λa=>(g a).map λo=>(a,o)
def tg(T:BT)(n:Nat)(a:Addr):Option Obj:=match Nat.blt a n with
 |true=>alive ((T.get a).getD default)
 |false=>none
def WA(T:BT)(n:Nat)(life:Life)(a:Addr):(absHeap T n life).get? a=tg T n a:=by
 unfold tg;cases h:Nat.blt a n with
 |true=>
  have hn:a<n:=Nat.ble_eq.mp h;cases g:T.get a with
  |some o=>rw[abs_get hn g];rfl
  |none=>have e:=absHeap_at T n life a;rw[ι hn,g] at e;unfold Heap.get?;rw[e];rfl
 |false=>
  have hn:¬ a<n:=λz=>by have:Nat.blt a n=true:=Nat.ble_eq.mpr z;rw[h] at this;cases this
  calc abs_get_none hn
abbrev O6(q:Program)(lv:List (Str×WData))(R:WRecords)(s:Shared):Bool:=xlAt q lv s && recOk R s
def lookA(p q:Program)(loose:ω)(lv:List (Str×WData))(R:WRecords)(T:BT)(H0:Heap)(w:World)(M:Nat)(os:OsState) :=
 (RC p T w M os).map λs=>((staticsOk (importedModules p.main.body) H0 s.abs.heap && namesBound p s.abs.heap && gensDone s.abs && laidKept H0 s.abs.heap),
  (openSeen q loose (importedModules p.main.body) (O6 q lv R) true s.abs).1,(openSeen q loose (importedModules p.main.body) (O6 q lv R) true s.abs).2.1)
def lookB(p q:Program)(loose:ω)(lv:List (Str×WData))(R:WRecords)(T:BT)(w:World)(M:Nat)(os:OsState) :=
 (RC p T w M os).map λs=>(openSeen q loose (importedModules p.main.body) (O6 q lv R) true s.abs).2.2
def lookC{β:Type}(p:Program)(as:zm)(F:Frag->β)(T:BT)(w:World)(M:Nat)(os:OsState) :=
 (RC p T w M os).map λs=>F (Kf as (tg s.tree s.n))
def uf(p:Program)(N:Nat)(w:World)(a:Addr):Option Obj:=(openEnds treeTable p w N).bind (·.heap.get? a)
def head{p q:Program}{loose:ω}{lv:List (Str×WData)}{R:WRecords}{as:zm}{N M:Nat}{F:Frag->β}{v:World->β}(e:opening p=plainProg p.main.scope.names)(hN:Nat.ble 600 N=true)(f:∀s,fenceModules? p s\s)(le:Nat.ble M N=true)(ra:∀(w:World) (os:OsState),lookA p q loose lv R (kY w.params) (boot_heap w.params) w M os\(true,(openGood q loose).1,(openGood q loose).2.1))(rb:∀(w:World) (os:OsState),lookB p q loose lv R (kY w.params) w M os=some (openGood q loose).2.2)(rc:∀(w:World) (os:OsState),lookC p as F (kY w.params) w M os\v w) :
  LeftO p q loose (O6 q lv R) (λs=>as.map s.heap.get?) (λw=>as.map (uf p N w)) N/\∀w,F (Kf as (uf p N w))=v w:=by
 have key:∀w,∃s,openEnds treeTable p w N\s/\openSeen q loose (importedModules p.main.body) (O6 q lv R) true s=openGood q loose/\F (Kf as s.heap.get?)=v w:=λw=>by
  let((h,gs,d,k,os),e1,e2):=KG.mp (boot_open e hN f w);obtain⟨rfl,rfl,rfl,rfl⟩:h=boot_heap w.params/\gs=Array.mk []/\d=boot_drawn/\k=boot_toks:=by simpa using e2
  let(s,r1,r2):=KG.mp (ra w os);let(s',r1',rb'):=KG.mp (rb w os);let(TZ,adE,rc'):=KG.mp (rc w os);obtain rfl:=Option.some.inj (r1.symm.trans r1');obtain rfl:=Option.some.inj (r1.symm.trans adE);have r3:=fv (λx=>x.1) r2;have r4:=Prod.ext (fv (λx=>x.2.1) r2) (Prod.ext (fv (λx=>x.2.2) r2) rb');have r5:F (Kf as s.abs.heap.get?)=v w:=by rw[show s.abs.heap.get?=tg s.tree s.n from funext λa=>WA _ _ _ a];exact rc'
  have t1:=rP r1;have ea:(Wz (kY w.params) os).abs=#[boot_heap w.params,Array.mk [],boot_drawn,boot_toks,os]:=by change (#[absHeap (kY w.params) 11 {},_,_,_,_]:Shared)=_;rw[boot_abs];rfl
  rw[ea] at t1;have t2:=topRun_mono (N-M) _ _ _ _ t1;rw[show M+(N-M)=N by have:=Nat.le_of_ble_eq_true le;lia] at t2;have z:=DG w.params;have z1:=fv (λx=>x.1) z;have z2:=fv (λx=>x.2.1) z;have z3:=fv (λx=>x.2.2) z;show#[s.abs,?_,r4,r5];unfold openEnds;rw[e1];change topFrom treeTable p w N _=_;unfold topFrom;dsimp only at z1 z2 z3 ⊢;rw[z1,z2,z3,t2];change (match staticsOk (importedModules p.main.body) (boot_heap w.params) s.abs.heap && namesBound p s.abs.heap && gensDone s.abs && laidKept (boot_heap w.params) s.abs.heap with|true=>_|false=>_)=_;have r3':(staticsOk (importedModules p.main.body) (boot_heap w.params) s.abs.heap && namesBound p s.abs.heap && gensDone s.abs && laidKept (boot_heap w.params) s.abs.heap)=true:=r3;rw[r3']
 show#[λw=>?_,λw=>?_];let(s,a,b,c):=key w;rw[a];have:uf p N w=s.heap.get?:=by funext x;unfold uf;rw[a];rfl
 change some (openSeen q loose (importedModules p.main.body) (O6 q lv R) true s,as.map s.heap.get?)\(openGood q loose,as.map (uf p N w));rw[b,this];let(s,a,b,c):=key w;have:uf p N w=s.heap.get?:=by funext x;unfold uf;rw[a];rfl
 rw[this];calc c
def kf_in{as:zm}{g:Addr->Option Obj}(e:as.map h.get?=as.map g):(Kf as g).In h:=by
 have key:∀{as:zm},as.map h.get?=as.map g->∀a o,(Kf as g).lookup a\o->h.get? a\o:=by
  intro as;induction as with
  |nil=>intro _ a o z;cases z
  |cons x as ih=>
   intro e a o z;injection e with e1 e2
   unfold Kf at z;rw[rp] at z;cases hg:g x with
   |none=>rw[hg] at z;calc ih e2 a o z
   |some o'=>
    rw[hg] at z;simp only[UC,KI] at z;split at z
    rename_i q
    have:a=x:=by simpa using q
    subst this;cases z;rw[e1,hg];exact ih e2 a o z
 calc λa o z=>key e a o z
def GW{q:Program}{loose:ω}{XP:(qae)->Heap->Prop}{as:zm}{g:World->Addr->Option Obj}{r:RowW}{d:DefRec}{kwd:List (Str×Expr)}{run:Value->qag->Sem Value}(h:WalkO q loose XP (λw h=>(Kf as (g w)).In h) r d kwd run):WalkX q loose XP (λs=>as.map s.heap.get?) (λw=>as.map (g w)) r d kwd run :=
 λw s₀ s₁ mg mb G y a o pm cd doc dV kV h1 h2 h3 h4 h5 h6 args vals rO L l0 Vv hrd Vt hlo=>h w s₀ s₁ mg mb G (λb o' z=>Laid.keeps L _ _ (kf_in y b o' z)) a o pm cd doc dV kV h1 h2 h3 h4 h5 h6 args vals rO l0 Vv hrd Vt hlo
def WB:Stmt->DefRec
 |.FunctionDef n ps b _ _ _ sc _ _ p=>#[n,ps,b,sc,p]
 |_=>#[Str.empty,default,[],default,default]
end HE
lay_quick HE.lookA HE.lookB HE.lookC
namespace jK
open PySem
abbrev pE:Program:=PySem.Challenge.pw_slicewise_k25_the_least_closed_table
def qE:Program:=W.view pE [1,2,04,05,06,07,08,10,11,12,13,015,017,018,019,20,21,022,023,024,25,26,027,029,30,31,32,33,034,035,036,37,38,039,040,041,042,43,44,45,46,47,048,49,050]
def O7:ω:=[]
def adF(w:World)(os:OsState):HE.lookA pE qE O7 [] [] (HE.kY (w).params) (W.boot_heap (w).params) (w) 1805 os\(true,(W.openGood qE O7).1,(W.openGood qE O7).2.1):=by
 rw[PySem.W.Fast.te2848547177322276819]
 kernel_rfl
def adG(w:World)(os:OsState):HE.lookB pE qE O7 [] [] (HE.kY (w).params) (w) 1805 os=some (W.openGood qE O7).2.2:=by
 rw[PySem.W.Fast.te312265020846911052]
 kernel_rfl
theorem RD:PySem.Challenge.rw_slicewise_k25_the_least_closed_table.wellSaid=true:=by kernel_rfl
end jK
namespace VT
open PySem PySem.Spec PyProof.Rows L2
section
variable{k k':Nat}{pos:Pos}{G:Φ->(qam)->Prop}
def aN(C:cp 34 X.w X.K X.mg X.base x ps k (cH X.K n G))(hr:bA k' X.A)(ha:VA X Z (e::es) g)(hg:Gl X x:=by rfl)(hk:k<=k':=by decide)(qJ:fY x:=by decide)(he:starEach (e::es) 3=(false,eval e 3)::starEach es 3:=by rfl)(j9:(backTo pos (starEach es 3)).any (·.1)=false:=by rfl) :
  VP X Z (.Call 51 (e::es) [] pos) (i6 n g G):=by
 let(f,fd,h1,h2,h3,F):=C;calc cC F (hr.mono hk) hg h1 h2 h3 ha qJ he j9
end
end VT
namespace Gen
open PySem L2 VT
open nQ (bG)
def small(h:n<=1000):n<=sizeLine:=TU (Ds h)
def RE(h:Nat.ble n 1000=true):n<=sizeLine:=small (Nat.le_of_ble_eq_true h)
def gT(n:Int):Nat:=bG.cps.toList.getD (n % 26).toNat 0
def xo:bG.cps.toList.length=26:=by decide +kernel
def ug:bG.length=26:=by decide +kernel
def gy:bG.length<=sizeLine:=by rw[ug,π];decide
def rQ(n:Int):iW bG.cps.toList (n % 26)\gT n:=by
 have h0:0<=n % 26:=rq n 5;unfold gT;let(j,hj):=oq h0;rw[hj];have dc:j<bG.cps.toList.length:=by rw[xo];lia
 show ag ?_;rw[kA,List.getD,gq dc];rfl
def yX(c:Int):Int:=c % 1000000000000
def jY(c:Int):Nat:=(1+yX c % 07).toNat
def GX(c:Int):Nat:=(yX c / 07 % (jY c:Int)).toNat
def uh(c:Int)(k j:Nat):Int:=yX c / 49 / ((j:Int)+1)+(j:Int) * (j:Int)+(if j=GX c then (k:Int) else 0)
def cb(c:Int)(k n:Nat):Str:=#[((List.range n).map λj=>gT (uh c k j)).toArray]
def c9(c:Int)(m:Nat):ω :=
 if yX c / 49 % 03=1 then ((List.range m).map λk=>cb c k (jY c)).set 1 (cb c 0 (jY c)++#[([gT (yX c / 147)].toArray)]) else (List.range m).map λk=>cb c k (jY c)
def O8(c:Int):((jY c:Nat):Int)=1+yX c % 07:=by
 unfold jY
 lia
def ui(c:Int):1<=jY c/\jY c<=07:=by
 have:=O8 c
 lia
def O9(c:Int):((GX c:Nat):Int)=yX c / 07 % (jY c:Int):=by
 unfold GX;have h:=ui c;have:0<=yX c / 07 % (jY c:Int):=rq _ ()
 lia
def WC(c:Int):GX c<jY c:=by
 have h:=ui c;have h1:=O9 c;have:yX c / 07 % (jY c:Int)<jY c:=y0 _ ()
 lia
def zX(c:Int)(k n:Nat):cb c k (n+1)=cb c k n++#[([gT (uh c k n)].toArray)]:=by
 unfold cb;rw[UE,qz]
 congr 1
 simp
def fq(c:Int)(k n:Nat):(cb c k n).length=n:=by unfold cb Str.length;simp
def zY(c:Int)(m:Nat):(c9 c m).length=m:=by unfold c9;split<;>simp
def WD:(10:Int) ^ (12:Int).toNat=1000000000000:=by decide +kernel
inductive kx where
 |nm (x:Str)
 |nu (i:Int)
inductive Ky where
 |fld (x:Str)
 |op (o:kx)
set_option genInjectivity true
inductive Rw where
 |df (f:Str) (ps:ω)
 |give (a:kx)
 |put (x:Str) (a:kx)
 |DH (x:Str) (a:kx) (op:Str) (b:kx)
 |new (x:Str)
 |get (x r:Str) (k:Ky)
 |set (r:Str) (k:Ky) (a:kx)
 |call (x f:Str) (as:List kx)
 |fail (w:Str)
 |Kv (a:kx)
 |zZ
 |BJ (a:kx)
 |fin
 |skip
set_option genInjectivity false
def qD:kx->T
 |.nm x=>.str x
 |.nu i=>.int i
def nY:Ky->T
 |.fld x=>.str (((".":String):Str)++x)
 |.op o=>qD o
def aV:Rw->T
 |.df f ps=>.tup [.str "def",.str f,.tup (ps.map .str)]
 |.give a=>.tup [.str "give",qD a]
 |.put x a=>.tup [.str "put",.str x,qD a]
 |.DH x a op b=>.tup [.str "do",.str x,qD a,.str op,qD b]
 |.new x=>.tup [.str "new",.str x]
 |.get x r k=>.tup [.str "get",.str x,.str r,nY k]
 |.set r k a=>.tup [.str "set",.str r,nY k,qD a]
 |.call x f as=>.tup [.str "call",.str x,.str f,.tup (as.map qD)]
 |.fail w=>.tup [.str "fail",.str w]
 |.Kv a=>.tup [.str "if",qD a]
 |.zZ=>.tup [.str "else"]
 |.BJ a=>.tup [.str "while",qD a]
 |.fin=>.tup [.str "end"]
 |.skip=>.tup [.str "skip"]
def dy(ys:ω):kx->Prop
 |.nm x=>x∈ys
 |.nu i=>-1000000000000000000000000000000<=i/\i<1000000000000000000000000000000
def xp(ys:ω):Ky->Prop
 |.fld x=>x∈ys
 |.op o=>dy ys o
abbrev Plan:=List (Str×ω)
def reckon:ω:=["plus","minus","times","over","rest","less","same"]
def gU(ys:ω)(later:Plan):Rw->Prop
 |.put x a=>x∈ys/\dy ys a
 |.DH x a op b=>x∈ys/\dy ys a/\op∈reckon/\dy ys b
 |.new x=>x∈ys
 |.get x r k=>x∈ys/\r∈ys/\xp ys k
 |.set r k a=>r∈ys/\xp ys k/\dy ys a
 |.call x f as=>x∈ys/\(∃ps,(f,ps)∈later/\as.length=ps.length)/\∀a∈as,dy ys a
 |.fail w=>w∈ys
 |.skip=>True
 |_=>False
def bV(p:Str×ω):T:=.tup [.str p.1,.tup (p.2.map .str)]
def kZ(hl:ys.length=06){n:Int}(hm:0<m)(hm6:m<=06):∃y∈ys,iW (ys.map T.str) (n % (m:Int))\T.str y:=by
 have h0:0<=n % m:=rq n ();have h1:n % m<m:=y0 n ();let(j,hj):=oq h0;have dc:j<ys.length:=by lia
 show#[ys[j],CU dc,?_];rw[hj];show ag ?_;rw[dQ,gq dc];rfl
def WE:(10:Int) ^ (30:Int).toNat=1000000000000000000000000000000:=by decide +kernel
def WG:(10:Int) ^ (09:Int).toNat=1000000000:=by decide +kernel
def WH:(10:Int) ^ (06:Int).toNat=1000000:=by decide +kernel
def adH:(((".":String):Str)).length=1:=by decide +kernel
def WI(i:Int):∃op∈reckon,iW [T.str "plus",T.str "minus",T.str "times",T.str "over",T.str "rest",T.str "less",T.str "same"] (i % 07)\T.str op:=by
 have h0:0<=i % 07:=rq i 5;have h1:i % 07<07:=y0 i 5;let(j,hj):=oq h0;rw[hj] at h1 ⊢;have:j=0\/j=1\/j=2\/j=03\/j=04\/j=05\/j=06:=by lia
 obtain rfl|rfl|rfl|rfl|rfl|rfl|rfl:=this
 calc#["plus",by simp[reckon],ag 9];calc#["minus",by simp[reckon],ag 9];calc#["times",by simp[reckon],ag 9];calc#["over",by simp[reckon],ag 9];calc#["rest",by simp[reckon],ag 9];calc#["less",by simp[reckon],ag 9];calc#["same",by simp[reckon],ag 9]
def z0(hl:ys.length=06)(n:Int):∃y∈ys,iW (ys.map T.str) (04+n % 2)\T.str y:=by
 have h0:0<=n % 2:=rq n 5;let(j,hj):=oq h0;have dc:04+j<ys.length:=by lia
 show#[ys[04+j],CU dc,?_];rw[hj];show ag ?_;rw[dQ,gq dc];rfl
def mh(ys:ω)(pl:Plan)(bS:ω)(new:List Rw)(du:ω):Prop :=
 (∃o,dy ys o/\new=[.Kv o]/\du=bS++([("if":Str)]:ω))\/(∃o,dy ys o/\new=[.BJ o]/\du=bS++([("while":Str)]:ω)) \/
 (∃y,y∈ys/\new=[.BJ (.nm y),.DH y (.nm y) "minus" (.nu 1)]/\du=bS++([("while":Str)]:ω))\/(∃s0,bS=s0++([("if":Str)]:ω)/\new=[.zZ]/\du=s0++([("else":Str)]:ω)) \/
 (∃s0 x,bS=s0++[x]/\new=[.fin]/\du=s0)\/(∃r,gU ys pl r/\new=[r]/\du=bS)
def L_{pl:Plan}{bS new du}(h:mh ys pl bS new du):new.length+du.length<=bS.length+03:=by obtain⟨o,_,rfl,rfl⟩|⟨o,_,rfl,rfl⟩|⟨y,_,rfl,rfl⟩|⟨s0,rfl,rfl,rfl⟩|⟨s0,x,rfl,rfl,rfl⟩|⟨r,_,rfl,rfl⟩:=h<;>simp<;>lia
def o7(ys:ω)(pl:Plan):Prop:=∀(k:Nat) f ps,pl[k]?\(f,ps)->ys[k]?\f/\E2 λ(a:Int) (r:Nat)=>r<=2/\ps=(List.range r).map λj=>ys.getD ((a+((j:Nat):Int)) % 04).toNat Str.empty
def GY(hl:ys.length=06)(n:Int):iW (ys.map T.str) (n % 04)\T.str (ys.getD (n % 04).toNat Str.empty):=by
 have h0:0<=n % 04:=rq n 5;let(j,hj):=oq h0;have dc:j<ys.length:=by lia
 rw[hj];show ag ?_;rw[dQ,kA,List.getD,gq dc];rfl
inductive Body(ys:ω)(later:Plan):ω->List Rw->Prop
 |nil:Body ys later [] []
 |step {bS du:ω} {body new:List Rw}:Body ys later bS body->mh ys later bS new du->Body ys later du (body++new)
inductive Pre(ys:ω)(pl:Plan):Nat->List Rw->Prop
 |zero:Pre ys pl 0 []
 |succ {k:Nat} {rs:List Rw} {f:Str} {ps:ω} {bS:ω} {body:List Rw} {o:kx} {sk:List Rw}:Pre ys pl k rs->pl[k]?\(f,ps)->Body ys (pl.drop (k+1)) bS body->dy ys o->(sk=[]\/sk=[.skip]) ->
  Pre ys pl (k+1) (rs++(.df f ps::(body++(List.replicate bS.length .fin++(.give o::sk)))))
theorem fH{α:Type}{f:α->T}(h:∀x,plainT (f x)=true):∀l:List α,cL (l.map f)=true
 |[]=>by simp[cL]
 |x::l=>by simp only[fj,cL,h x,fH h l,Bool.and_self]
theorem i9{α:Type}{f:α->T}{n:Nat}(h:∀x,dep (f x)<=n):∀l:List α,oP (l.map f)<=n
 |[]=>by simp[oP]
 |x::l=>by have:=h x;have:=i9 h l;simp only[fj,oP];lia
def z6(p:Str×ω):plainT (bV p)=true:=by simp[bV,plainT,cL,fH (f:=T.str) (λ_=>by simp[plainT])]
def xq(pl:Plan):plainT (.lst (pl.map bV))=true:=by simp only[plainT];calc fH z6 pl
def GZ(p:Str×ω):dep (bV p)<=2:=by have:=i9 (f:=T.str) (n:=0) (λ_=>by simp[dep]) p.2;simp only[bV,dep,oP];lia
def DI(pl:Plan):dep (.lst (pl.map bV))<=100:=by have:=i9 GZ pl;simp only[dep];lia
end Gen
variable{r:Gen.Rw}{pl:Gen.Plan}
abbrev qal:=List Gen.Rw
namespace Gen
open PySem L2 VT
open nQ (bG Dw cZ)
def BK(n:Int):Dw (gT n)=true:=by
 have h0:0<=n % 26:=rq n 5;have h1:n % 26<26:=y0 n 5;have h:∀j<26,Dw (bG.cps.toList.getD j 0)=true:=by decide +kernel
 calc h _ ()
def G0{a b:Int}(h:gT a=gT b):a % 26=b % 26:=by
 have a0:0<=a % 26:=rq a 5;have a1:a % 26<26:=y0 a 5;have b0:0<=b % 26:=rq b 5;have b1:b % 26<26:=y0 b 5;have k:∀i<26,∀j<26,bG.cps.toList.getD i 0=bG.cps.toList.getD j 0->i=j:=by decide +kernel
 have:=k (a % 26).toNat () (b % 26).toNat () h
 lia
def DJ{c:Int}{k k':Nat}(hn:GX c<n)(hk:k<26)(Ma:k'<26)(h:cb c k n=cb c k' n):k=k':=by
 have h2:((List.range n).map λj=>gT (uh c k j))=((List.range n).map λj=>gT (uh c k' j)):=by have:=fv (λy:Str=>y.cps.toList) h;exact this
 have h3:=fv (λl:qao=>l[GX c]?) h2;simp only[dQ,Og hn,UC,Option.some.injEq] at h3;have h4:=G0 h3;unfold uh at h4;rw[ι 9,ι 9] at h4
 lia
def o8{c:Int}{k:Nat}(h1:1<=n)(h8:n<=08):cZ (cb c k n)=true:=by unfold cZ;rw[fq,ο (),ο (),y4,y4];change ((List.range n).map λj=>gT (uh c k j)).all Dw=true;rw[List.all_map];calc KJ.mpr λj _=>BK _
def G1{n:Int}(h:cZ x=true)(hl:x.length<=07):cZ (x++#[([gT n].toArray)])=true:=by
 have hx:=nQ.eW h;have el:(x++(#[([gT n].toArray)]:Str)).length=x.length+1:=by change (x.cps++([gT n].toArray)).size=_;simp[Str.length]
 unfold cZ;rw[el,ο (),ο (),y4,y4];change (x.cps++([gT n].toArray)).toList.all Dw=true;simp only[CT,List.all_append,hx,y4];simp[BK]
def Mb(x:Str)(n:Int):(x++(#[([gT n].toArray)]:Str)).length=x.length+1:=by change (x.cps++([gT n].toArray)).size=_;simp[Str.length]
def DK{c:Int}(h:y∈c9 c m):(∃k<m,y=cb c k (jY c))\/y=cb c 0 (jY c)++#[([gT (yX c / 147)].toArray)]:=by
 have hz:∀{y},y∈((List.range m).map λk=>cb c k (jY c))->∃k<m,y=cb c k (jY c):=λh=>by let(k,hk,rfl):=gH.mp h;exact#[k,nP.mp hk,9]
 unfold c9 at h;split at h;rcases Uq h with h|h
 calc .inl (hz h);calc .inr h;calc .inl (hz h)
def z7{c:Int}:∀y∈c9 c m,cZ y=true:=by
 intro y hy;have hs:=ui c;rcases DK hy with⟨k,_,rfl⟩|rfl
 calc o8 () ();calc G1 (o8 () ()) (by rw[fq];lia)
def xr{c:Int}(hm:m<=26):(c9 c m).Nodup:=by
 have hs:=ui c;have ha:=WC c;have base:((List.range m).map λk=>cb c k (jY c)).Nodup:=by rw[List.Nodup,List.pairwise_map];show List.Pairwise.imp_of_mem ?_ (List.nodup_range (n:=m));intro a b ha' Zx eV e;exact eV (DJ ha (by have:=nP.mp ha';lia) (by have:=nP.mp Zx;lia) e)
 unfold c9;split;generalize hl:((List.range m).map λk=>cb c k (jY c))=l at base;have hv:cb c 0 (jY c)++(#[([gT (yX c / 147)].toArray)]:Str)∉l:=by
  intro z;rw[<- hl] at z;let(k,_,e):=gH.mp z;have:=fv Str.length e;rw[Mb,fq,fq] at this
  lia
 rw[List.Nodup,YK];rw[List.Nodup,YK] at base;intro i j hi hj T6;rw[List.length_set] at hi hj;have b:=base i j hi hj T6;rw[List.getElem_set,List.getElem_set];split;split
 lia
 intro z;calc hv (by rw[z];calc CU _);split;intro z;calc hv (by rw[<- z];calc CU _);calc b;calc base
def Mc(ys:ω):Rw->Prop
 |.df f ps=>f∈ys/\ps.length<=2/\ps.Nodup/\∀p∈ps,p∈ys
 |.give a=>dy ys a
 |.put x a=>x∈ys/\dy ys a
 |.DH x a op b=>x∈ys/\dy ys a/\op∈reckon/\dy ys b
 |.new x=>x∈ys
 |.get x r k=>x∈ys/\r∈ys/\xp ys k
 |.set r k a=>r∈ys/\xp ys k/\dy ys a
 |.call x f as=>x∈ys/\f∈ys/\as.length<=2/\∀a∈as,dy ys a
 |.fail w=>w∈ys
 |.Kv a=>dy ys a
 |.BJ a=>dy ys a
 |_=>True
def RF{l:ω}(nd:l.Nodup)(hi:i<l.length)(hj:j<l.length)(e:l[i]=l[j]):i=j:=by
 rw[List.Nodup,YK] at nd;rcases Nat.lt_trichotomy i j with h|h|h
 calc absurd e (nd i j hi hj h);calc h;calc absurd e.symm (nd j i hj hi h)
def DM(hl:ys.length=06)(nd:ys.Nodup){a:Int}{r:Nat}(hr:r<=2):((List.range r).map λj=>ys.getD ((a+((j:Nat):Int)) % 04).toNat Str.empty).Nodup/\∀p∈((List.range r).map λj=>ys.getD ((a+((j:Nat):Int)) % 04).toNat Str.empty),p∈ys:=by
 have hm:∀j:Nat,((a+(j:Int)) % 04).toNat<ys.length:=λj=>by
  have h0:0<=(a+(j:Int)) % 04:=rq _ 5;have h1:(a+(j:Int)) % 04<04:=y0 _ 5
  lia
 have hg:∀j:Nat,ys.getD ((a+(j:Int)) % 04).toNat Str.empty=ys[((a+(j:Int)) % 04).toNat]'(hm j):=λj=>by rw[List.getD,gq (hm j)];rfl
 show#[?_,?_];rw[List.Nodup,List.pairwise_map];show List.Pairwise.imp_of_mem ?_ (List.nodup_range (n:=r));intro i j hi hj eV e;rw[hg,hg] at e;have:=RF nd _ _ e;have Zj:=nP.mp hi;have Zo:=nP.mp hj;have a0:0<=(a+(i:Int)) % 04:=rq _ 5;have b0:0<=(a+(j:Int)) % 04:=rq _ 5
 lia
 intro p hp;let(j,_,rfl):=gH.mp hp;rw[hg];calc CU _
def DN(hp:∀f ps,(f,ps)∈pl->f∈ys/\ps.length<=2)(h:gU ys pl r):Mc ys r:=by
 cases r<;>first
  |calc h
  |calc h.elim
  | (let(h1,(ps,h2,h3),h4):=h
     calc#[h1,(hp _ _ h2).1,by rw[h3];calc (hp _ _ h2).2,h4])
def RG(hp:∀f ps,(f,ps)∈pl->f∈ys/\ps.length<=2){bS new du}(h:mh ys pl bS new du):∀r∈new,Mc ys r:=by
 obtain⟨o,ho,rfl,_⟩|⟨o,ho,rfl,_⟩|⟨y,hy,rfl,_⟩|⟨s0,_,rfl,_⟩|⟨s0,x,_,rfl,_⟩|⟨r,hr,rfl,_⟩:=h<;>intro r' cw
 simp only[cT,eh,Ψ] at cw;subst cw;calc ho;simp only[cT,eh,Ψ] at cw;subst cw;calc ho;simp only[cT,eh,Ψ] at cw;obtain rfl|rfl:=cw
 calc hy;calc#[hy,hy,by simp[reckon],by decide,by decide];simp only[cT,eh,Ψ] at cw;subst cw;trivial;simp only[cT,eh,Ψ] at cw;subst cw;trivial;simp only[cT,eh,Ψ] at cw;subst cw;calc DN hp hr
def Md(hp:∀f ps,(f,ps)∈pl->f∈ys/\ps.length<=2){bS body}(h:Body ys pl bS body):∀r∈body,Mc ys r:=by
 induction h with
 |nil=>intro r hr;cases hr
 |step _ h2 ih=>
  intro r hr;rcases fu.mp hr with hr|hr
  calc ih r hr;calc RG hp h2 r hr
def o9(hl:ys.length=06)(hP:o7 ys pl):∀f ps,(f,ps)∈pl->f∈ys/\ps.length<=2:=by intro f ps h;let(k,hk):=List.getElem?_of_mem h;let(h1,a,r,hr,rfl):=hP k f ps hk;calc#[dX h1,by rw[bN,sV];calc hr]
def RH(hl:ys.length=06)(nd:ys.Nodup)(hP:o7 ys pl){rs:qal}(h:Pre ys pl n rs):∀r∈rs,Mc ys r:=by
 have hp:=o9 hl hP;induction h with
 |zero=>intro r hr;cases hr
 |@succ k rs f ps bS body o sk _ hk hb ho hs ih=>
  intro r hr;rcases fu.mp hr with hr|hr
  calc ih r hr;rcases List.mem_cons.mp hr with rfl|hr
  let(h1,a,n,hn,rfl):=hP k f ps hk;have:=DM hl nd (a:=a) hn;calc#[dX h1,by rw[bN,sV];calc hn,this.1,this.2];rcases fu.mp hr with hr|hr
  calc Md (λf ps h=>hp f ps (YS h)) hb r hr;rcases fu.mp hr with hr|hr
  rw[(List.mem_replicate.mp hr).2];trivial;rcases cT.mp hr with rfl|hr
  calc ho;obtain rfl|rfl:=hs
  cases hr;simp only[cT,eh,Ψ] at hr;subst hr;trivial
def wd:Rw->Str
 |.df _ _=>"def"
 |.give _=>"give"
 |.put _ _=>"put"
 |.DH _ _ _ _=>"do"
 |.new _=>"new"
 |.get _ _ _=>"get"
 |.set _ _ _=>"set"
 |.call _ _ _=>"call"
 |.fail _=>"fail"
 |.Kv _=>"if"
 |.zZ=>"else"
 |.BJ _=>"while"
 |.fin=>"end"
 |.skip=>"skip"
def gz(st:ω)(x:Str):Bool:=match st.getLast? with
 |none=>E1 (.str x) [.str "def",.str "skip"]
 |some l=>if x="give" then decide (l="def") else if x="else" then decide (l="if") else if x="end" then !decide (l="def") else !decide (x="def")
def lM(st:ω)(x:Str):ω :=
 if x="def"\/x="if"\/x="while" then st++[x] else if x="give"\/x="end" then st.dropLast else if x="else" then st.dropLast++[("else":Str)] else st
theorem BL(x:Str):∀l:ω,E1 (.str x) (l.map .str)=decide (x∈l)
 |[]=>by simp[E1]
 |y::l=>by change (eqT (.str y) (.str x) || E1 (.str x) (l.map .str))=_;rw[BL x l];change (decide (y=x) || decide (x∈l))=_;rw[UD];simp only[UG,aaj,cT];constructor;rintro (h|h);calc .inl h.symm;calc .inr h;rintro (h|h);calc .inl h.symm;calc .inr h
def Me(r:Rw):∃l,aV r=.tup (.str (wd r)::l):=by cases r<;>calc#[_,9]
theorem jt{f:α->T}{xs:List α}{h:FG}{g:FS}{d:LR}(Pv:Nat->En->Prop)(h0:Pv 0 ρ)(hs:∀(i:Nat) x ρ',xs[i]?\x->Pv i ρ'->h (.tup [.int (i:Int),f x]) ρ' λρ2=>g {nx:=Pv (i+1),ct:=Pv (i+1),bk:=d.nx,rt:=d.rt} ρ2)(hd:∀ρ',Pv 27 ρ'->d.nx ρ'):iF (dF (xs.map f)) h g d ρ:=#[Pv,h0,λi t ρ' e p=>by
 unfold dF at e;rw[Uu,dQ] at e;cases q:xs[i]? with
 |none=>rw[q] at e;cases e
 |some x=>rw[q] at e;cases e;calc hs i x ρ' q p,λρ' p=>hd ρ' (by unfold dF at p;rw[List.length_mapIdx,bN] at p;calc p)]
def Mf(o:Option (ω))(r:Rw):Option (ω):=o.bind λst=>if gz st (wd r)=true then some (lM st (wd r)) else none
def k0(o:Option (ω))(rs:qal):Option (ω):=rs.foldl Mf o
def ju(o:Option (ω))(a b:qal):k0 o (a++b)=k0 (k0 o a) b:=Ol
def xt(rs:qal):k0 none rs=none:=by
 induction rs with
 |nil=>rfl
 |cons r rs ih=>calc ih
def DO{st:ω}(h:gz st (wd r)=true):Mf (some st) r\lM st (wd r):=by change (if gz st (wd r)=true then _ else _)=_;rw[ι h]
def eY{st:ω}(h:gz st (wd r)=true):k0 (some st) [r]\lM st (wd r):=DO h
theorem xu{rs:qal}{st:ω}(h:k0 (some []) rs\st)(i:Nat)(hr:rs[i]?\r) :
  ∃s,k0 (some []) (rs.take i)\s/\gz s (wd r)=true/\k0 (some []) (rs.take (i+1))\lM s (wd r):=by
 have e:rs=rs.take i++(r::rs.drop (i+1)):=by have hg:=(dA.mp hr).2;rw[<- hg,List.getElem_cons_drop,Ut]
 have e2:rs.take (i+1)=rs.take i++[r]:=by have hg:=(dA.mp hr).2;rw[<- hg,List.take_append_getElem]
 rw[e,ju] at h;cases hs:k0 (some []) (rs.take i) with
 |none=>rw[hs,xt] at h;cases h
 |some s=>
   rw[hs] at h;have h':k0 (Mf (some s) r) (rs.drop (i+1))\st:=h;cases hm:gz s (wd r) with
   |false=>
     have:Mf (some s) r=none:=by change (if gz s (wd r)=true then _ else _)=_;rw[hm];rfl
     rw[this,xt] at h';cases h'
   |true=>calc#[s,9,hm,by rw[e2,ju,hs];calc eY hm]
abbrev rR:Str:="def"
def Hd(x:Str):Prop:=x="if"\/x="while"\/x="else"
def Hd.ne(h:Hd x):x≠"def":=by obtain rfl|rfl|rfl:=h<;>decide +kernel
def rS(h:gU ys pl r):∀st,st≠[]->gz st (wd r)=true/\lM st (wd r)=st:=by
 intro st C5;obtain⟨l,hl⟩:∃l,st.getLast?\l:=by
  cases e:st.getLast? with
  |none=>rw[List.getLast?_eq_none_iff] at e;calc absurd e C5
  |some l=>exact#[l,9]
 have k:∀x:Str,(x="put"\/x="do"\/x="new"\/x="get"\/x="set"\/x="call"\/x="fail"\/x="skip")->gz st x=true/\lM st x=st:=by intro x hx;unfold gz lM;rw[hl];obtain rfl|rfl|rfl|rfl|rfl|rfl|rfl|rfl:=hx<;>exact#[(by change (if _ then _ else _)=true;rw[θ 17,θ 17,θ 17];decide +kernel),(by rw[θ 17,θ 17,θ 17])]
 cases r<;>first
  |calc h.elim
  |calc k _ (by simp[wd])
def G2(st:ω):lM st "if"=st++[("if":Str)]:=by unfold lM;rw[ι (.inr 7)]
def mi(st:ω):lM st "while"=st++[("while":Str)]:=by unfold lM;rw[ι (.inr (.inr 9))]
def BM(st:ω):lM st "def"=st++[rR]:=by unfold lM;rw[ι 7]
def uj(st:ω):lM st "end"=st.dropLast:=by unfold lM;rw[θ 17,ι 17]
def G3(st:ω):lM st "give"=st.dropLast:=by unfold lM;rw[θ 17,ι 17]
def xv(st:ω):lM st "else"=st.dropLast++[("else":Str)]:=by unfold lM;rw[θ 17,θ 17,ι 9]
def BO(st:ω)(l x:Str)(hx:x="if"\/x="while"):gz (st++[l]) x=true:=by unfold gz;rw[Uv];obtain rfl|rfl:=hx<;>(change (if _ then _ else _)=true;rw[θ 17,θ 17,θ 17];decide +kernel)
def DP(st:ω):gz (st++[("if":Str)]) "else"=true:=by unfold gz;rw[Uv];decide +kernel
def xw(st:ω){l:Str}(h:l≠"def"):gz (st++[l]) "end"=true:=by unfold gz;rw[Uv];change (if _ then _ else _)=true;rw[θ 17,θ 17,ι 9,ς h];rfl
def nZ{st:ω}(h:st≠[]):∃s l,st=s++[l]:=#[st.dropLast,st.getLast h,(List.dropLast_concat_getLast h).symm]
def Mh{bS new du}(h:mh ys pl bS new du)(hs:∀x∈bS,Hd x) :
  k0 (some (rR::bS)) new\(rR::du)/\∀x∈du,Hd x:=by
 have hd:∀st:ω,∃s l,rR::st=s++[l]:=λst=>nZ 4;obtain⟨o,_,rfl,rfl⟩|⟨o,_,rfl,rfl⟩|⟨y,_,rfl,rfl⟩|⟨s0,rfl,rfl,rfl⟩|⟨s0,x,es,rfl,e'⟩|⟨r,hr,rfl,e'⟩:=h
 let(s,l,e):=hd bS;show#[?_,?_];rw[eY (by rw[e];calc BO s l _ 7)];change some (lM _ "if")=_;rw[G2];rfl;intro x hx;rcases fu.mp hx with hx|hx
 calc hs x hx;simp only[cT,eh,Ψ] at hx;calc .inl hx;let(s,l,e):=hd bS;show#[?_,?_];rw[eY (by rw[e];calc BO s l _ (.inr 9))];change some (lM _ "while")=_;rw[mi];rfl;intro x hx;rcases fu.mp hx with hx|hx
 calc hs x hx;simp only[cT,eh,Ψ] at hx;calc .inr (.inl hx);let(s,l,e):=hd bS;show#[?_,?_];have h1:k0 (some (rR::bS)) [Rw.BJ (.nm y)]\((rR::bS)++[("while":Str)]):=by change some (lM _ "while")=_;rw[mi]
 have h2:=rS (ys:=[y]) (pl:=[]) (r:=.DH y (.nm y) "minus" (.nu 1)) #[by simp,by simp[dy],by simp[reckon],by decide,by decide] ((rR::bS)++[("while":Str)]) 4;change k0 (k0 (some (rR::bS)) [Rw.BJ (.nm y)]) [Rw.DH y (.nm y) "minus" (.nu 1)]=_;rw[h1,eY h2.1,h2.2];rfl;intro x hx;rcases fu.mp hx with hx|hx
 calc hs x hx;simp only[cT,eh,Ψ] at hx;calc .inr (.inl hx);show#[?_,?_];have e:rR::(s0++[("if":Str)])=(rR::s0)++[("if":Str)]:=rfl;rw[e,eY (DP _)];change some (lM _ "else")=_;rw[xv,List.dropLast_concat];rfl;intro x hx;rcases fu.mp hx with hx|hx
 calc hs x (fW _ hx);simp only[cT,eh,Ψ] at hx;calc .inr (.inr hx);subst es;subst e';show#[?_,λy hy=>hs y (fW _ hy)];have e:rR::(du++[x])=(rR::du)++[x]:=rfl;rw[e,eY (xw _ (hs x 4).ne)];change some (lM _ "end")=_;rw[uj,List.dropLast_concat];subst e';have:=rS hr (rR::du) 4;show#[?_,hs];rw[eY this.1,this.2]
def G4{bS body}(h:Body ys pl bS body):k0 (some [rR]) body\(rR::bS)/\∀x∈bS,Hd x:=by
 induction h with
 |nil=>calc#[9,λx hx=>nomatch hx]
 |step _ h2 ih=>have:=Mh h2 ih.2;calc#[by rw[ju,ih.1];calc this.1,this.2]
theorem xx:∀(n:Nat)(bS:ω),bS.length=n->(∀x∈bS,Hd x)->k0 (some (rR::bS)) (List.replicate n .fin)=some [rR]
 |0,bS,hl,_=>by rw[Of] at hl;subst hl;rfl
 |n+1,bS,hl,hs=>by let(s,l,rfl):=nZ (st:=bS) (by intro z;subst z;cases hl);change k0 (k0 (some ((rR::s)++[l])) [Rw.fin]) (List.replicate n .fin)=_;rw[eY (xw _ (hs l 4).ne)];change k0 (some (lM _ "end")) _=_;rw[uj,List.dropLast_concat];calc xx n s (by simpa using hl) λx hx=>hs x (fW _ hx)
def Mi{rs:qal}(h:Pre ys pl n rs):k0 (some []) rs=some []:=by
 induction h with
 |zero=>rfl
 |@succ k rs f ps bS body o sk _ hk hb ho hs ih=>
  rw[ju,ih];change k0 (some (lM [] "def")) _=_;rw[BM,ju];have hB:=G4 hb;change k0 (k0 (some [rR]) body) _=_;rw[hB.1,ju,xx _ bS 9 hB.2];change k0 (k0 (some ([]++[rR])) [Rw.give o]) sk=_;change k0 (some (lM _ "give")) sk=_;obtain rfl|rfl:=hs
  rfl;rw[eY 17];rfl
def qU:List (Str×Nat)->Str->Option Nat
 |[],_=>none
 | (k,i)::l,f=>if k=f then some i else qU l f
theorem n5(l m:List (Str×Nat))(f:Str):qU (l++m) f=match qU l f with
  |some i=>some i
  |none=>qU m f:=by
 induction l with
 |nil=>rfl
 |cons p l ih=>let(k,i):=p;simp only[List.cons_append,qU];by_cases h:k=f;rw[ι h,ι h];rw[θ h,θ h];calc ih
def G5(l:List (Str×Nat))(i:Nat):Rw->List (Str×Nat)
 |.df f _=>match qU l f with
  |some _=>l
  |none=>l++[(f,i)]
 |_=>l
def a_(rs:qal):Nat->List (Str×Nat)
 |0=>[]
 |n+1=>match rs[n]? with
  |some r=>G5 (a_ rs n) n r
  |none=>a_ rs n
theorem o_{rs:qal}{f:Str}{j:Nat}:∀n,qU (a_ rs n) f\j->j<n/\∃ps,rs[j]?\.df f ps
 |0,h=>nomatch h
 |n+1,h=>by
  have old:qU (a_ rs n) f\j->j<n+1/\∃ps,rs[j]?\.df f ps:=λh=>by have:=o_ n h;exact#[(),this.2]
  simp only[a_] at h;split at h
  rename_i r hr
  cases r with
  |df g ps=>
   simp only[G5] at h;split at h;exact old h
   rename_i hn
   rw[n5] at h;split at h
   rename_i i hi
   cases h;calc old hi;simp only[qU] at h;split at h
   rename_i e
   cases h;subst e;calc#[(),ps,hr];cases h
  |_=>exact old h
  calc old h
theorem mj{rs:qal}{f:Str}{i:Nat}{ps:ω}(hi:rs[i]?\.df f ps):∀n,i<n->∃j,qU (a_ rs n) f\j
 |0,h=>absurd h ()
 |n+1,h=>by
  simp only[a_];by_cases e:i=n;subst e;rw[hi];simp only[G5];cases ha:qU (a_ rs i) f with
  |some j=>calc#[j,ha]
  |none=>show#[i,?_];rw[n5,ha];simp only[qU,aaK]
  let(j,hj):=mj hi n ();split
  rename_i r hr
  cases r with
  |df g qs=>simp only[G5];split;calc#[j,hj];rw[n5,hj];calc#[j,9]
  |_=>exact#[j,hj]
  calc#[j,hj]
end Gen
variable{rs:qal}
namespace K5
structure Kd where
 op:Bool
 cl:Bool
 el:Bool
 df:Bool
deriving DecidableEq,Inhabited
section
variable(kd:Nat->Kd)
def st:Nat->qao
 |0=>[]
 |k+1=>let s:=if (kd k).cl=true then (st k).dropLast else st k
  if (kd k).op=true then s++[k] else s
def dp(k:Nat):Nat:=(st kd k).length
structure WF(n:Nat):Prop where
 ex:∀k,k<n->(kd k).op=true->(kd k).cl=false
 cl:∀k,k<n->(kd k).cl=true->st kd k≠[]
 el:∀k,k<n->(kd k).el=true->st kd k≠[]
 nc:∀k,k<n->(kd k).el=true->(kd k).cl=false/\(kd k).op=false
 dn:∀k,k<n->(kd k).df=true->(kd k).op=true
 fin:st kd n=[]
end
section
variable{kd:Nat->Kd}
def iG{k:Nat}(h:(kd k).op=true)(h':(kd k).cl=false):st kd (k+1)=st kd k++[k]:=by simp[st,h,h']
def i_{k:Nat}(h:(kd k).cl=true)(h':(kd k).op=false):st kd (k+1)=(st kd k).dropLast:=by simp[st,h,h']
def fJ{k:Nat}(h:(kd k).cl=false)(h':(kd k).op=false):st kd (k+1)=st kd k:=by simp[st,h,h']
def WF.Z_(W:WF kd n){k:Nat}(hk:k<n)(h:(kd k).cl=true):(kd k).op=false:=by
 cases q:(kd k).op with
 |false=>rfl
 |true=>rw[W.ex k hk q] at h;cases h
def BP(W:WF kd n){k:Nat}(hk:k<n)(h:(kd k).op=true):dp kd (k+1)=dp kd k+1:=by unfold dp;rw[iG h (W.ex k hk h)];simp
theorem xy(W:WF kd n){k:Nat}(hk:k<n)(h:(kd k).cl=true):dp kd (k+1)+1=dp kd k:=by
 unfold dp;rw[i_ h (W.Z_ hk h),yZ];have:=Uy.mpr (W.cl k hk h)
 lia
def G6{k:Nat}(h:(kd k).cl=false)(h':(kd k).op=false):dp kd (k+1)=dp kd k:=by unfold dp;rw[fJ h h']
theorem G7(W:WF kd n):∀k,k<=n->∀i j,(st kd k)[i]?\j->j<k/\(kd j).op=true/\dp kd j=i/\∀m,j<m->m<=k->i<dp kd m
 |0,_,i,j,h=>by simp[st] at h
 |k+1,hk,i,j,h=>by
  have ih:=G7 W k ();have Ma:k<n:=by lia
  have ext:∀{i j:Nat},(st kd k)[i]?\j->i<dp kd (k+1)->j<k+1/\(kd j).op=true/\dp kd j=i/\∀m,j<m->m<=k+1->i<dp kd m:=λ{i j} h hd=>by let(a,b,c,d):=ih i j h;show#[(),b,c,λm h1 h2=>?_];by_cases e:m=k+1;rw[e];calc hd;exact d m h1 ()
  by_cases ho:(kd k).op=true;rw[iG ho (W.ex k Ma ho)] at h;have hd:=BP W Ma ho;by_cases hi:i<(st kd k).length;rw[nN hi] at h;calc ext h (by rw[hd];calc Kl hi);rw[sU ()] at h;have e:i-(st kd k).length=0:=by
   cases q:i-(st kd k).length with
   |zero=>rfl
   |succ r=>rw[q] at h;simp at h
  rw[e] at h;simp at h;subst h;have ei:i=dp kd k:=by unfold dp;lia
  show#[(),ho,ei.symm,λm h1 h2=>?_];have:m=k+1:=by lia
  rw[this,hd,ei];lia;have nA:(kd k).op=false:=by cases q:(kd k).op<;>simp_all
  by_cases hc:(kd k).cl=true;rw[i_ hc nA] at h;have hi:=(dA.mp h).1;have hd:dp kd (k+1)=(st kd k).dropLast.length:=by unfold dp;rw[i_ hc nA]
  rw[P4,ι (by rw[yZ] at hi;calc hi)] at h;calc ext h (by rw[hd];calc hi);have oy:(kd k).cl=false:=by cases q:(kd k).cl<;>simp_all
  rw[fJ oy nA] at h;have hd:=G6 oy nA;calc ext h (by rw[hd];calc (dA.mp h).1)
theorem O_(W:WF kd n){j:Nat}(ho:(kd j).op=true):∀k,j<k->k<=n->(∀m,j<m->m<=k->dp kd j<dp kd m)->(st kd k)[dp kd j]?\j
 |0,h,_,_=>by lia
 |k+1,h,hk,hm=>by
  have Ma:k<n:=by lia
  by_cases e:j=k;subst e;rw[iG ho (W.ex j Ma ho)];unfold dp;simp;have ih:=O_ W ho k () () λm h1 h2=>hm m h1 ();have hd:=hm (k+1) () (cD _);by_cases nA:(kd k).op=true;rw[iG nA (W.ex k Ma nA),nN (dA.mp ih).1];calc ih;have RI:(kd k).op=false:=by cases q:(kd k).op<;>simp_all
  by_cases hc:(kd k).cl=true;have hl:dp kd (k+1)=(st kd k).length-1:=by unfold dp;rw[i_ hc RI,yZ]
  rw[i_ hc RI,P4,ι ()];calc ih;have oy:(kd k).cl=false:=by cases q:(kd k).cl<;>simp_all
  rw[fJ oy RI];calc ih
def jw(kd:Nat->Kd)(n d:Nat):Nat->Nat->Option Nat
 |0,_=>none
 |f+1,k=>if k<n then (if dp kd (k+1)=d then some k else jw kd n d f (k+1)) else none
def endOf(kd:Nat->Kd)(n j:Nat):Option Nat:=jw kd n (dp kd j) (n-(j+1)) (j+1)
theorem k5{d:Nat}:∀{f k e:Nat},jw kd n d f k\e->k<=e/\e<n/\dp kd (e+1)=d/\∀m,k<=m->m<e->dp kd (m+1)≠d
 |0,_,_,h=>by cases h
 |f+1,k,e,h=>by
  simp only[jw] at h;split at h
  rename_i hk
  split at h
  rename_i hd
  cases h;exact#[cD _,hk,hd,λm h1 h2=>by lia]
  rename_i hd
  let(a,b,c,r):=k5 h;show#[(),b,c,λm h1 h2=>?_];by_cases em:m=k;rw[em];calc hd;calc r m () h2;cases h
theorem k6{d:Nat}:∀{f k:Nat},jw kd n d f k=none->∀m,k<=m->m<k+f->m<n->dp kd (m+1)≠d
 |0,k,_,m,h1,h2,_=>by lia
 |f+1,k,h,m,h1,h2,h3=>by
  simp only[jw] at h;split at h;split at h;cases h
  rename_i hd
  by_cases em:m=k;rw[em];calc hd;exact k6 h m () () h3
  lia
theorem Mj(W:WF kd n){k:Nat}(hk:k<n):dp kd k<=dp kd (k+1)+1:=by
 by_cases ho:(kd k).op=true;rw[BP W hk ho];lia;have nA:(kd k).op=false:=by cases q:(kd k).op<;>simp_all
 by_cases hc:(kd k).cl=true;rw[xy W hk hc];calc cD _;have oy:(kd k).cl=false:=by cases q:(kd k).cl<;>simp_all
 rw[G6 oy nA];lia
theorem above(W:WF kd n){j:Nat}(hj:j<n)(ho:(kd j).op=true):∀k,j<k->k<=n->(∀m,j<m->m<k->dp kd (m+1)≠dp kd j)->∀m,j<m->m<=k->dp kd j<dp kd m
 |0,h,_,_,m,_,_=>by lia
 |k+1,h,hk,eV,m,h1,h2=>by
  by_cases em:m=k+1;subst em;by_cases e:j=k;subst e;rw[BP W hj ho];lia;have ih:=above W hj ho k () () (λm a b=>eV m a ()) k () (cD _);have s:=Mj W (k:=k) ();have ne:=eV k () ()
  lia
  by_cases e:j=k
  lia
  calc above W hj ho k () () (λm a b=>eV m a ()) m h1 ()
theorem end_is(W:WF kd n)(hj:j<n)(ho:(kd j).op=true):∃e,endOf kd n j\e/\j<e/\e<n/\dp kd (e+1)=dp kd j/\∀m,j<m->m<e->dp kd (m+1)≠dp kd j:=by
 cases h:endOf kd n j with
 |some e=>let(a,b,c,d):=k5 h;calc#[e,9,(),b,c,λm h1 h2=>d m () h2]
 |none=>
  exfalso;have q:=k6 h;have a:=above W hj ho n hj (cD _) (λm h1 h2=>q m () () h2) n hj (cD _);have z:dp kd n=0:=by unfold dp;rw[W.fin];rfl
  lia
theorem jx:∀k,(st kd k).Pairwise (·<·)/\∀j∈st kd k,j<k
 |0=>#[List.Pairwise.nil,λj h=>(by simp[st] at h)]
 |k+1=>by
  let(h1,h2):=jx k;have base:∀{s:qao},s.Sublist (st kd k)->s.Pairwise (·<·)/\∀j∈s,j<k:=λsl=>#[h1.sublist sl,λj h=>h2 j (sl.subset h)];have key:∀{s:qao},s.Sublist (st kd k)->(if (kd k).op=true then s++[k] else s).Pairwise (·<·)/\∀j∈(if (kd k).op=true then s++[k] else s),j<k+1:=λ{s} sl=>by
   let(a,b):=base sl;split;show#[List.pairwise_append.mpr #[a,List.pairwise_singleton _ _,λx hx y hy=>by rw[f6.mp hy];calc b x hx],λj hj=>?_];rcases fu.mp hj with h|h
   calc Kl (b j h);rw[f6.mp h];calc Ba _;exact#[a,λj hj=>Kl (b j hj)]
  simp only[st];by_cases hc:(kd k).cl=true;rw[ι hc];calc key (List.dropLast_sublist _);rw[θ hc];calc key (List.Sublist.refl _)
def endsAt(kd:Nat->Kd)(n j:Nat):Option Nat:=if (kd j).op=true then endOf kd n j else none
theorem Ml(W:WF kd n){k:Nat}(hk:k<n)(hc:(kd k).cl=true)(ht:(st kd k).getLast?\j):endsAt kd n j\k/\j<k:=by
 have hl:(st kd k)[(st kd k).length-1]?\j:=by rw[<- Fj];exact ht
 let(a,b,c,d):=G7 W k () _ j hl;let(e,h1,h2,h3,h4,h5):=end_is W () b;show#[?_,a];unfold endsAt;rw[ι b,h1]
 congr 1
 have hd:=xy W hk hc;have zL:dp kd (k+1)=dp kd j:=by rw[c];unfold dp at hd ⊢;lia
 rcases Nat.lt_or_ge e k with l|l
 have:=d (e+1) () ()
 lia
 rcases Nat.lt_or_ge k e with l2|l2
 exact absurd zL (h5 k a l2)
 lia
theorem um(W:WF kd n){k:Nat}(hk:k<n)(he:endsAt kd n j\k)(hj:j<n):(kd k).cl=true/\(st kd k).getLast?\j:=by
 unfold endsAt at he;by_cases ho:(kd j).op=true;rw[ι ho] at he;let(e,h1,h2,h3,h4,h5):=end_is W hj ho;rw[h1] at he;cases he;have ab:=above W hj ho k h2 () λm x y=>h5 m x y;have hk0:=ab k h2 (cD _);have hc:(kd k).cl=true:=by
  cases q:(kd k).cl with
  |true=>rfl
  |false=>exfalso;by_cases nA:(kd k).op=true;rw[BP W hk nA] at h4;lia;rw[G6 q (by cases r:(kd k).op<;>simp_all)] at h4;lia
 show#[hc,?_];have hd:=xy W hk hc;have:=O_ W ho k h2 () ab;rw[Fj];have e:(st kd k).length-1=dp kd j:=by unfold dp at hd h4 ⊢;lia
 rw[e];calc this;rw[θ ho] at he;cases he
end
end K5
namespace VT
open PySem PySem.Spec PyProof.Rows L2
structure DQ(K:qaf)(H H':Hp)(Ox:zm)(us:Φ)(p:Addr)(ls:zm):Prop where
 same:aO H H'
 tup:H' p\.tup (ls.map V.ref)
 nd:ls.Nodup
 new:∀a∈ls,H a=none
 Zy:Paired (λa t=>c0 K H' (ls++Ox) a t) ls us
def Mm(K:qaf)(n:Nat)(G:Φ->(Φ->Prop)->Prop):Sp:=λvs H Q _=>E3 λts Ox q=>(∀a∈Ox,H a≠none)/\aB K H Ox ts vs/\19=n/\G ts q /\
 ∀us,q us->∀p ls H',DQ K H H' Ox us p ls->Q (.ref p) H'
structure adI(K:qaf)(Z:Zc)(tm:qab)(d:LR)(dp:Φ->Prop)(D:Ends):Prop where
 fin:Fin K Z tm d D
 dp:∀us,dp us->∀p ls H',DQ K Z.H0 H' Z.Ox us p ls->D.rt (.ref p) H'
abbrev Pa:=LR->(Φ->Prop)->En->Prop
def lSD(X:Cx)(Z:Zc)(tm:qab)(g:Pa):TS:=λD σ H=>E4 λρ O d dp=>az X.K Z tm O ρ σ H/\g d dp ρ/\adI X.K Z tm d dp D
def DR(X:Cx)(Z:Zc)(st:qaq)(g:Pa):Prop:=Bx λtm=>jT X st (lSD X Z tm g)
instance{X:Cx}{Z:Zc}{st:qaq}{g:Pa}:CoeFun (DR X Z st g) λ_=>∀tm,jT X st (lSD X Z tm g):=#[λh=>Bx.h h]
def Mn(ρ:En):qao->Option (Φ)
 |[]=>some []
 |i::is=>match ρ[i]?,Mn ρ is with
  |some (some (t,true)),some ts=>some (t::ts)
  |_,_=>none
section
variable{st:Stmt}{g:FS}{u:Pa}{pos:Pos}
def WJ(g:FS)(u:Pa):Pa:=λd dp ρ=>g {d with nx:=u d dp} ρ
def cS(h1:VS X Z st g)(h2:DR X Z rest u):DR X Z (st::rest) (WJ g u):=.mk λtm=>jT.kN (iT (h1 tm) (h2 tm)) λD σ H #[ρ,O,d,dp,I,h,F] =>
 #[ρ,O,{d with nx:=u d dp},I,h,#[λO' ρ' σ' H' I' h'=>#[ρ',O',d,dp,I',h',F],F.fin.rt,F.fin.bk,F.fin.ct]]
def uo(X:Cx):qap->qao->Prop
 |[],is=>is=[]
 |e::es,is=>∃x p i js,e=.Name x p/\is=i::js/\X.N[i]?\x/\lN 29 x/\(x==("__debug__":Str))=false/\(x==("__classdict__":Str))=false/\starEach (e::es) 3=(false,eval e 3)::starEach es 3/\uo X es js
def WK(is:qao):TA:=λσ H Q=>∃vs,Paired (λ(i:Nat) (v:V)=>σ[i]?\some v) is vs/\Q vs H
theorem BQ:∀{es:qap}{is:qao},uo X es is->PA X es (WK is)
 |[],is,h=>λpos ε s σ H Q I #[vs,hv,q]=>by have e:=h;subst e;cases hv;calc cW pos ε s σ H Q I q
 |e::es,is,h=>by
  let(x,p,i,js,rfl,rfl,h1,h2,h3,h4,h5,h6):=h;exact PA.weak (bw (cc h1 h2 h3 h4) (BQ h6) h5) λσ H Q #[vs,hv,q]=>by
   cases hv with
   |cons r t=>calc#[_,r,_,t,q]
theorem xA{K:qaf}{tm:qab}{O:HD}{ρ:En}{σ:St}{H:Hp}(I:az K Z tm O ρ σ H):∀{is:qao}{ts:Φ},Mn ρ is\ts ->
  ∃ls:zm,Paired (λ(i:Nat) (v:V)=>σ[i]?\some v) is (ls.map V.ref)/\Paired (λ(i:Nat) (a:Addr)=>O[i]?\some a) is ls/\Paired (λa t=>c0 K H (av Z O) a t) ls ts
 |[],ts,h=>by cases h;calc#[[],.nil,.nil,.nil]
 |i::is,ts,h=>by
   simp only[Mn] at h;split at h
   rename_i t us e1 e2
   cases h;let(a,h1,h2,h3):=I.root e1;let(ls,g1,g2,g3):=xA I e2;calc#[a::ls,.cons h2 g1,.cons h1 g2,.cons h3 g3];cases h
def gA{R:α->β->Prop}{l:List α}{m:List β}(h:Paired R l m){b:β}(hb:b∈m):∃a∈l,R a b:=by
 induction h with
 |nil=>cases hb
 |cons r t ih=>
  rcases cT.mp hb with e|hb
  subst e;calc#[_,d_,r];let(a,h1,h2):=ih hb;calc#[a,fZ _ h1,h2]
def z8{tm:qab}(I:az K Z tm O ρ σ H){ls:zm}(nd:is.Nodup)(h:Paired (λ(i:Nat) (a:Addr)=>O[i]?\some a) is ls):ls.Nodup:=by
 induction h with
 |nil=>calc Kn
 |cons r t ih=>rw[ou] at nd ⊢;show#[λm=>?_,ih nd.2];let(j,hj,e):=gA t m;calc nd.1 (by rw[xh I r e];calc hj)
def Pb(is:qao):Pa:=λ_ dp ρ=>match Mn ρ is with
 |some ts=>dp ts
 |none=>False
theorem BR{x1}(hP:Z.P=[])(hn:uo X es is)(nd:is.Nodup)(hl:is.length<=100):DR X Z [.Return (some (.Tuple es x1 p)) pos] (Pb is):=.mk λtm=>
 kH (PS.weak (y8 (j8 (BQ hn))) λD σ H #[ρ,O,d,dp,I,h,F]=>by
  unfold Pb at h;split at h
  rename_i ts e
  let(ls,g1,g2,g3):=xA I e;show#[ls.map V.ref,g1,?_,λq hq=>F.dp ts h q ls _ #[?_,aA,z8 I nd g2,λa ha=>?_,?_]];rw[bN,<- Ko g2,π];lia;intro b o eb;have:=I.keep b o eb (by rw[hP];calc λz=>nomatch z);rw[au (bz this hq)];calc this;let(i,_,e):=gA g2 ha;rcases (I.own a (aC.mpr (dX e))).1 with z|z
  rw[hP] at z;calc nomatch z;calc z;show Paired.kD g3 λa t r=>(r.same (aG hq)).bq λb hb=>?_;rcases fu.mp hb with z|z
  let(i,_,e):=gA g2 z;calc fW _ (aC.mpr (dX e));calc gE _ z;calc h.elim)
end
section
def fK(n:Nat):roots (List.replicate n none)=[]:=by
 unfold roots;induction n with
 |zero=>rfl
 |succ n ih=>rw[Kk,rp];calc ih
def mn{N:ω}{Ox:zm}{ts:Φ}(hN:19<=N.length)(ox:∀a∈Ox,H a≠none)(h:aB K H Ox ts vs) :
  az K #[H,[],Ox] [] (List.replicate N.length none) (ts.map (λt=>some (t,false))++List.replicate (N.length-19) none) (start N vs) H:=by
 have hl:=h.length;have ea:av #[H,[],Ox] (List.replicate N.length none)=Ox:=by unfold av;rw[fK];rfl
 show#[?_,by simp;lia,λi e he=>?_,by rw[fK];calc Kn,λa ha=>?_,λp hp=>(nomatch hp),ox,λb o e _=>e,λp hp=>(nomatch hp)];unfold L2.start;simp[hl];rw[ea];by_cases hi:i<19;rw[nN (by simpa using hi),dQ] at he;have e1:ts[i]?\ts[i]:=by simp
 rw[e1] at he;cases he;let(v,h1,h2):=h.get e1;show#[none,some v,by rw[Fm,ι ()],?_,9,v,9,h2];unfold L2.start;rw[nN (by rw[bN];lia),dQ,h1];rfl;rw[sU (by simpa using hi),Fm] at he;split at he
 rename_i dc
 cases he;rw[bN] at dc;show#[none,none,by rw[Fm,ι ()],?_,9];unfold L2.start;rw[sU (by rw[bN];lia),Fm,bN,ι ()];cases he;rw[fK] at ha;calc nomatch ha
def fnD{st:Stmt}{N:ω}{k:Nat}{G:Φ->(Φ->Prop)->Prop}(F:Dr K x qual st f fd)(S:aI N ps (aq st))(hn:n=ps.length)(hN:n<=N.length)(fA:∀(bP:Value) (A:Around) (outer:List Env) (s:Shared) (H:Hp) (E:XK) (Ox:zm),bA k (A.deeper (envOfC qual (aq st) 8 f bP))->∀ts q,G ts q ->
    ∃g,DR (j_ iP P w K mg base N qual (aq st) f bP A outer s H E).C4 #[H,[],Ox] (cn st) g/\(19=n->g {nx:=λ_=>False,rt:=λ_ _=>False} q (ts.map (λt=>some (t,false))++List.replicate (N.length-19) none))) :
  dz P w K mg base iP (k+1) f fd ps (Mm K n G):=by
 show F.ok S (λvs H Q E h=>?_) (λbP A outer s H vs Q E hr h=>?_);let(ts,Ox,q,_,ha,hl,_):=h;rw[ha.length,hl,hn];let(ts,Ox,q,ox,ha,hl,hG,kk):=h;let(g,hg,hq):=fA bP A outer s H E Ox hr ts q hG;calc#[_,hg [],_,_,_,q,mn () ox ha,hq hl,#[#[λ_ _ _ _ _ h=>h.elim,λ_ _ _ _ _ _ _ h=>h.elim,λ_ _ _ _ _ h=>h.elim,λ_ _ _ _ _ h=>h.elim],λus hu p ls H' D=>kk us hu p ls H' D]]
end
section
variable{k:Nat}{G:Φ->(Φ->Prop)->Prop}{pos:Pos}
def lD(X:Cx)(Z:Zc)(tm:qab)(f:En->(Φ->Prop)->Prop):TE:=λσ H Q=>E3 λρ O q=>az X.K Z tm O ρ σ H/\f ρ q/\∀us,q us->∀p ls H',DQ X.K H H' (av Z O) us p ls->Q (.ref p) H'
def VD(X:Cx)(Z:Zc)(e:Expr)(f:En->(Φ->Prop)->Prop):Prop:=Bx λtm=>PE X e (lD X Z tm f)
instance{X:Cx}{Z:Zc}{e:Expr}{f:En->(Φ->Prop)->Prop}:CoeFun (VD X Z e f) λ_=>∀tm,PE X e (lD X Z tm f):=#[λh=>Bx.h h]
def RJ(n:Nat)(g:FA)(G:Φ->(Φ->Prop)->Prop):En->(Φ->Prop)->Prop:=λρ Q=>g ρ λts=>19=n/\G ts Q
def uq(F:dz 34 X.w X.K X.mg X.base iP k f fd ps (Mm X.K n G))(hr:bA k X.A)(hg:Gl X x)(hm:X.mg x\.ref f)(hk:W.keepIn X.K (.ref f)=true)(hb:Binds X.K fd ps [])(ha:VA X Z (e::es) g)(qJ:fY x:=by decide)(he:starEach (e::es) 3=(false,eval e 3)::starEach es 3:=by rfl)(j9:(backTo pos (starEach es 3)).any (·.1)=false:=by rfl) :
  VD X Z (.Call 51 (e::es) [] pos) (RJ n g G):=.mk λtm=>PE.weak (hY F hr hg hm hk hb .nil jV (ha tm) qJ he j9) λσ H Q #[ρ,O,q,I,hf,k] =>
 #[ρ,O,_,I,hf,λts gF vs H1 s1 a1=>by
   change Mm X.K n G (vs++[]) H1 Q E0;rw[Bb];show#[ts,av Z O,q,(I.same s1).OD,a1,gF.1,gF.2,λus hu p ls H' D=>k us hu p ls H' #[s1.trans D.same,D.tup,D.nd,λa ha=>?_,D.Zy]];cases z:H a with
   |none=>rfl
   |some o=>have:=D.new a ha;rw[s1 _ _ z] at this;cases this]
def DQ.at{tm:qab}{us:Φ}{p:Addr}{ls:zm}(I:az K Z tm O ρ σ H)(D:DQ K H H' (av Z O) us p ls):At K H' (av Z O) (.tup us) (.ref p):=by
 show dm (dO.of D.tup) (aB.iff.mpr ?_);have key:∀{Zz:zm}{G8:Φ},(∀a∈Zz,a∈ls)->Paired (λa t=>c0 K H' (ls++av Z O) a t) Zz G8->Paired (λv t=>At K H' (av Z O) t v) (Zz.map V.ref) G8:=by
  intro Zz G8 sub h;induction h with
  |nil=>calc .nil
  |cons r t ih=>exact .cons ((r.bq λb hb=>gE _ hb).at λz=>I.OD _ z (D.new _ (sub _ d_))) (ih λa ha=>sub a (fZ _ ha))
 calc key (λ_ h=>h) D.Zy
def WL(f:En->(Φ->Prop)->Prop):FP:=λρ Q=>f ρ λus=>Q (.vw (.tup us))
def VD.vp{f:En->(Φ->Prop)->Prop}(h:VD X Z e f):VP X Z e (WL f):=.mk λtm=>PE.weak (h tm) λσ H Q #[ρ,O,q,I,hf,k] =>
 #[ρ,O,_,I,hf,λus hu p ls H' D=>k _ hu _ H' D.same #[I.same D.same,D.at I]]
end
end VT
namespace K5
open PySem L2 VT Gen
def wordOf:Rw->Str
 |.df _ _=>"def" | .give _=>"give" | .put _ _=>"put" | .DH _ _ _ _=>"do" | .new _=>"new" | .get _ _ _=>"get" | .set _ _ _=>"set" | .call _ _ _=>"call" | .fail _=>"fail"
 |.Kv _=>"if" | .zZ=>"else" | .BJ _=>"while" | .fin=>"end" | .skip=>"skip"
def gW(r:Rw):∃l,aV r=.tup (.str (wordOf r)::l):=by cases r<;>calc#[_,9]
def aX:Rw->Kd
 |.df _ _=>#[true,false,false,true]
 |.give _=>#[false,true,false,false]
 |.Kv _=>#[true,false,false,false]
 |.zZ=>#[false,false,true,false]
 |.BJ _=>#[true,false,false,false]
 |.fin=>#[false,true,false,false]
 |_=>#[false,false,false,false]
def WM(r:Rw):decide (wordOf r="def")=(aX r).df:=by cases r<;>first|rfl|decide +kernel
def WN(r:Rw):decide (wordOf r="else")=(aX r).el:=by cases r<;>first|rfl|decide +kernel
def WO(r:Rw):E1 (.str (wordOf r)) [.str "give",.str "end"]=(aX r).cl:=by cases r<;>first|rfl|decide +kernel
def WQ(r:Rw):E1 (.str (wordOf r)) [.str "def",.str "if",.str "while"]=(aX r).op:=by cases r<;>first|rfl|decide +kernel
def bE(rs:qal)(k:Nat):Kd:=match rs[k]? with
 |some r=>aX r
 |none=>#[false,false,false,false]
def c_{k:Nat}(h:rs[k]?\r):bE rs k=aX r:=by unfold bE;rw[h]
def Pc(rs:qal):Prop:=WF 22 6
def oT:Option Nat->T
 |none=>.bO
 |some k=>.int (k:Int)
def tab(f:Nat->Option Nat)(n k:Nat):Φ:=(List.range n).map λi=>if i<k then oT (f i) else .bO
def jL(e:Nat->Option Nat)(n k:Nat):Φ:=(List.range n).map λj=>match e j with
 |some m=>if m<k then .int (m:Int) else .bO
 |none=>.bO
def k7(f n k):(tab f n k).length=n:=by simp[tab]
def xB(f n k):(jL f n k).length=n:=by simp[jL]
def xD(f n):tab f n 0=List.replicate n .bO:=by unfold tab;rw[List.eq_replicate_iff];calc#[by simp,λx hx=>by simp at hx;calc hx.2.symm]
def DS(f n):jL f n 0=List.replicate n .bO:=by unfold jL;rw[List.eq_replicate_iff];show#[by simp,λx hx=>?_];let(j,_,rfl):=gH.mp hx;split<;>simp
def n6{f:Nat->Option Nat}{k:Nat}:(tab f n k).set k (oT (f k))=tab f n (k+1):=by show TM λi=>?_;rw[List.getElem?_set,k7];unfold tab;rw[dQ,dQ];by_cases hi:i<n;rw[Og hi];by_cases e:k=i;subst e;rw[ι 9,ι hi];simp;rw[θ e];simp only[UC];by_cases l:i<k;rw[ι l,ι ()];rw[θ l,θ ()];rw[Oh (by simp;lia)];split;rw[θ ()];rfl;rfl
def xE{f:Nat->Option Nat}{k:Nat}(h:f k=none):tab f n k=tab f n (k+1):=by show Fn λi _=>?_;by_cases e:i=k;subst e;rw[θ (CY _),ι (Ba _),h];rfl;by_cases l:i<k;rw[ι l,ι ()];rw[θ l,θ ()]
def xF(f n):tab f n n=(List.range n).map λi=>oT (f i):=Fn λi hi=>by rw[ι (nP.mp hi)]
def G9{e:Nat->Option Nat}{k:Nat}(h:e j\k)(u:∀i,i<n->e i\k->i=j):(jL e n k).set j (.int (k:Int))=jL e n (k+1):=by
 show TM λi=>?_;rw[List.getElem?_set,xB];unfold jL;rw[dQ,dQ];by_cases hi:i<n;rw[List.getElem?_range hi];by_cases q:j=i;subst q;rw[ι 9,ι hi];simp[h];rw[θ q];simp only[UC];cases r:e i with
 |none=>rfl
 |some m=>have:m≠k:=λz=>q (u i hi (by rw[r,z])).symm;simp only;by_cases l:m<k;rw[ι l,ι ()];rw[θ l,θ ()]
 rw[Oh (by simp;lia)];split;rw[θ ()];rfl;rfl
def DT{e:Nat->Option Nat}{k:Nat}(u:∀i,i<n->e i≠some k):jL e n k=jL e n (k+1):=by
 show Fn λi hi=>?_;cases r:e i with
 |none=>rfl
 |some m=>have:m≠k:=λz=>u i (nP.mp hi) (by rw[r,z]);simp only;by_cases l:m<k;rw[ι l,ι ()];rw[θ l,θ ()]
def DV{e:Nat->Option Nat}(h:∀j m,j<n->e j\m->m<n):jL e n n=(List.range n).map λi=>oT (e i):=by
 show Fn λi hi=>?_;cases r:e i with
 |none=>rfl
 |some m=>simp only;rw[ι (h i m (nP.mp hi) r)];rfl
section
variable(kd:Nat->Kd)
def ur(k:Nat):Option Nat:=(st kd k).getLast?
def gG(k:Nat):Option Nat:=if (kd k).df=true then some k else (st kd k).head?
def z9(n:Nat):Nat->Φ
 |0=>List.replicate n .bO
 |k+1=>match (kd k).el,ur kd k with
  |true,some h=>(z9 n k).set h (.int (k:Int))
  |_,_=>z9 n k
end
theorem uu(kd n):∀k,(z9 kd n k).length=n
 |0=>by simp[z9]
 |k+1=>by simp only[z9];split;rw[List.length_set];calc uu kd n k;calc uu kd n k
def G_(rs:qal):Φ:=[.lst ((List.range 6).map λi=>oT (ur 22 i)),.lst ((List.range 6).map λi=>oT (endsAt 22 6 i)),.lst (z9 22 6 6),.lst ((List.range 6).map λi=>oT (gG 22 i))]
def G'(rs:qal):dF 50=(rs.zipIdx).map λp=>.tup [.int (p.2:Int),aV p.1]:=by unfold dF;show TM λi=>?_;rw[Uu,dQ,dQ,List.getElem?_zipIdx];cases rs[i]?<;>simp
def dr:Nat->qal->Option Nat
 |d,[]=>some d
 |d,r::rs=>if (aX r).cl=true then (if d=0 then none else dr (d-1) rs) else if (aX r).el=true then (if d=0 then none else dr d rs) else if (aX r).op=true then dr (d+1) rs else dr d rs
theorem fM:∀(a b:qal)(d:Nat),dr d (a++b)=(dr d a).bind λe=>dr e b
 |[],b,d=>rfl
 |r::a,b,d=>by simp only[List.cons_append,dr];split;split;rfl;calc fM a b _;split;split;rfl;calc fM a b _;split;calc fM a b _;calc fM a b _
def RK(rs:qal){k:Nat}(h:rs[k]?\r):(st 22 (k+1)).length=(if (aX r).cl=true then (st 22 k).length-1 else if (aX r).op=true then (st 22 k).length+1 else (st 22 k).length):=by
 have m3:=c_ h;by_cases hc:(aX r).cl=true;have ho:(aX r).op=false:=by cases r<;>first|rfl|(cases hc)
 rw[ι hc,i_ (by rw[m3];calc hc) (by rw[m3];calc ho),yZ];have oy:(aX r).cl=false:=by cases q:(aX r).cl<;>simp_all
 rw[θ hc];by_cases ho:(aX r).op=true;rw[ι ho,iG (by rw[m3];calc ho) (by rw[m3];calc oy)];simp;rw[θ ho,fJ (by rw[m3];calc oy) (by rw[m3];cases q:(aX r).op<;>simp_all)]
theorem n9{rs:qal}(h:dr 0 rs\0):∀k,k<=6->dr 0 (rs.take k)=some (st 22 k).length
 |0,_=>rfl
 |k+1,hk=>by
  have ih:=n9 h k ();have e:rs[k]?\rs[k]:=by simp
  have et:rs.take (k+1)=rs.take k++[rs[k]]:=by rw[List.take_succ,e];rfl
  have hs:(dr 0 (rs.take (k+1))).isSome=true:=by
   rw[<- Ut (k+1) rs,fM] at h;cases q:dr 0 (rs.take (k+1)) with
   |some _=>rfl
   |none=>rw[q] at h;cases h
  rw[et,fM,ih,TN] at hs ⊢;rw[RK rs e];simp only[dr] at hs ⊢;by_cases hc:(aX rs[k]).cl=true;rw[ι hc,ι hc] at *;by_cases z:(st 22 k).length=0;rw[ι z] at hs;cases hs;rw[θ z]
  . rw[θ hc,θ hc] at *;by_cases hl:(aX rs[k]).el=true
    . have ho:¬ (aX rs[k]).op=true:=by generalize rs[k]=r at hl;cases r<;>first|(cases hl;done)|(intro z;cases z)
      rw[ι hl,θ ho] at *;by_cases z:(st 22 k).length=0;rw[ι z] at hs;cases hs;rw[θ z]
    rw[θ hl] at *;split<;>rfl
def WR(h:dr 0 rs\0):Pc rs:=by
 have at':∀{k:Nat},k<6->∃r,rs[k]?\r/\bE rs k=aX r:=λ{k} hk=>#[rs[k],by simp,c_ 4];have step:∀{k:Nat}{r:Rw},rs[k]?\r->(aX r).cl=true\/(aX r).el=true->st 22 k≠[]:=λ{k r} hr oK z=>by
  have hk:=(dA.mp hr).1;have h1:=n9 h k ();have h2:=n9 h (k+1) ();have et:rs.take (k+1)=rs.take k++[r]:=by rw[List.take_succ,hr];rfl
  rw[et,fM,h1,TN,z] at h2;simp only[dr,List.length_nil] at h2;obtain q|q:=oK
  rw[ι q,ι True.intro] at h2;cases h2;by_cases q2:(aX r).cl=true;rw[ι q2,ι True.intro] at h2;cases h2;rw[θ q2,ι q,ι True.intro] at h2;cases h2
 show#[λk hk ho=>?_,λk hk hc=>?_,λk hk hc=>?_,λk hk hc=>?_,λk hk hc=>?_,?_];let(r,hr,e):=at' hk;rw[e] at ho ⊢;cases r<;>first|rfl|(cases ho)
 let(r,hr,e):=at' hk;calc step hr (.inl (by rw[<- e];calc hc));let(r,hr,e):=at' hk;calc step hr (.inr (by rw[<- e];calc hc));let(r,hr,e):=at' hk;rw[e] at hc ⊢;cases r<;>first|exact#[9,9]|(cases hc)
 let(r,hr,e):=at' hk;rw[e] at hc ⊢;cases r<;>first|rfl|(cases hc)
 have:=n9 h 6 (cD _);rw[Fo,h] at this;calc Of.mp (Option.some.inj this).symm
def xG(h:gU ys pl r):(aX r).cl=false/\(aX r).el=false/\(aX r).op=false:=by cases r<;>first|calc#[9,9,9]|calc h.elim
def RL{bS new du}(h:mh ys pl bS new du){d:Nat}(hd:0<d):dr (d+bS.length) new\(d+du.length):=by
 obtain⟨o,_,rfl,rfl⟩|⟨o,_,rfl,rfl⟩|⟨y,_,rfl,rfl⟩|⟨s0,rfl,rfl,rfl⟩|⟨s0,x,rfl,rfl,rfl⟩|⟨r,hs,rfl,rfl⟩:=h
 simp[dr,aX];lia;simp[dr,aX];lia;simp[dr,aX];lia;simp[dr,aX];simp[dr,aX];let(a,b,c):=xG hs;simp[dr,a,b,c]
def Mo{later:Plan}{bS:ω}{body:qal}(h:Body ys later bS body){d:Nat}(hd:0<d):dr d body\(d+bS.length):=by
 induction h with
 |nil=>rfl
 |step _ hl ih=>rw[fM,ih,TN];calc RL hl hd
theorem BU:∀(n d:Nat),dr (d+n) (List.replicate n Rw.fin)\d
 |0,d=>rfl
 |n+1,d=>by rw[Kk];simp only[dr,aX,aaK];calc BU n d
def RM{k:Nat}(h:Pre ys pl k rs):dr 0 rs\0:=by
 induction h with
 |zero=>rfl
 |succ _ _ hb _ ZA ih=>rw[fM,ih,TN];change dr 1 _\0;rw[fM,Mo hb 5,TN,fM,BU,TN];obtain rfl|rfl:=ZA<;>rfl
end K5
namespace L2
open PySem PySem.Spec PyProof.Rows
section
variable{a:Expr}{tb:TE}{pos:Pos}
variable{tA US:TT}{rest:qap}
end
section
variable{CX:EY}{k:Nat}{ks:ω}{sp:Sp}{E:XK}{m:Str}{pos qK:Pos}{o:Expr}{kws:List Keyword}{t tk:TA}{nm:Option Str}
variable{g:qag->qag->qag}{gV:qak->qak->qak}
end
section
variable{κ:Type}[DecidableEq κ]
def iJ(aY:List (κ×V))(k:κ):Option V:=(aY.find? λkv=>decide (kv.1=k)).map (·.2)
def putK(aY:List (κ×V))(k:κ)(v:V):List (κ×V) :=
 if (aY.any λkv=>decide (kv.1=k))=true then aY.map (λkv=>if kv.1=k then (kv.1,v) else kv) else aY++[(k,v)]
def ja{p:κ×V}{r:List (κ×V)}{k:κ}(e:p.1=k):iJ (p::r) k\p.2:=by simp[iJ,TR,e]
def jb{p:κ×V}{r:List (κ×V)}{k:κ}(e:¬ p.1=k):iJ (p::r) k=iJ r k:=by simp[iJ,TR,e]
theorem pe(k:κ):∀aY:List (κ×V),(aY.any λkv=>decide (kv.1=k))=(iJ aY k).isSome
 |[]=>rfl
 |p::r=>by rw[CZ];by_cases e:p.1=k;simp only[ja e,ο e,Bool.true_or,Option.isSome_some];rw[jb e,ς e,P9];calc pe k r
theorem jc(aY:List (κ×V))(k:κ)(v:V):(putK aY k v).length<=aY.length+1:=by unfold putK;split;rw[bN];lia;rw[kq,wq,List.length_nil];lia
def Ha{aY:List (κ×V)}{k:κ}(v:V)(h:iJ aY k=none):putK aY k v=aY++[(k,v)]:=by unfold putK;rw[pe,h];calc θ 5
def kB.DW{o:Option V}{u:Option Value}(r:kB o u):o.isSome=u.isSome:=by
 cases o with
 |none=>cases u with
  |none=>rfl
  |some _=>calc (show False from r).elim
 |some _=>cases u with
  |none=>calc (show False from r).elim
  |some _=>rfl
def kB.getD{o:Option V}{u:Option Value}{d:V}{d':Value}(r:kB o u)(rd:RelV d d'):RelV (o.getD d) (u.getD d'):=by
 cases o with
 |none=>cases u with
  |none=>calc rd
  |some _=>calc (show False from r).elim
 |some _=>cases u with
  |none=>calc (show False from r).elim
  |some _=>calc r
def KV.val{aY:List (κ×V)}{vs:List (κ×Value)}(r:KV aY vs)(k:κ):kB (iJ aY k) (valueAt vs k):=by
 unfold KV at r;induction r with
 |nil=>calc True.intro
 |@cons p q ps qs h t ih=>
  let(h1,h2):=h;by_cases e:p.1=k;have e':q.1=k:=h1.symm.trans e;have b:valueAt (q::qs) k\q.2:=by simp[valueAt,TR,e']
  rw[ja e,b];calc h2;have e':¬ q.1=k:=λz=>e (h1.trans z);have b:valueAt (q::qs) k=valueAt qs k:=by simp[valueAt,TR,e']
  rw[jb e,b];calc ih
def KV.any{aY:List (κ×V)}{vs:List (κ×Value)}(r:KV aY vs)(k:κ):(aY.any λkv=>decide (kv.1=k))=vs.any λkv=>decide (kv.1=k):=by
 unfold KV at r;induction r with
 |nil=>rfl
 |cons h t ih=>rw[CZ,CZ,ih,h.1]
theorem KV.RN{aY:List (κ×V)}{vs:List (κ×Value)}(r:KV aY vs)(k:κ){y:V}(ry:RelV y u) :
  KV (aY.map λkv=>if kv.1=k then (kv.1,y) else kv) (vs.map λkv=>if kv.1=k then (kv.1,u) else kv):=by
 unfold KV at r ⊢;induction r with
 |nil=>calc .nil
 |@cons p q ps qs h t ih=>rw[fj,fj];show .cons ?_ ih;let(h1,h2):=h;by_cases e:p.1=k;rw[ι e,ι (h1.symm.trans e)];calc#[h1,ry];rw[θ e,θ (λz=>e (h1.trans z))];calc#[h1,h2]
def KV.put{aY:List (κ×V)}{vs:List (κ×Value)}(r:KV aY vs)(k:κ){y:V}(ry:RelV y u):KV (putK aY k y) (stored vs k u):=by unfold putK stored;rw[r.any k];by_cases e:(vs.any λkv=>decide (kv.1=k))=true;rw[ι e,ι e];calc r.RN k ry;rw[θ e,θ e];calc Paired.snoc r #[9,ry]
def KV.length{aY:List (κ×V)}{vs:List (κ×Value)}(r:KV aY vs):aY.length=vs.length:=Ko r
end
def xH{k:Key}(r:RelV (kV k) u):(bR P w).is k u=true:=by
 cases k with
 |inl i=>let(t,e):=(show ∃t,u=Value.int i t from r);subst e;calc wB P w i t
 |inr x=>let(t,e):=(show ∃t,u=Value.str x t from r);subst e;calc wC P w x t
theorem rT{P:Program}{w:World}:∀{ks:List Key}{us:qag},Vals (ks.map kV) us->ItemsAre (bR P w) ks us
 |[],_,r=>by rw[P_] at r;cases r;calc .nil
 |k::ks,_,r=>by
  rw[fj] at r;cases r with
  |cons h t=>calc .cons (xH h) (rT t)
abbrev KT(H:Hp):List (List Key×V)->List (List Key×Addr×Value)->Prop:=Paired λp q=>p.1=q.1/\H q.2.1\.tup (p.1.map kV)/\RelV p.2 q.2.2
def KT.val{xs:List (List Key×Addr×Value)}(r:KT H aY xs)(k:List Key):kB (iJ aY k) ((atKey xs k).map (·.2)):=by
 induction r with
 |nil=>calc True.intro
 |@cons p q ps qs h t ih=>
  let(h1,_,h2):=h;by_cases e:p.1=k;have e':q.1=k:=h1.symm.trans e;have b:atKey (q::qs) k\q.2:=by simp[atKey,TR,e']
  rw[ja e,b];calc h2;have e':¬ q.1=k:=λz=>e (h1.trans z);have b:atKey (q::qs) k=atKey qs k:=by simp[atKey,TR,e']
  rw[jb e,b];calc ih
theorem KT.RN{xs:List (List Key×Addr×Value)}(r:KT H aY xs)(k:List Key){y:V}(ry:RelV y u) :
  KT H (aY.map λkv=>if kv.1=k then (kv.1,y) else kv) (xs.map (putAt k u)):=by
 induction r with
 |nil=>calc .nil
 |@cons p q ps qs h t ih=>rw[fj,fj];show .cons ?_ ih;let(h1,h2,h3):=h;unfold putAt;by_cases e:p.1=k;rw[ι e,ι (h1.symm.trans e)];calc#[h1,h2,ry];rw[θ e,θ (λz=>e (h1.trans z))];calc#[h1,h2,h3]
def KT.put{xs:List (List Key×Addr×Value)}(r:KT H aY xs)(k:List Key){b:Addr}{y:V}(hb:H b\.tup (k.map kV))(ry:RelV y u) :
  KT H (putK aY k y) (storedH xs k b u):=by
 have e:(aY.any λkv=>decide (kv.1=k))=(atKey xs k).isSome:=by rw[pe,(r.val k).DW,Option.isSome_map]
 unfold putK storedH;rw[e];by_cases q:(atKey xs k).isSome=true;rw[ι q,ι q];calc r.RN k ry;rw[θ q,θ q];calc Paired.snoc r #[9,hb,ry]
def KT.keeps{xs:List (List Key×Addr×Value)}(r:KT H aY xs)(ht:∀b ys,H b\.tup ys->H' b\.tup ys):KT H' aY xs :=
 Paired.kD r λ_ _ z=>#[z.1,ht _ _ z.2.1,z.2.2]
section
def Pe{u:HO}(ok:jE P w H h)(e:Rd H a u):bL P w H h a u:=e.ok ok
def rV{aY:List (Key×V)}(ok:jE P w H h)(e:Rd H a (.dK aY)):aY.length<=sizeLine/\(a==sysModules)=false/\∃vs,KV aY vs/\h.DictOf (bR P w) a vs :=
 show bL P w H h a (.dK aY) from Pe ok e
def BV{aY:List (Key×V)}(ok:jE P w H h)(e:H a\.dK aY):aY.length<=sizeLine/\(a==sysModules)=false/\∃vs,KV aY vs/\h.DictOf (bR P w) a vs:=rV ok (.inl e)
def pf{ks:List Key}(ok:jE P w H h)(e:H a\.tup (ks.map kV)):(tupleKind (bR P w)).is h ks a:=by let(_,aP,r,o,h1,h2,n,h3):=(show bL P w H h a (.tup (ks.map kV)) from ok a _ e);calc#[o,aP.toArray,n,h1,h2,h3,by simpa using rT r]
def xI(ok:jE P w H h)(e:Rd H a (.dT aY)):aY.length<=sizeLine/\(a==sysModules)=false /\
  ∃xs,KT H aY xs/\h.DictOfH (tupleKind (bR P w)) a xs:=by
 let(z,y,xs,r,o,es,ep,h1,h2,h3,h4,h5):=(show bL P w H h a (.dT aY) from Pe ok e);show#[z,y,xs,r,o,es,ep,h1,h2,h3,h4,λx hx=>?_,h5];have all:∀{l:List (List Key×V)}{m:List (List Key×Addr×Value)},KT H l m->∀x∈m,(tupleKind (bR P w)).is h x.1 x.2.1:=by
  intro l m q;induction q with
  |nil=>intro x hx;calc nomatch hx
  |@cons p q ps qs hq t ih=>
    intro x hx;rcases cT.mp hx with e|hx
    subst e;calc pf ok (by rw[<- hq.1];calc hq.2.1);exact ih x hx
 calc all r x hx
def WS(ok:jE P w H h)(e:H a\.dT aY):aY.length<=sizeLine/\(a==sysModules)=false /\
 ∃xs,KT H aY xs/\h.DictOfH (tupleKind (bR P w)) a xs:=xI ok (.inl e)
end
def xJ(H:Hp)(a:Addr)(y:V)(r:Option V):Prop :=
 (∃aY k,Rd H a (.dK aY)/\y=kV k/\r=iJ aY k)\/∃aY k b,Rd H a (.dT aY)/\y=.ref b/\H b\.tup (k.map kV)/\r=iJ aY k
def qV(H:Hp)(a:Addr)(y v:V)(H':Hp):Prop :=
 (∃aY k,H a\.dK aY/\y=kV k/\aY.length<sizeLine/\H'=upd H a (.dK (putK aY k v))) \/
 ∃aY k b,H a\.dT aY/\y=.ref b/\H b\.tup (k.map kV)/\aY.length<sizeLine/\H'=upd H a (.dT (putK aY k v))
theorem xJ.k{aY:List (Key×V)}{k:Key}(e:H a\.dK aY):xJ H a (kV k) (iJ aY k):=.inl #[aY,k,.inl e,9,9]
def qV.t{b:Addr}{k:List Key}(e:H a\.dT aY)(eb:H b\.tup (k.map kV))(hl:aY.length<sizeLine) :
 qV H a (.ref b) v (upd H a (.dT (putK aY k v))):=.inr #[aY,k,b,e,9,eb,hl,9]
section
variable{y:V}{r:Value}{o:Option V}
def Inv.big(I:Inv X ε σ H s):sysModules<8:=by have h:mainGlobals<8:=(I.mod.glob.keeps I.bk).lt;calc TV 5 h
def DX(hu:A.units+1<cLine)(I:Inv X ε σ H s)(g:xJ H a y (some v))(ry:RelV y u)(h:∀w' s',Inv X ε σ H s'->RelV v w'->Q w' s') :
  wpAny 16 A (getItem (.ref a) u) Q E s:=by
 obtain⟨aY,k,e,ey,l⟩|⟨aY,k,b,e,ey,eb,l⟩:=g
 subst ey;let(z,hd,vs,rel,dd):=rV I.bB e;let(w',hw,rw'):=kB.some_of (v:=v) (o:=valueAt vs k) (by rw[l];calc rel.val k);calc wpAny_getItem_of (xH ry) dd.mapOf hw (h w' _ (I.tok _) rw');subst ey;cases (show u=Value.ref b from ry);let(z,hd,xs,rel,dd):=xI I.bB e;let(w',hw,rw'):=kB.some_of (v:=v) (o:=(atKey xs k).map (·.2)) (by rw[l];calc rel.val k);let(p,hp,zR):=KG.mp hw;show wpAny_getItem_heap (aau hu) (pf I.bB eb) dd hp ?_;rw[zR];calc h w' _ (I.tok _) rw'
def uw{ob:HO}(I:Inv X ε σ H s)(mu:UL (H a))(hs:Heap.SameBut a 42 h')(he:∃q,h'.get? a\q)(new:bL 34 X.w (upd H a ob) h' a ob) :
  Inv X ε σ (upd H a ob) {s with heap:=h',toks:=t'} :=
 I.write (x:=a) (e:=a) mu 7 (λb q hb z=>(hs.2 b hb).trans z) he new
def Hb{aY:List (Key×V)}{vs:List (Key×Value)}(z:aY.length<=sizeLine)(hd:(a==sysModules)=false)(rel:KV aY vs)(dd:h'.DictOf (bR P w) a vs) :
 bL P w H' h' a (.dK aY):=#[z,hd,vs,rel,dd]
theorem DY{Q:Unit->Shared->Prop}(hu:A.units+1<cLine)(I:Inv X ε σ H s)(g:qV H a y v H')(ry:RelV y u)(rv:RelV v r)(h:∀s',Inv X ε σ H' s'->Q Unit.unit s') :
  wpAny 16 A (setItem (.ref a) u r) Q E s:=by
 obtain⟨aY,k,e,ey,l,eH⟩|⟨aY,k,b,e,ey,eb,l,eH⟩:=g
 subst ey eH;let(z,hd,vs,rel,dd):=BV I.bB e;have hz:vs.length<=sizeLine:=by rw[<- rel.length];exact z
 have hl:(putK aY k v).length<=sizeLine:=by have:=jc aY k v;lia
 show wpAny_setItem_pairs (hsz:=hz) (xH ry) dd λh' RO hs=>h _ ?_;have he:∃q,h'.get? a\q:=let #[q,_,_,hq,_]:=RO;#[q,hq];calc uw I (by rw[e];calc True.intro) hs he (Hb hl hd (rel.put k rv) RO);subst ey eH;cases (show u=Value.ref b from ry);let(z,hd,xs,rel,dd):=WS I.bB e;have hz:27<=sizeLine:=by rw[<- Ko rel];exact z
 have hl:(putK aY k v).length<=sizeLine:=by have:=jc aY k v;lia
 show wpAny_setItem_heap (hsz:=hz) (aau hu) (pf I.bB eb) dd λh' RO hs=>h _ ?_;let(q,es,ep,hq,h2,h3,h4,_,h5):=RO;show uw I (by rw[e];calc True.intro) hs #[q,hq] #[hl,hd,_,(rel.put k eb rv).keeps λc ys ec=>?_,q,es,ep,hq,h2,h3,h4,h5];rw[au (Bc ec e (λz=>nomatch z))];calc ec
end
section
variable{aY:List (Key×V)}{k:Key}
theorem WT(I:Inv X ε σ H s)(e:Rd H a (.dK aY))(h:∀t s',Inv X ε σ H s'->Q (.int aY.length t) s'):wpAny 16 A (call (.builtin "len") [.ref a]) Q E s:=by let(z,hd,vs,rel,dd):=rV I.bB e;show call_len_dict hd dd (by rw[<- rel.length];rw[π] at z;lia) ?_;rw[<- rel.length];calc h _ _ (I.tok _)
end
def DZ(i:Expr):Prop:=∀ov iv,subscripted i false ov iv=operate [ov,iv] (getItem ov iv)
def Mp{env:Env}{value slice:Expr}{pos:Pos}{T id:String}(hl:typeLookup (.type T) "__getitem__"=pure (some (.builtin id)))(hs:DZ slice)(h:wpAny 15 A (eval value env) (λo s₁=>wpAny 15 A (eval slice env) (λi s₂=>s₂.TypeIs o T/\wpAny 15 A (getItem o i) Q E s₂) E s₁) E s) :
  wpAny 15 A (eval (.Subscript value slice pos) env) Q E s:=by
 show Subscript_ (Ω h (λo s₁ h₁=>Ω h₁ (λi s₂ h₂=>?_) λ_ _ x=>x) λ_ _ x=>x);let(hT,h₂):=h₂;unfold subscriptTail;show ζ ?_;rw[getitemInPython_of_ne hT.not_modules];show ζ (wpAny_specialOf hT hl ?_);have fin:wpAny 15 A (subscripted slice false o i) (λr s₃=>wpAny 15 A (letTemporaryGo value o r >>= λ_=>pure r) Q E s₃) E s₂:=by rw[hs o i];exact wpAny_operating (Ω h₂ (λr s₃ h₃=>ζ (wpAny_letTemporaryGo (η h₃))) λ_ _ x=>x)
 first
  |calc η (ζ fin)
  |calc ζ (η (ζ fin))
  |calc ζ fin
def xK{y:V}{o:Option V}(I:Inv X ε σ H s)(g:xJ H a y o):s.TypeIs (.ref a) "dict":=by
 obtain⟨aY,k,e,_,_⟩|⟨aY,k,b,e,_,_,_⟩:=g
 let(_,_,vs,_,dd):=rV I.bB e;calc dd.typeIs;let(_,_,xs,_,dd):=xI I.bB e;calc dd.typeIs
def WU(td ty:TE):TE:=λσ H Q=>td σ H λx H1=>ty σ H1 λy H2=>E2 λa v=>x=.ref a/\xJ H2 a y (some v)/\Q v H2
def WV(td ty tv:TE):TS:=λD σ H=>tv σ H λv H1=>td σ H1 λx H2=>ty σ H2 λy H3=>∃a H4,x=.ref a/\qV H3 a y v H4/\D.nx σ H4
section
variable{o i value:Expr}{pos:Pos}{td ty tv:TE}
def n_(hu:X.A.units+1<cLine)(ho:PE X o td)(hi:PE X i ty)(hs:DZ i):PE X (.Subscript o i pos) (WU td ty):=by intro ε s σ H Q I h;show Mp PySem.F.slot_dict_getitem.lookup hs (cy (ho ε s σ H _ I h) λu s1 #[x,H1,I1,rx,q1]=>cy (hi ε s1 σ H1 _ I1 q1) λiv s2 #[y,H2,I2,ry,a,v,ex,g,q2]=>?_);subst ex;obtain rfl:u=Value.ref a:=rx;calc#[xK I2 g,DX hu I2 g ry λw' s3 I3 rw'=>#[v,H2,I3,rw',q2]]
def k8(hu:X.A.units+1<cLine)(ho:PE X o td)(hi:PE X i ty)(hv:PE X value tv)(hs:swapsWith value (some (.Subscript o i pos')) pos.line 3=pure false) :
  PS X (.Assign [.Subscript o i pos'] value pos) (WV td ty tv):=by
 intro ε s σ H D I h;show wpAny_Assign_Subscript (cy (hv ε s σ H _ I h) λr s1 #[v,H1,I1,rv,q1]=>cy (ho ε s1 σ H1 _ I1 q1) λu s2 #[x,H2,I2,rx,q2]=>cy (hi ε s2 σ H2 _ I2 q2) λiv s3 #[y,H3,I3,ry,a,H4,ex,g,q3]=>?_) hs;subst ex;obtain rfl:u=Value.ref a:=rx;calc DY hu I3 g ry rv λs4 I4=>#[σ,H4,I4,q3]
end
def Hc(h:Heap)(hb:sysModules<h.objs.size):bL P w H (h.push {cls:=.type "dict",data:=.dict ([].toArray)}) h.objs.size (.dK []) :=
 #[gJ _,aaa.mpr (Ne.symm (gr hb)),[],.nil,Heap.DictOf.new h]
def He(h:Heap)(hb:sysModules<h.objs.size):bL P w H (h.push {cls:=.type "dict",data:=.dict ([].toArray)}) h.objs.size (.dT []) :=
 #[gJ _,aaa.mpr (Ne.symm (gr hb)),[],.nil,_,([].toArray),0,hW _ 9,#[9,9,9],9,9,Kn]
def RP:TE:=λ_ H Q=>∀p,H p=none->Q (.ref p) (upd H p (.dK []))
def RQ:TE:=λ_ H Q=>∀p,H p=none->Q (.ref p) (upd H p (.dT []))
section
variable{pos:Pos}
def Hf:PE X (.Dict [] [] pos) RP:=λε s σ H Q I h=>
 wpAny_Dict_empty #[.ref 8,_,I.laid (a:=8) (o:=.dK []) (t':=s.toks) (λ_ _ q=>de _ q) (cD _) (Hc 42 I.big),9,h _ (I.bB.fresh (cD _))]
def ph:PE X (.Dict [] [] pos) RQ:=λε s σ H Q I h=>
 wpAny_Dict_empty #[.ref 8,_,I.laid (a:=8) (o:=.dT []) (t':=s.toks) (λ_ _ q=>de _ q) (cD _) (He 42 I.big),9,h _ (I.bB.fresh (cD _))]
end
structure M2(X:Cx)(o:Expr)(m:Str)(apos:Pos)(e f:Expr)(bF:Pos):Prop where
 base:attributeBase o m 3 (eval o 3)=eval o 3
 few:((backTo bF (starEach [e,f] 3)).all (λx=>!x.1) && (backToKw bF (keywordEach [] 3)).all (λx=>x.1.isSome)
  && decide (([e,f]:qap).length+([]:List Keyword).length+(if ([]:List Keyword).isEmpty then 0 else 1)<30))=true
 line:(apos.endLine==bF.line)=true
 trees:backTo bF (starEach [e,f] 3)=[(false,eval e 3),(false,eval f 3)]
def IsD(H:Hp)(a:Addr):Prop:=(∃aY,Rd H a (.dK aY))\/∃aY,Rd H a (.dT aY)
def Hg(I:Inv X ε σ H s)(d:IsD H a) :
  s.TypeIs (.ref a) "dict"/\(∀b,Value.ref a=.ref b->∃ob,s.heap.get? b\ob/\ob.dict=none)/\(a==sysModules)=false:=by
 obtain⟨aY,e⟩|⟨aY,e⟩:=d
 let(_,hd,vs,_,dd):=rV I.bB e;show#[dd.typeIs,λb q=>?_,hd];cases q;let(ob,_,_,h1,h2,_):=dd;calc#[ob,h1,h2.2.1];let(_,hd,xs,_,dd):=xI I.bB e;show#[dd.typeIs,λb q=>?_,hd];cases q;let(ob,_,_,h1,h2,_):=dd;calc#[ob,h1,h2.2.1]
section
variable{y d:V}{r:Value}{o:Option V}
def RS(hu:A.units+1<cLine)(I:Inv X ε σ H s)(g:xJ H a y o)(ry:RelV y u)(rd:RelV d r)(h:∀w' s',Inv X ε σ H s'->RelV (o.getD d) w'->Q w' s') :
  wpAny 16 A (call (.builtin "dict.get") [.ref a,u,r]) Q E s:=by
 obtain⟨aY,k,e,ey,l⟩|⟨aY,k,b,e,ey,eb,l⟩:=g
 subst ey;let(z,hd,vs,rel,dd):=rV I.bB e;show call_meetsIn PySem.F.slot_dict_get dd.typeIs PySem.F.entry_dict_get (PySem.F.args_dict_get_3 _ _ _) (meets_dict_get_default (bR 34 X.w) a (xH ry) hd r) #[_,dd.mapOf,h _ _ (I.tok _) ?_];rw[l];calc (rel.val k).getD rd;subst ey;cases (show u=Value.ref b from ry);let(z,hd,xs,rel,dd):=xI I.bB e;show call_meetsIn PySem.F.slot_dict_get dd.typeIs PySem.F.entry_dict_get (PySem.F.args_dict_get_3 _ _ _) (meetsH_dict_get_default (tupleKind (bR 34 X.w)) a b hd r) #[aau hu,k,xs,pf I.bB eb,dd,h _ _ (I.tok _) ?_];rw[l];calc (rel.val k).getD rd
end
def RT(td ty tx:TE):TE:=λσ H Q=>td σ H λx H1=>∃a,x=.ref a/\IsD H1 a/\ty σ H1 λy H2=>tx σ H2 λz H3=>∃o,xJ H3 a y o/\Q (o.getD z) H3
section
variable{o f:Expr}{td ty tx:TE}
def xM(hu:X.A.units+1<cLine)(ho:PE X o td)(he:PE X e ty)(hf:PE X f tx)(m:M2 X o "get" apos e f bF):PE X (.Call (.Attribute o "get" apos) [e,f] [] bF) (RT td ty tx):=by
 intro ε s σ H Q I h;show wpAny_Call_method m.base m.few m.line YN PySem.F.slot_dict_get PySem.F.type_dict_get (cy (ho ε s σ H _ I h) λu s1 #[x,H1,I1,rx,a,ex,d,q1]=>?_);subst ex;obtain rfl:u=Value.ref a:=rx;let(t1,t2,_):=Hg I1 d;show#[t1,t2,?_];rw[m.trees];show YO 9 (Calls.evalArgs_plain (Calls.spliced_cons (cy (he ε s1 σ H1 _ I1 q1) λiv s2 #[y,H2,I2,ry,q2] =>
  Calls.spliced_cons (cy (hf ε s2 σ H2 _ I2 q2) λfv s3 #[z,H3,I3,rz,ov,g,q3]=>Calls.spliced_nil ?_))))
 calc RS hu I3 g ry rz λw' s4 I4 rw'=>#[_,H3,I4,rw',q3]
end
end L2
namespace Zd
open PySem PySem.W PySem.Calls PyProof.Rows
end Zd
namespace L2
open PySem PySem.Spec PyProof.Rows
section
def D0:c5 X (.builtin "len") (λxs H Q=>∃a aY,xs=[V.ref a]/\H a\.dK aY/\Q (.int aY.length) H):=by intro ε s σ H xs us Q I r h;let(a,aY,rfl,ha,q):=h;let(u,rfl,ru):=vals1 r;cases ru;calc WT I (.inl ha) λt s' I'=>#[.int aY.length,H,I',#[t,9],q]
end
end L2
namespace VT
open PySem PySem.Spec PyProof.Rows L2
def Mq:T->Option Key
 |.int i=>some (.inl i)
 |.str x=>some (.inr x)
 |_=>none
def ux{A:zm}{t:T}{k:Key}(h:gN K H A t v)(e:Mq t\k):v=kV k:=by
 cases t with
 |int i=>cases e;calc h.int
 |str x=>cases e;calc h.str
 |_=>cases e
def jM{α:Type}:List Key->List α->Key->Option α
 |k::ks,t::ts,x=>if k=x then some t else jM ks ts x
 |_,_,_=>none
theorem jd:∀(ks:List Key)(vs:qak)(x:Key),iJ (ks.zip vs) x=jM ks vs x
 |[],vs,x=>rfl
 |k::ks,[],x=>rfl
 |k::ks,v::vs,x=>by simp only[jM,Oj];by_cases e:k=x;rw[ι e,ja (p:=(k,v)) e];rw[θ e,jb (p:=(k,v)) e];calc jd ks vs x
def xN(ts:List α)(x:Key):jM [] ts x=none:=by cases ts<;>rfl
theorem k9{K:qaf}{H:Hp}{A:zm}:∀{ks:List Key}{ts:Φ}{vs:qak}{x:Key},aB K H A ts vs->(∀t,jM ks ts x\t->∃v,jM ks vs x\v/\At K H A t v)/\(jM ks ts x=none->jM ks vs x=none)
 |[],ts,vs,x,h=>by rw[xN,xN];show#[λt e=>?_,λ_=>rfl];cases e
 |k::ks,[],vs,x,h=>by simp only[aB] at h;subst h;calc#[λt e=>(by cases e),λ_=>rfl]
 |k::ks,t::ts,vs,x,h=>by simp only[aB] at h;let(v,r,rfl,h1,h2):=h;simp only[jM];by_cases e:k=x;rw[ι e,ι e];calc#[λt e=>by cases e;calc#[v,9,h1],λq=>by cases q];rw[θ e,θ e];calc k9 h2
section
variable{a:Expr}{fc:FE}{pos:Pos}
def WW:FP:=λ_ Q=>Q (.fr (.dk [] []))
def Mr:VP X Z (.Dict [] [] pos) WW:=.mk λtm=>PE.weak Hf λσ H Q #[ρ,O,q,I,hf,k] p hp=>
 k _ hf _ _ (aG hp) (I.newD (ks:=[]) (ts:=[]) (vs:=[]) hp 9 aB.nil)
def WX(fa fb:FE):FP:=λρ Q=>fa ρ λx=>fb ρ λy=>match x,Mq y with
 |.dk ks ts,some k=>∃t,jM ks ts k\t/\Q (.vw t)
 |_,_=>False
def RU(hu:X.A.units+1<cLine)(ha:VR X Z a fa)(hb:VR X Z b fb)(hs:DZ b:=by intro _ _;rfl):VP X Z (.Subscript a b pos) (WX fa fb):=.mk λtm=>PE.weak (n_ hu (ha tm) (hb tm) hs) λσ H Q #[ρ,O,q,I,hf,k] =>
 #[ρ,O,_,I,hf,λx hx v H1 s1 a1=>#[ρ,O,_,I.same s1,hx,λy hy w H2 s2 a2=>by
  split at hy
  rename_i ks ts kk e
  let(t,e1,hq):=hy;let(l,vs,rfl,hl,hd,hv):=(a1.same s2).dk;let(u,e2,e3):=(k9 hv).1 t e1;rw[ux a2 e];calc#[l,u,9,by rw[<- e2,<- jd];calc xJ.k hd,k _ hq _ H2 (s1.trans s2) #[(I.same s1).same s2,e3]];calc hy.elim]]
end
section
variable{a:Expr}{pos:Pos}
def Pf(ts:Φ)(q:qam):Prop:=match ts with
 |[.dk ks vs]=>q (.vw (.int (vs.length:Int)))
 |_=>False
def z_:i5 K (λxs H Q=>∃a aY,xs=[V.ref a]/\H a\.dK aY/\Q (.int aY.length) H) Pf:=by intro Z tm O ρ σ H ts vs q Q I h hp k;unfold Pf at hp;split at hp;let(v,rfl,a):=cA h;let(l,ws,rfl,hl,hd,hv):=a.dk;show#[l,_,9,hd,?_];rw[CV,hl,Kq,hv.length];calc k _ hp _ H 41 #[I,bJ];calc hp.elim
end
end VT
namespace RV
open PySem PySem.Spec PyProof.Rows
section
variable{R:Result->Shared->Prop}
variable{I:Addr}{wr:zm}{G:Array GenState->Array GenState->Prop}{P:Nat->Value->Prop}{St:Nat->Shared->Prop}
end
end RV
namespace VT
open PySem PySem.Spec PyProof.Rows L2
def je(h:n+101<cLine):n+1<cLine:=by lia
section
def xO{out:Array Value}{Q:VK}(I:Inv X ε σ H s)(hx:Vals xs out.toList)(hl:27<=sizeLine)(q:∀a,H a=none->Q (.ref a) (upd H a (.lst xs))) :
  EP X ε σ Q (.ref 36) {s with heap:=sortedAll 42 us out}:=by
 let(e,he):=sortedAll_at 42 us out;show#[.ref 36,_,I.laid (a:=8+1) (o:=.lst xs) (t':=s.toks) (λb o h=>sortedAll_old h) (KO _) #[hl,out.toList,e,hx,?_],9,q _ (I.bB.fresh (KO _))];rw[he]
end
section
def D2:fm X (compareOp .IsNot) (λx y H Q=>∃a b:Bool,x=.bl a/\y=.bl b/\Q (.bl (!decide (a=b))) H):=by intro ε s σ H x y v u Q I rx ry h;let(a,b,rfl,rfl,q):=h;cases rx;cases ry;show wpAny_isNot_plain (by cases a<;>cases b<;>rfl) (zf I q ?_);cases a<;>cases b<;>rfl
end
def uy(x y:T)(q:qam):Prop:=match x,y with
 |.bl a,.bl b=>q (.vw (.bl (!decide (a=b))))
 |_,_=>False
def Ab:nS K (λx y H Q=>∃a b:Bool,x=.bl a/\y=.bl b/\Q (.bl (!decide (a=b))) H) uy:=by intro Z tm O ρ σ H x y v w q Q I h1 h2 h k;unfold uy at h;split at h;calc#[_,_,h1.bl,h2.bl,k _ h _ H 41 #[I,dR]];calc h.elim
section
variable{a:Expr}{pos:Pos}
def rW(ha:VR X Z a fa)(hb:VR X Z b fb):VC X Z (.Compare a [.IsNot] [b] pos) (l6 (f2 fa fb uy)):=ke D2 Ab ha hb (iU _)
end
section
theorem Ms:OB X "dict.setdefault" (λx xs H Q=>∃(a:Addr)(aY:List (Key×V))(k:Key)(v:V),x=.ref a/\xs=[kV k,v]/\H a\.dK aY/\aY.length<sizeLine /\
  (∀u,iJ aY k\u->Q u H)/\(iJ aY k=none->Q v (upd H a (.dK (L2.putK aY k v))))):=by
 intro ε s σ H x xs v us Q I rx rs h;let(a,aY,k,y,rfl,rfl,ha,hsz,q1,q2):=h;cases rx;obtain⟨u1,u2,rfl,ru1,ru2⟩:∃u1 u2,us=[u1,u2]/\RelV (kV k) u1/\RelV y u2:=by
  cases rs with
  |cons r1 t=>cases t with
    |cons r2 t2=>cases t2;exact#[_,_,9,r1,r2]
 let(z,hd,vs,rel,dd):=BV I.bB ha;show call_meetsIn PySem.F.slot_dict_setdefault dd.typeIs PySem.F.entry_dict_setdefault (PySem.F.args_dict_setdefault_3 _ _ _) (kt_meets_setdefault (bR 34 X.w) a (xH ru1) hd u2) #[vs,dd,by rw[<- rel.length];lia,λv0 hv=>?_,λhn h' RO hs=>?_];have wI:=rel.val k;rw[hv] at wI;cases e:iJ aY k with
 |none=>rw[e] at wI;cases wI
 |some w0=>rw[e] at wI;have hr:=wI;exact#[w0,H,I.tok _,hr,q1 w0 e]
 have wI:=rel.val k;rw[hn] at wI;cases e:iJ aY k with
 |some w0=>rw[e] at wI;cases wI
 |none=>
   have he:∃q,h'.get? a\q:=let #[q,_,_,hq,_]:=RO;#[q,hq];have hl:(L2.putK aY k y).length<=sizeLine:=by have:=jc aY k y;lia
   calc#[y,_,uw I (by rw[ha];calc True.intro) hs he (Hb hl hd (rel.put k ru2) RO),ru2,q2 e]
end
section
variable{e1 e2:Expr}{f1 f2:FE}
def Ph(n:Nat)(f1 f2:FE):FX:=λρ Q=>match ρ[n]? with
 |some (some (.dk ks ts,true))=>f1 ρ λx=>f2 ρ λy=>match Mq x with
  |some k=>19<16777216/\match jM ks ts k with
   |some t=>Q ρ (.vw t)
   |none=>Q (ρ.set n (some (.dk (ks++[k]) (ts++[y]),true))) (.vw y)
  |none=>False
 |_=>False
theorem Mt(n:Nat)(h1:VE X Z e1 f1)(h2:VE X Z e2 f2)(hN:X.N[n]?\x:=by rfl)(hv:lN 29 x:=by calc jvv 9)(hd:fY x:=by decide)(f9:qy x:=by decide)(dC:attributeBase 51 "setdefault" 3 (eval 51 3)=eval 51 3:=by rfl)(zz:((backTo bF (starEach [e1,e2] 3)).all (λx=>!x.1) && (backToKw bF (keywordEach [] 3)).all (λx=>x.1.isSome)
    && decide (([e1,e2]:qap).length+([]:List Keyword).length+(if ([]:List Keyword).isEmpty then 0 else 1)<30))=true:=by rfl)(dD:(apos.endLine==bF.line)=true:=by rfl)(hs:starEach [e1,e2] 3=(false,eval e1 3)::starEach [e2] 3:=by rfl)(Dg:starEach [e2] 3=(false,eval e2 3)::starEach [] 3:=by rfl)(ka:(backTo bF (starEach [e2] 3)).any (·.1)=false:=by rfl) :
  VX X Z (.Call (.Attribute 51 "setdefault" apos) [e1,e2] [] bF) (Ph n f1 f2):=.mk λtm=>
 PE.weak (FZ YN PySem.F.slot_dict_setdefault PySem.F.type_dict_setdefault Ms (cc hN hv hd f9) (bw (h1 tm) (bw (h2 tm) cW Dg) hs) dC zz dD hs ka) λσ H Q #[ρ,O,q,I,hf,kk]=>by
  unfold Ph at hf;split at hf
  rename_i ks ts e0
  let(l,g1,g2,xs,hl,g3,g4):=I.root e0;have ha:l∈av Z O:=fW _ (aC.mpr (dX g1));show#[.ref l,g2,.inr (.inr (.inl #[9,.inl #[_,g3]])),ρ,O,_,I,hf,λt ht v H1 s1 a1=>#[ρ,O,_,I.same s1,ht,λy hy w H2 s2 a2=>?_]];split at hy
  rename_i WY ek
  let(hlen,hy):=hy;have ev:=ux (.inl a1) ek;subst ev;have hz:(ks.zip xs).length<sizeLine:=by
   rw[π,CV,hl,Kq,g4.length]
   lia
  have J:=(I.same s1).same s2;have b4:=(g4.same s1).same s2;show#[l,ks.zip xs,WY,w,9,9,s2 _ _ (s1 _ _ g3),hz,λu hu=>?_,λhn=>?_];rw[jd] at hu;cases eg:jM ks ts WY with
  |none=>rw[(k9 b4).2 eg] at hu;cases hu
  |some t0=>rw[eg] at hy;let(v0,e1,e2):=(k9 b4).1 t0 eg;rw[e1] at hu;cases hu;exact kk _ _ hy O _ _ #[J,e2]
  rw[jd] at hn;cases eg:jM ks ts WY with
  |some t0=>let(v0,e1,e2):=(k9 b4).1 t0 eg;rw[e1] at hn;cases hn
  |none=>
    rw[eg] at hy;have e1:L2.putK (ks.zip xs) WY w=(ks++[WY]).zip (xs++[w]):=by rw[Ha _ (by rw[jd];calc hn),List.zip_append hl];rfl
    rw[e1];exact kk _ _ hy O _ _ #[J.wrote e0 g1 #[xs++[w],by simp[hl],aA,(b4.append (aB.cons a2 aB.nil)).wrote ha (s2 _ _ (s1 _ _ g3)) 9],a2.wrote ha (s2 _ _ (s1 _ _ g3)) 9]
  calc hy.elim;calc hf.elim
end
def pA{α:Type}(f:Str):ω->List α->Option α
 |n::ns,t::ts=>match f==n with
  |true=>some t
  |false=>pA f ns ts
 |_,_=>none
def D3(f:Str):ω->ω
 |[]=>[f]
 |n::ns=>if n=f then n::ns else n::D3 f ns
def nI{α:Type}(f:Str)(u:α):ω->List α->List α
 |n::ns,t::ts=>if n=f then u::ts else t::nI f u ns ts
 |_,_=>[u]
theorem pB(f:Str):∀(ns:ω)(vs:qak),(ns.zip vs).lookup f=pA f ns vs
 |[],vs=>by cases vs<;>rfl
 |n::ns,[]=>rfl
 |n::ns,v::vs=>by
  rw[Oj,KI];unfold pA;cases f==n with
  |true=>rfl
  |false=>calc pB f ns vs
theorem xP(f:Str)(y:V):∀(ns:ω)(vs:qak),ns.length=vs.length->iV f y (ns.zip vs)=(D3 f ns).zip (nI f y ns vs)/\(D3 f ns).length=(nI f y ns vs).length
 |[],[],_=>#[9,9]
 |[],v::vs,h=>by simp at h
 |n::ns,[],h=>by simp at h
 |n::ns,v::vs,h=>by have ih:=xP f y ns vs (by simpa using h);change (if n=f then (n,y)::ns.zip vs else (n,v)::iV f y (ns.zip vs))=_/\_;unfold D3 nI;by_cases e:n=f;rw[ι e,ι e,ι e];calc#[9,by simpa using h];rw[θ e,θ e,θ e,ih.1];calc#[9,by simp[ih.2]]
section
variable{A:zm}{f:Str}
theorem xQ:∀{ns:ω}{ts:Φ}{vs:qak}{t:T},aB K H A ts vs->pA f ns ts\t->∃v,pA f ns vs\v/\At K H A t v
 |[],ts,vs,t,_,e=>by cases ts<;>cases e
 |n::ns,[],vs,t,_,e=>by cases e
 |n::ns,t0::ts,vs,t,h,e=>by
  let(v,r,rfl,h1,h2):=h;unfold pA at e ⊢;cases q:f==n with
  |true=>rw[q] at e;cases e;calc#[v,9,h1]
  |false=>rw[q] at e;calc xQ h2 e
theorem BW:∀{ns:ω}{ts:Φ}{vs:qak}{t:T}{v:V},aB K H A ts vs->At K H A t v->aB K H A (nI f t ns ts) (nI f v ns vs)
 |[],ts,vs,t,v,_,q=>by
  have e1:nI f t [] ts=[t]:=by cases ts<;>rfl
  have e2:nI f v [] vs=[v]:=by cases vs<;>rfl
  rw[e1,e2];calc aB.cons q aB.nil
 |n::ns,[],vs,t,v,h,q=>by subst h;calc aB.cons q aB.nil
 |n::ns,t0::ts,vs,t,v,h,q=>by let(v0,r,rfl,h1,h2):=h;unfold nI;by_cases e:n=f;rw[ι e,ι e];calc aB.cons q h2;rw[θ e,θ e];calc aB.cons h1 (BW h2 q)
end
section
variable{f:Str}{pos:Pos}
def WZ(C:Addr)(f:Str)(fe:FE):FP:=λρ Q=>fe ρ λt=>match t with
 |.ins C' ns ts=>C'=C/\∃u,pA f ns ts\u/\Q (.vw u)
 |_=>False
def dH(cl:FL X.K C)(na:cK X.K C f)(h:VR X Z e fe)(hb:attributeBase e f 3 (eval e 3)=eval e 3:=by rfl):VP X Z (.Attribute e f pos) (WZ C f fe):=.mk λtm=>
 PE.weak (zj (h tm) hb) λσ H Q #[ρ,O,q,I,hf,k]=>#[ρ,O,_,I,hf,λt ht v H1 s1 a1=>by
  split at ht
  rename_i C' ns ts
  let(rfl,u,e1,hq):=ht;let(a,dx,vs,rfl,hl,hd,hv):=a1.ins;let(w,e2,e3):=xQ hv e1;calc#[a,_,dx,_,w,9,hd,cl,na,by rw[pB];calc e2,k _ hq _ H1 s1 #[I.same s1,e3]];calc ht.elim]
def Hh(n:Nat)(C:Addr)(f:Str)(fe:FE):FS:=λd ρ=>match ρ[n]? with
 |some (some (.ins C' ns ts,true))=>C'=C/\fe ρ λv=>19<1000/\d.nx (ρ.set n (some (.ins C' (D3 f ns) (nI f v ns ts),true)))
 |_=>False
def il(n:Nat)(cl:FL X.K C)(na:cK X.K C f)(he:VE X Z e fe)(hN:X.N[n]?\x:=by rfl)(hv:lN 29 x:=by calc jvv 9)(hd:fY x:=by decide)(f9:qy x:=by decide)(hs:swapsWith e (some (.Attribute 51 f dj)) pos.line 3=pure false:=by rfl) :
  VS X Z (.Assign [.Attribute 51 f dj] e pos) (Hh n C f fe):=.mk λtm=>
 PS.weak (QI (cc hN hv hd f9) (he tm) hs) λD σ H #[ρ,O,d,I,q,F]=>by
  unfold Hh at q;split at q
  rename_i C' ns ts e0
  let(rfl,q):=q;let(l,h1,h2,dx,xs,hl,h3,h4):=I.root e0;have ha:l∈av Z O:=fW _ (aC.mpr (dX h1));show#[ρ,O,_,I,q,λt ht v H1 s1 a1=>#[.ref l,h2,l,_,dx,_,9,s1 _ _ h3,cl,na,?_,?_]];rw[CV,hl,Kq,h4.length];calc ht.1;have pz:=xP f v ns xs hl;rw[pz.1];calc F.nx O _ σ _ ((I.same s1).wrote (t':=.ins _ (D3 f ns) (nI f t ns ts)) e0 h1 #[dx,nI f v ns xs,pz.2,aA,aB.wrote ha (s1 _ _ h3) 9 (BW (h4.same s1) a1)]) ht.2;calc q.elim
def Mu(K:qaf)(C:Addr)(n:Nat)(G:Φ->(T->Prop)->Prop):Sp:=qR K (true::List.replicate n false) λts q=>match ts with
 |.ins C' [] []::us=>C'=C/\G us λu=>q [u] (.vw .bO)
 |_=>False
def W0(n:Nat)(g:FA)(G:Φ->(T->Prop)->Prop):FP:=λρ Q=>g ρ λts=>19=n/\G ts λu=>Q (.fr u)
def uz{G:Φ->(T->Prop)->Prop}{tm:qab}{ts:Φ}{q:qam}{Q:VK}(I:az X.K Z tm O ρ σ H)(a:aB X.K H (av Z O) ts vs)(hn:19=n)(hG:G ts λu=>q (.fr u))(k:∀r,q r->∀v H',aO H H'->iI X.K Z tm O ρ σ H' r v->Q v H'):∀x dx,H x=none->H dx=none->dx≠x->Mu X.K C n G (.ref x::(vs++[])) (upd (upd H dx (.own x)) x (.ins C dx [])) (λv H2=>v=.bO/\Q (.ref x) H2) E0:=by
 intro x dx hx hdx eV;rw[Bb];let(n1,n2,n3):=I.fresh hx;have s0:aO H (upd (upd H dx (.own x)) x (.ins C dx [])):=λb o e=>by rw[au (bz e hx),au (bz e hdx)];exact e
 have a1:=(a.more λb hb=>by
  rcases fu.mp hb with z|z
  calc .inr (by rw[f6.mp z];calc hx);calc .inl z).same s0
 show#[.ins C [] []::ts,[x],av Z O,λus r=>r=.vw .bO/\∃u,us=[u]/\q (.fr u),by simp,λb hb=>by rw[f6.mp hb];calc n1,λb hb=>?_,#[x,[],_,ts,vs,9,9,9,#[dx,[],9,aA,aB.nil],ic hn a1],#[9,?_],λus r hr v H' fr z=>?_];cases e:H b with
 |none=>calc absurd e (I.OD b hb)
 |some o=>rw[s0 _ _ e];simp
 have w:(λu=>q (.fr u))=λu=>((.vw .bO:Rt)=.vw .bO/\∃u',[u]=[u']/\q (.fr u')):=by funext u;exact propext #[λh=>#[rfl,u,rfl,h],λ#[_,u',e,h]=>by cases e;calc h]
 rw[<- w];calc hG;let(rfl,u,rfl,hq):=hr;let(z1,z2):=z;show#[z1,?_];cases z2 with
 |cons r _=>
  have s:=λb o e=>fr b o (s0 b o e) (by rw[f6];calc bz e hx);let(o,eo,_):=r.mut;show k _ hq _ H' s #[x,9,I.BB hx s eo,r.bq λc hc=>?_,n3,n2];rcases cU c hc with z|z
  calc gE _ z;rw[z];calc fW _ d_
def BX{kk:Nat}{G:Φ->(T->Prop)->Prop}{fI:Addr}(M:Mk X.K C fI)(F:dz 34 X.w X.K X.mg X.base iP kk fI fd ps (Mu X.K C n G))(hr:bA (kk+1) X.A)(hg:Gl X x)(hm:X.mg x\.ref C)(hb:Binds X.K fd ps [])(ha:VA X Z (e::es) g)(qJ:fY x:=by decide)(he:starEach (e::es) 3=(false,eval e 3)::starEach es 3:=by rfl)(j9:(backTo pos (starEach es 3)).any (·.1)=false:=by rfl) :
  VP X Z (.Call 51 (e::es) [] pos) (W0 n g G):=.mk λtm=>PE.weak (tw M F hr hg hm hb .nil jV (ha tm) qJ he j9) λσ H Q #[ρ,O,q,I,hf,k] =>
 #[ρ,O,_,I,hf,λts gF vs H1 s1 a1=>uz (I.same s1) a1 gF.1 gF.2 λr hr v H' s z=>k r hr v H' (s1.trans s) z]
end
structure Dc(K:qaf)(mg:qae)(cls qual:Str)(st:Stmt)(ps:ω)(C f:Addr)(fd:FuncData):Prop where
 F:Dr K "__init__" qual st f fd
 m:mg cls\.ref C
 b:Binds K fd ps []
 M:Mk K C f
def Ac(P:Program)(w:World)(K:qaf)(mg:qae)(base:Heap)(cls:Str)(C:Addr)(ps:ω)(k n:Nat)(G:Φ->(T->Prop)->Prop):Prop :=
 ∃f fd,Mk K C f/\mg cls\.ref C/\Binds K fd ps []/\dz P w K mg base iP k f fd ps (Mu K C n G)
section
def Dc.gQ{cls:Str}{st:Stmt}{k:Nat}{G:Φ->(T->Prop)->Prop}(D:Dc K mg cls qual st ps C f fd)(F:dz P w K mg base iP k f fd ps (Mu K C n G)):Ac P w K mg base cls C ps k n G :=
 #[f,fd,D.M,D.m,D.b,F]
def fnI{st:Stmt}{N:ω}{k:Nat}{G:Φ->(T->Prop)->Prop}(F:Dr K x qual st f fd)(S:aI N ps (aq st))(hn:n+1=ps.length)(fA:∀(bP:Value) (A:Around) (outer:List Env) (s:Shared) (H:Hp) (E:XK) (as Ox:zm),bA k (A.deeper (envOfC qual (aq st) 8 f bP))->∀(us:Φ) (q:Φ->qam),us.length=n->G us (λu=>q [u] (.vw .bO)) ->
    ∃g,iQ (j_ iP P w K mg base N qual (aq st) f bP A outer s H E).C4 #[H,pz (true::List.replicate n false) as 0,Ox] (cn st) g /\
     g {nx:=λρ=>q (kU (true::List.replicate n false) ρ) (.vw .bO),rt:=λρ r=>q (kU (true::List.replicate n false) ρ) r} (some (.ins C [] [],true)::xc (List.replicate n false) us++List.replicate (N.length-(us.length+1)) none)) :
  dz P w K mg base iP (k+1) f fd ps (Mu K C n G) :=
 fnV F S (by rw[<- hn];simp) λbP A outer s H E as Ox hr ts q hl hG=>by
  cases ts with
  |nil=>calc hG.elim
  |cons t us=>cases t with
    |ins C' ns vs=>cases ns with
      |nil=>cases vs with
        |nil=>let(e,hG'):=hG;subst e;calc fA bP A outer s H E as Ox hr us q (by simpa using hl) hG'
        |cons _ _=>calc hG.elim
      |cons _ _=>calc hG.elim
    |_=>calc hG.elim
end
def BY(a d:Addr):HO:=.ext λh=>h.get? a=some {cls:=.type "dict_values",data:=.fields ([.ref d].toArray)}
theorem xR(val:Nat->Int):∀k,∃j≤k,argBest (λi j=>decide (val i<val j)) k=j/\∀i≤k,val j<=val i
 |0=>#[0,cD _,9,λi hi=>by rw[Nat.le_zero.mp hi];calc Int.le_refl _]
 |k+1=>by
  let(j,hj,e,h):=xR val k;unfold argBest;rw[e];by_cases q:val (k+1)<val j;rw[ι (ο q)];show#[k+1,cD _,9,λi hi=>?_];rcases Nat.lt_or_eq_of_le hi with l|l
  calc Int.le_trans (Int.le_of_lt q) (h i (Nat.le_of_lt_succ l));rw[l];calc Int.le_refl _;rw[θ (by rw[aaj];calc q)];show#[j,Nat.le_succ_of_le hj,9,λi hi=>?_];rcases Nat.lt_or_eq_of_le hi with l|l
  calc h i (Nat.le_of_lt_succ l);rw[l];calc Int.not_lt.mp q
section
def D4:OB X "dict.values" (λx xs H Q=>∃(d:Addr)(aY:List (Key×V)),x=.ref d/\xs=[]/\H d\.dK aY/\∀a,H a=none->Q (.ref a) (upd H a (BY a d))):=by intro ε s σ H x xs v us Q I rx rs h;let(d,aY,rfl,rfl,hd,q):=h;cases rx;cases rs;let(z,hs,vs,rel,dd):=BV I.bB hd;show call_meetsIn PySem.F.slot_dict_values dd.typeIs PySem.F.entry_dict_values (PySem.F.args_dict_values_1 _) (meets_dict_values (bR 34 X.w) d hs) #[#[vs,dd],#[.ref 8,_,I.laid (λb o e=>de _ e) (cD _) ?_,9,q _ I.fresh]];calc#[hW _ 9,#[_,hW _ 9],λh1 h2 z k=>k _ z]
def uA(hc:X.calm=true):c5 X (.builtin "min") (λxs H Q=>∃(a d:Addr)(aY:List (Key×V))(is:qan),xs=[.ref a]/\H a\BY a d/\H d\.dK aY/\aY.map (·.2)=is.map V.int/\is≠[]/\∀m,m∈is->(∀i∈is,m<=i)->Q (.int m) H):=by
 intro ε s σ H xs us Q I r h;let(a,d,aY,is,rfl,ha,hd,hv,eV,q):=h;let(u,rfl,ru):=vals1 r;cases ru;let(z,hs,vs,rel,dd):=BV I.bB hd;let(hA,_,_):=(show bL 34 X.w H 42 a (BY a d) from I.bB a _ ha);let(ep,da):=dd.dictAt;have hh:X.A.in1.handled=none:=by simp[I.ok.hd hc]
 have hlen:vs.length=is.length:=by have:=fv List.length hv;rw[bN,bN] at this;rw[<- rel.length];exact this
 have W2:∀(i:Nat) v,(∃k,vs[i]?\(k,v))->∃t,v=.int (is.getD i 0) t:=by
  intro i v #[k,e];have hi:=(dA.mp e).1;have hi2:i<aY.length:=by rw[rel.length];exact hi
  have e1:aY[i]?\aY[i]:=by simp[hi2]
  have key:∀{l₁:List (Key×V)}{l₂:List (Key×Value)}{i:Nat}{p:Key×V}{q:Key×Value},KV l₁ l₂->l₁[i]?\p->l₂[i]?\q->RelV p.2 q.2:=by
   intro l₁ l₂ i p q h;induction h generalizing i with
   |nil=>intro e;simp at e
   |cons r t ih=>
    intro e e';cases i with
    |zero=>simp at e e';subst e;subst e';calc r.2
    |succ i=>exact ih (by simpa using e) (by simpa using e')
  have rr:=key rel e1 e;have e2:(aY.map (·.2))[i]?\aY[i].2:=by rw[dQ,e1];rfl
  rw[hv,dQ] at e2;cases q2:is[i]? with
  |none=>rw[q2] at e2;cases e2
  |some m=>rw[q2] at e2;have e3:=(Option.some.inj e2).symm;rw[e3] at rr;let(t,et):=rr;exact#[t,by rw[TH,q2];calc et]
 have RW:0<vs.length:=by rw[hlen];exact Uy.mpr eV
 show call_min_walk (wpAny_pyIter_values #[_,hA,9,9] da #[_,_,_,_,_,_,_,9,Walks.dictValues hh _ d (gr da.lt_size) vs ep,#[#[_,hW _ 9,9,9],da.push _],λb hb=>?_,RW,CmpOf.ints_lt (λi=>is.getD i 0) W2,λv h' tk hP hk=>?_]);rw[CW];rcases cT.mp hb with rfl|hb
 calc Ba _;rw[f6.mp hb];calc Kl da.lt_size;let(j,hj,e,hm):=xR (λi=>is.getD i 0) (vs.length-1);rw[e] at hP;let(t,rfl):=W2 j v hP;have RX:j<is.length:=by lia
 show#[.int (is.getD j 0),H,I.kept λb u eb=>hk b u (λz=>?_) (de _ eb),#[t,9],q _ ?_ λi hi=>?_];rw[f6.mp z] at eb;calc absurd (dB eb) (CY _);rw[TH,gq RX];calc CU RX;let(n,hn):=Kj.mp hi;have hnl:=(dA.mp hn).1;have:=hm n ();have e5:is.getD n 0=i:=by rw[TH,hn];rfl
 rw[e5] at this;calc this
end
section
variable{a:Expr}{p1 Aa D1:Pos}
def W3(fa:FE):FP:=λρ Q=>fa ρ λx=>match x with
 |.dk ks ts=>∃is,ts=is.map T.int/\is≠[]/\∀m,m∈is->(∀i∈is,m<=i)->Q (.vw (.int m))
 |_=>False
def Ad(hc:X.calm=true)(hgl:Gl X "min")(BZ:X.mg "min"=none)(ha:VR X Z a fa)(dC:attributeBase a "values" 3 (eval a 3)=eval a 3:=by rfl)(dD:(apos.endLine==D1.line)=true:=by rfl)(he:starEach [.Call (.Attribute a "values" apos) [] [] D1] 3=(false,eval (.Call (.Attribute a "values" apos) [] [] D1) 3)::starEach [] 3:=by rfl)(j9:(backTo Aa (starEach [] 3)).any (·.1)=false:=by rfl) :
  VP X Z (.Call (.Name "min" p1) [.Call (.Attribute a "values" apos) [] [] D1] [] Aa) (W3 fa):=.mk λtm=>
 PE.weak (oF (uA hc) hgl BZ Wr (bw (zy YN PySem.F.slot_dict_values PySem.F.type_dict_values D4 (ha tm) dC dD) cW he) 5 5 he j9) λσ H Q #[ρ,O,q,I,hf,k] =>
  #[ρ,O,_,I,hf,λx hx v H1 s1 a1=>by
    split at hx
    rename_i ks ts
    let(is,rfl,eV,hq):=hx;let(d,vs,rfl,hl,hd,hv):=a1.dk;show#[.inr (.inr (.inl #[9,.inl #[_,hd]])),d,_,9,9,hd,λb hb=>?_];have sb:aO H1 (upd H1 b (BY b d)):=aG hb;have ev:vs=is.map V.int:=by
     clear hq eV hl hd a1;induction is generalizing vs with
     |nil=>simpa only[P_,aB] using hv
     |cons i is ih=>let(v,r,rfl,rfl,h2):=hv;rw[ih r h2];rfl
    subst ev;show#[b,d,_,is,9,aA,sb _ _ hd,?_,eV,λm h1 h2=>k _ (hq m h1 h2) _ _ (s1.trans sb) #[(I.same s1).same sb,bJ]];rw[List.map_snd_zip];rw[hl];calc cD _;calc hx.elim]
end
end VT
namespace Lay
open PySem L2 VT Gen K5
def T'(l:List (Str×Nat)):T:=.dk (l.map λp=>(Sum.inr p.1:Key)) (l.map λp=>T.int (p.2:Int))
def Hi(l:List (Str×Nat))(f:Str):jM (l.map λp=>(Sum.inr p.1:Key)) (l.map λp=>T.int (p.2:Int)) (Sum.inr f)=(qU l f).map λi=>T.int (i:Int):=by
 induction l with
 |nil=>rfl
 |cons p l ih=>let(k,i):=p;simp only[fj,jM,qU];by_cases h:k=f;rw[ι h,ι (by rw[h])];rfl;rw[θ h,θ (λz=>h (Sum.inr.inj z))];calc ih
theorem pD(rs:qal):∀n,(a_ rs n).length<=n
 |0=>cD _
 |n+1=>by
  have:=pD rs n;simp only[a_];split
  rename_i r _
  cases r<;>simp only[G5]<;>first
   |lia
   | (split<;>simp<;>lia)
  lia
def W4:Rw->Bool
 |.df _ _=>true
 |_=>false
def jf(rs:qal):Option Nat:=rs.findIdx? W4
theorem rX(rs:qal):∀n,∀p∈a_ rs n,p.2<n/\∃ps,rs[p.2]?\.df p.1 ps
 |0,p,h=>nomatch h
 |n+1,p,h=>by
  have old:p∈a_ rs n->p.2<n+1/\∃ps,rs[p.2]?\.df p.1 ps:=λh=>by have:=rX rs n p h;exact#[(),this.2]
  simp only[a_] at h;split at h
  rename_i r hr
  cases r with
  |df g ps=>
   simp only[G5] at h;split at h;calc old h;rcases fu.mp h with z|z
   calc old z;rw[f6] at z;subst z;calc#[Ba _,ps,hr]
  |_=>exact old h
  calc old h
theorem gi{rs:qal}{i:Nat}(h:∀j,j<i->∀f ps,rs[j]?≠some (.df f ps)):∀n≤i,a_ rs n=[]
 |0,_=>rfl
 |n+1,hn=>by
  simp only[a_];split
  rename_i r hr
  rw[gi h n ()];cases r with
  |df g ps=>calc absurd hr (h n () g ps)
  |_=>rfl
  calc gi h n ()
theorem jg{rs:qal}{i:Nat}{g:Str}{ps:ω}(hi:rs[i]?\.df g ps)(h:∀j,j<i->∀f ps,rs[j]?≠some (.df f ps)):∀n,i<n->∃l,a_ rs n=(g,i)::l
 |0,hn=>absurd hn (UH _)
 |n+1,hn=>by
  by_cases e:i=n;subst e;show#[[],?_];simp only[a_,hi,G5];rw[gi h i (cD _)];rfl;let(l,hl):=jg hi h n ();simp only[a_];rw[hl];split
  rename_i r _
  cases r with
  |df f qs=>simp only[G5];split;calc#[l,9];calc#[l++[(f,n)],9]
  |_=>exact#[l,9]
  calc#[l,9]
def Mw(h:W4 r=true):∃f ps,r=.df f ps:=by
 cases r with
 |df f ps=>calc#[f,ps,9]
 |_=>cases h
def rY(h:jf rs\i):(∃f ps,rs[i]?\.df f ps)/\∀j,j<i->∀f ps,rs[j]?≠some (.df f ps):=by unfold jf at h;rw[List.findIdx?_eq_some_iff_getElem] at h;let(hl,h1,h2):=h;let(f,ps,e):=Mw h1;show#[#[f,ps,by rw[gq hl,e]],λj hj f ps e=>?_];let(RX,ej):=dA.mp e;have:=h2 j hj;rw[ej] at this;calc this 9
def D5(h:jf rs=none):∀(j:Nat) f ps,rs[j]?≠some (Rw.df f ps):=by unfold jf at h;rw[List.findIdx?_eq_none_iff] at h;intro j f ps e;have:=h _ (dX e);cases this
def Ae(h:jf rs=none):a_ rs 6=[]:=gi (λj _=>D5 h j) _ (cD _)
def Hj{m:Int}(h1:m∈(a_ rs 6).map λp=>(p.2:Int))(h2:∀i∈(a_ rs 6).map λp=>(p.2:Int),m<=i):T.int m=oT (jf rs):=by
 cases e:jf rs with
 |none=>rw[Ae e] at h1;cases h1
 |some i=>
  let((g,ps,hi),hm):=rY e;let(l,hl):=jg hi hm 6 (dA.mp hi).1;let(p,hp,rfl):=gH.mp h1;let(_,qs,hq):=rX rs _ p hp;have le1:=h2 _ (gH.mpr #[(g,i),by rw[hl];calc d_,9]);have le2:¬ p.2<i:=λz=>hm _ z _ _ hq;have:p.2=i:=by lia
  rw[this];rfl
def W5(rs:qal):Φ:=(List.range 6).map λi=>oT (ur 22 i)
def B0(rs:qal):Φ:=(List.range 6).map λi=>oT (endsAt 22 6 i)
def W6(rs:qal):Φ:=z9 22 6 6
def iK(rs:qal):Φ:=(List.range 6).map λi=>oT (gG 22 i)
def Hk(rs:qal):G_ rs=[.lst (W5 rs),.lst (B0 rs),.lst (W6 rs),.lst (iK rs)]:=rfl
def iL(C:Addr)(rs:qal):T:=.ins C ["program","heads","ends","elses","homes","defs","main"] [.lst 50,.lst (W5 rs),.lst (B0 rs),.lst (W6 rs),.lst (iK rs),T' (a_ rs 6),oT (jf rs)]
section
def eU(h:rs[i]?\r):iW 50 (i:Int)\aV r:=ag (by rw[dQ,h];rfl)
def Mx(h:i<6):iW (B0 rs) (i:Int)\oT (endsAt 22 6 i):=ag (by unfold B0;rw[dQ,Og h];rfl)
def pF(h:i<6):iW (iK rs) (i:Int)\oT (gG 22 i):=ag (by unfold iK;rw[dQ,Og h];rfl)
end
def top(i:Nat):Stmt:=PySem.Challenge.pw_slicewise_k25_the_least_closed_table.main.body.getD i (.Pass #[0,0,0,0])
abbrev ip:Stmt:=top 12
structure MgF(mg:qae):Prop where
 enumerate:mg "enumerate"=none
def Hl(ts:Φ)(q:qam):Prop:=∃rs:qal,ts=[.lst 50]/\6<=100/\q (.fr (T' (a_ rs 6)))
section
abbrev uB:ω:=["program","firsts","place","row"]
def jZ:aI uB qav (aq ip):=L2.gL
def qW(D:Df K mg "first_defs" ip qav f fd)(M:MgF mg):cp P w K mg base "first_defs" qav 1 (cH K 1 Hl):=by
 show D.gQ (jJ D.F jZ 9 λbP A outer s H E Ox hr ts q hG=>?_);have nd:=jZ.nd;have hu:=bA.dG hr;have np:∀{i:Nat},aZ #[H,[],Ox] i:=gR;show#[_,(ah (cN (i:=1) nd 9 7 (v9 Mr) np)
  (ah (cg kr 9 (ie 18 M.enumerate (ai 0)) (cX (n:=2) 9 (aH (ay (i:=2) nd 9 7 np) (aH (ay (i:=03) nd 9 7 np) b_)))
   (ak (bb (bt hu (ν (ar (ae 03) 14)) (ν ax))
    (ak (br (Mt 1 (υ (ar (ae 03) 14)) (ai 2))))
    aM)))
  (ak (aL (gc 1 np))))),λ_=>?_]
 let(rs,rfl,hn,hq):=hG;show jt (λi ρ=>E2 λb2 b3=>ρ=[some (.lst 50,false),some (T' (a_ rs i),true),b2,b3]) #[_,_,9] ?_ ?_;rintro i r ρ hr ⟨b2,b3,rfl⟩;have hi:=(dA.mp hr).1;have hlen:((a_ rs i).map λp=>T.int (p.2:Int)).length<16777216:=by rw[bN];have:=pD rs i;lia
 have es:a_ rs (i+1)=G5 (a_ rs i) i r:=by simp only[a_,hr]
 cases r with
 |df g ps=>
  show#[9,9,_,aaL,?_];show#[_,aaM,hlen,?_];rw[es];simp only[G5];rw[Hi];cases ha:qU (a_ rs i) g with
  |some j=>calc#[_,_,9]
  |none=>
   change E2 λb2 b3=>_=[_,some (T' (a_ rs i++[(g,i)]),true),b2,b3];have ef:T' (a_ rs i++[(g,i)])=.dk (((a_ rs i).map λp=>(Sum.inr p.1:Key))++[Sum.inr g]) (((a_ rs i).map λp=>T.int (p.2:Int))++[T.int (i:Int)]):=by simp only[T',qz,fj,P_]
   rw[ef];calc#[_,_,9]
 |_=>show#[9,9,_,aaL,?_];rw[es];exact#[_,_,9]
 rintro ρ ⟨b2,b3,rfl⟩;calc hq
end
end Lay
namespace W7
open PySem L2 VT Gen K5
def top(i:Nat):Stmt:=PySem.Challenge.pw_slicewise_k25_the_least_closed_table.main.body.getD i (.Pass #[0,0,0,0])
abbrev k_:Stmt:=top 13
structure Mg5(K:qaf)(mg:qae):Prop where
 len:mg "len"=none
 range:mg "range"=none
 enumerate:mg "enumerate"=none
 isinstance:mg "isinstance"=none
 int:mg "int"=none
 bool:mg "bool"=none
 tuple:mg "tuple"=none
 list:mg "list"=none
 zip:mg "zip"=none
 CL:∃a,mg "CLOSERS"\.ref a/\∀H,dO K H a [.str "give",.str "end"]
 OP:∃a,mg "OPENERS"\.ref a/\∀H,dO K H a [.str "def",.str "if",.str "while"]
def Hm(ts:Φ)(q:Φ->Prop):Prop:=∃rs:qal,ts=[.lst 50]/\Pc rs/\6<=100/\q (G_ rs)
def oH{l:Φ}{t:T}(h:l.getLast?\t):iW l (-1)\t:=by
 have hl:0<l.length:=by cases l<;>simp_all
 rw[Fj] at h;unfold iW yV;rw[θ 5,ι ()];have e:(-1+(l.length:Int)).toNat=l.length-1:=by lia
 rw[e];calc h
theorem Hn(kd:Nat->Kd):∀k,(st kd k).length<=k
 |0=>cD _
 |k+1=>by have:=Hn kd k;simp only[st];split<;>split<;>simp<;>lia
def My(n:Nat)(t:T):(List.replicate n [t]).flatten=List.replicate n t:=by
 induction n with
 |zero=>rfl
 |succ n ih=>rw[Kk,UA,ih];rfl
def Ho(rs:qal)(h e l o s:Φ)(k:Nat)(r:Rw):En:=[aJ (.lst 50),some (.lst h,true),some (.lst e,true),some (.lst l,true),some (.lst o,true),some (.lst s,true),aJ (.int (k:Int)),aJ (aV r)]
def uC(rs:qal)(k:Nat):Φ:=(st 22 k).map λ(j:Nat)=>T.int (j:Int)
def W8(rs:qal)(k:Nat)(ρ:En):Prop:=E7 λb6 b7 h e l o s=>ρ=[aJ (.lst 50),some (.lst h,true),some (.lst e,true),some (.lst l,true),some (.lst o,true),some (.lst s,true),b6,b7]/\h=tab (ur 22) 6 k/\e=jL (endsAt 22 6) 6 k/\l=z9 22 6 k/\o=tab (gG 22) 6 k/\s=uC rs k
def D6(rs:qal)(M:Nat->Rw->Φ->Φ->Φ->Φ->Φ->Prop):FS:=λd ρ=>E7 λk r h e l o s=>rs[k]?\r/\ρ=Ho rs h e l o s k r/\h=tab (ur 22) 6 (k+1)/\M k r h e l o s/\∀ρ',W8 rs (k+1) ρ'->d.nx ρ'
def M1(rs:qal)(k:Nat)(r:Rw)(h e l o s:Φ):Prop:=e=jL (endsAt 22 6) 6 k/\l=z9 22 6 k/\s=uC rs k/\o.length=6/\((aX r).df=true->o.set k (.int (k:Int))=tab (gG 22) 6 (k+1))/\((aX r).df=false->o=tab (gG 22) 6 (k+1))
def M2(rs:qal)(k:Nat)(r:Rw)(h e l o s:Φ):Prop:=e=jL (endsAt 22 6) 6 k/\l=z9 22 6 k/\s=uC rs k/\o=tab (gG 22) 6 (k+1)
def M3(rs:qal)(k:Nat)(r:Rw)(h e l o s:Φ):Prop:=e=jL (endsAt 22 6) 6 k/\l=z9 22 6 (k+1)/\s=uC rs k/\o=tab (gG 22) 6 (k+1)
def M4(rs:qal)(k:Nat)(r:Rw)(h e l o s:Φ):Prop:=e=jL (endsAt 22 6) 6 (k+1)/\l=z9 22 6 (k+1)/\o=tab (gG 22) 6 (k+1)/\s=(if (aX r).cl=true then (uC rs k).dropLast else uC rs k)
def pG{k:Nat}(h:k<n):yV n (k:Int)\k:=by unfold yV;rw[ι (),ι (),kA]
def uD{k:Nat}(h:st 22 k≠[]):∃j,(st 22 k).getLast?\j/\iW (uC rs k) (-1)\.int (j:Int):=by obtain⟨j,hj⟩:∃j,(st (bE rs) k).getLast?\j:=#[_,List.getLast?_eq_some_getLast h];calc#[j,hj,oH (by unfold uC;rw[List.getLast?_map,hj];rfl)]
section
abbrev uE:ω:=["program","heads","ends","elses","homes","opened","place","row"]
def xS:aI uE qav (aq k_):=L2.gL
def Hq(D:Df K mg "shape" k_ qav f fd)(M:Mg5 K mg):cp P w K mg base "shape" qav 1 (Mm K 1 Hm):=by
 show D.gQ (fnD D.F xS 9 5 λbP A outer s H E Ox hr ts q hG=>?_);have nd:=xS.nd;have hu:=bA.dG hr;have np:∀{i:Nat},aZ #[H,[],Ox] i:=gR;let(ac,mc,hac):=M.CL;let(ao,mo,hao):=M.OP;have D7:∀{pos},VP (j_ iP P w K mg base uE "shape" (aq k_) f bP A outer s H E).C4 #[H,[],Ox] (.Name "CLOSERS" pos) (fC (.tup [.str "give",.str "end"])):=nR 18 mc (v:=.ref ac) 9 λH A=>dm (hac H) (aB.cons eR (aB.cons eR aB.nil));have D8:∀{pos},VP (j_ iP P w K mg base uE "shape" (aq k_) f bP A outer s H E).C4 #[H,[],Ox] (.Name "OPENERS" pos) (fC (.tup [.str "def",.str "if",.str "while"])):=nR 18 mo (v:=.ref ao) 9 λH A=>dm (hao H) (aB.cons eR (aB.cons eR (aB.cons eR aB.nil)));let(rs,rfl,W,hn,hq):=hG;show#[_,(cS (cN (i:=1) nd 9 7 (v9 (ua (bD (aa (υ iZ) aj)) (ν (aU bf bh 18 M.len ny (aK (ae 0) aS))))) np)
  (cS (cN (i:=2) nd 9 7 (v9 (ua (bD (aa (υ iZ) aj)) (ν (aU bf bh 18 M.len ny (aK (ae 0) aS))))) np)
  (cS (cN (i:=03) nd 9 7 (v9 (ua (bD (aa (υ iZ) aj)) (ν (aU bf bh 18 M.len ny (aK (ae 0) aS))))) np)
  (cS (cN (i:=04) nd 9 7 (v9 (ua (bD (aa (υ iZ) aj)) (ν (aU bf bh 18 M.len ny (aK (ae 0) aS))))) np)
  (cS (cN (i:=05) nd 9 7 (v9 (bD aj)) np)
  (cS (cg kr 9 (ie 18 M.enumerate (ai 0)) (cX (n:=2) 9 (aH (ay (i:=06) nd 9 7 np) (aH (ay (i:=07) nd 9 7 np) b_)))
   (ah (bb (rN (ν (aU bf bh 18 M.len ny (aK (ae 05) aS))) 14)
    (ah (eS 1 (υ (ar (ae 05) (ν (oU 14)))) (ae 06))
    (ak (eS 04 (υ (ar (ae 05) 14)) (ae 06))))
    aM)
   (iQ.weak (u:=(D6 rs (M1 rs))) (ah (bb (bt hu (ν (ar (ae 07) 14)) (ν ax))
    (ak (eS 04 (ai 06) (ae 06)))
    aM)
   (iQ.weak (u:=(D6 rs (M2 rs))) (ah (bb (bt hu (ν (ar (ae 07) 14)) (ν ax))
    (ak (eS 03 (ai 06) (ν (ar (ae 05) (ν (oU 14))))))
    aM)
   (iQ.weak (u:=(D6 rs (M3 rs))) (ah (bb (OT (ν (ar (ae 07) 14)) (ν D7))
    (ah (eS 2 (ai 06) (ν (ar (ae 05) (ν (oU 14)))))
    (ak (br (Gx 05 PySem.F.slot_list_pop PySem.F.type_list_pop F3 Bw))))
    aM)
   (iQ.weak (u:=(D6 rs (M4 rs))) (ak (bb (OT (ν (ar (ae 07) 14)) (ν D8))
    (ak (br (cR 05 ni nq aW aQ (aa (ai 06) aj))))
    aM)) ?w4)) ?w3)) ?w2)) ?w1)))
  (BR (is:=[1,2,03,04]) 9 #[_,_,1,_,9,9,9,Or.inl 9,by decide,by decide,9,#[_,_,2,_,9,9,9,Or.inl 9,by decide,by decide,9,#[_,_,03,_,9,9,9,Or.inl 9,by decide,by decide,9,#[_,_,04,_,9,9,9,Or.inl 9,by decide,by decide,9,9]]]] 5 5))))))),λ_=>?main]
 case w4=>
  rintro d ρ ⟨k,r,h,e,l,o,s,cw,rfl,rfl,⟨rfl,rfl,rfl,rfl⟩,fin⟩;have xT:k<6:=(dA.mp cw).1;have m3:=c_ cw;let(rl,er):=gW r;unfold Ho;rw[er];show#[_,aaL,9,9,?_];show wL (λh1=>?_) (λh1=>?_);have ho:(aX r).op=true:=by rw[<- WQ];exact h1
  have hc:(aX r).cl=false:=by have:=W.ex k xT (by rw[m3];calc ho);rw[m3] at this;exact this
  rw[hc,θ jq];show#[?_,fin _ #[_,_,_,_,_,_,_,9,9,9,9,9,?_]];have:=Hn 22 k;unfold uC;rw[bN,π]
  lia
  unfold uC;rw[iG (by rw[m3];calc ho) (by rw[m3];calc hc),qz];rfl;have ho:(aX r).op=false:=by
   cases q:(aX r).op with
   |false=>rfl
   |true=>exact (h1 ((WQ r).trans q)).elim
  show fin _ #[_,_,_,_,_,_,_,9,9,9,9,9,?_];unfold uC;by_cases hc:(aX r).cl=true;rw[ι hc,i_ (by rw[m3];calc hc) (by rw[m3];calc ho),List.map_dropLast];rw[θ hc,fJ (by rw[m3];cases q:(aX r).cl<;>simp_all) (by rw[m3];calc ho)]
 case w3=>
  rintro d ρ ⟨k,r,h,e,l,o,s,cw,rfl,rfl,⟨rfl,rfl,rfl,rfl⟩,fin⟩;have xT:k<6:=(dA.mp cw).1;have m3:=c_ cw;let(rl,er):=gW r;unfold Ho;rw[er];show#[_,aaL,9,9,?_];show wL (λh1=>?_) (λh1=>?_);have hc:(aX r).cl=true:=by rw[<- WO];exact h1
  have oy:(bE rs k).cl=true:=by rw[m3];exact hc
  let(j,hj,ej):=uD (W.cl k xT oy);let(te,hjk):=Ml W xT oy hj;show#[_,ej,j,by rw[xB];calc pG (),9,.int (j:Int),?_,k,r,_,_,_,_,_,cw,by rw[<- er];rfl,9,#[?_,9,9,by rw[ι hc]],fin];unfold uC;rw[bN,dQ,<- Fj,hj];rfl;show G9 te λi hi he=>?_;have:=(um W xT he hi).2;rw[hj] at this;calc (Option.some.inj this).symm;have hc:(aX r).cl=false:=by
   cases q:(aX r).cl with
   |false=>rfl
   |true=>exact (h1 ((WO r).trans q)).elim
  show#[k,r,_,_,_,_,_,cw,by rw[<- er];rfl,9,#[DT λi hi he=>?_,9,9,by rw[hc,θ jq]],fin];have:=(um W xT he hi).1;rw[m3,hc] at this;cases this
 case w2=>
  rintro d ρ ⟨k,r,h,e,l,o,s,cw,rfl,rfl,⟨rfl,rfl,rfl,rfl⟩,fin⟩;have xT:k<6:=(dA.mp cw).1;have m3:=c_ cw;let(rl,er):=gW r;unfold Ho;rw[er];show#[_,aaL,?_];show wL (λh1=>?_) (λh1=>?_);have hc:(aX r).el=true:=by rw[<- WN];exact h1
  have oy:(bE rs k).el=true:=by rw[m3];exact hc
  let(j,hj,ej):=uD (W.el k xT oy);have RX:j<k:=(jx k).2 j (List.mem_of_getLast? hj);show#[_,ej,j,by rw[uu];calc pG (),k,r,_,_,_,_,_,cw,by rw[<- er];rfl,9,#[9,?_,9,9],fin];simp only[z9,ur,oy,hj];have hc:(aX r).el=false:=by
   cases q:(aX r).el with
   |false=>rfl
   |true=>exact (h1 ((WN r).trans q)).elim
  show#[k,r,_,_,_,_,_,cw,by rw[<- er];rfl,9,#[9,?_,9,9],fin];simp only[z9,m3,hc]
 case w1=>
  rintro d ρ ⟨k,r,h,e,l,o,s,cw,rfl,rfl,⟨rfl,rfl,rfl,ol,o1,o2⟩,fin⟩;have xT:k<6:=(dA.mp cw).1;let(rl,er):=gW r;unfold Ho;rw[er];show#[_,aaL,?_];show wL (λh1=>?_) (λh1=>?_);calc#[k,by rw[ol];calc pG xT,k,r,_,_,_,_,_,cw,by rw[<- er];rfl,9,#[9,9,9,o1 (by rw[<- WM];calc h1)],fin];have hc:(aX r).df=false:=by
   cases q:(aX r).df with
   |false=>rfl
   |true=>exact (h1 ((WM r).trans q)).elim
  exact#[k,r,_,_,_,_,_,cw,by rw[<- er];rfl,9,#[9,9,9,o2 hc],fin]
 case main=>
  have hlen:((rs.map aV).length:Int)=(6:Int):=by rw[bN]
  have adJ:(List.replicate ((rs.map aV).length:Int).toNat [T.bO]).flatten=List.replicate 6 T.bO:=by rw[hlen,kA];exact My _ _
  have Rz : -(2 ^ 63)<=((rs.map aV).length:Int):=by lia
  have O0:((rs.map aV).length:Int)<2 ^ 63:=by lia
  have ZC:[T.bO].length * ((rs.map aV).length:Int).toNat<=sizeLine:=by rw[hlen,kA,π];simp;lia
  show#[Gen.RE 9,Rz,O0,ZC,Gen.RE 9,Rz,O0,ZC,Gen.RE 9,Rz,O0,ZC,Gen.RE 9,Rz,O0,ZC,Gen.RE 9,?_];change iF (dF 50) _ _ _ [aJ (.lst 50),some (.lst (List.replicate ((rs.map aV).length:Int).toNat [T.bO]).flatten,true),some (.lst (List.replicate ((rs.map aV).length:Int).toNat [T.bO]).flatten,true),some (.lst (List.replicate ((rs.map aV).length:Int).toNat [T.bO]).flatten,true),some (.lst (List.replicate ((rs.map aV).length:Int).toNat [T.bO]).flatten,true),some (.lst [],true),none,none];rw[G',adJ];show cF (W8 rs)
   #[_,_,_,_,_,_,_,9,(xD _ _).symm,(DS _ _).symm,9,(xD _ _).symm,9] ?_ ?_
  . rintro k ⟨r,k'⟩ ρ hk ⟨b6,b7,_,_,_,_,_,rfl,rfl,rfl,rfl,rfl,rfl⟩;rw[List.getElem?_zipIdx] at hk;cases cw:rs[k]? with
    |none=>rw[cw] at hk;cases hk
    |some r'=>
    rw[cw] at hk;simp at hk;let(rfl,rfl):=hk;have xT:k<6:=(dA.mp cw).1;let(rl,er):=gW r';show#[9,9,?_];change V9 _ _ _ [aJ (.lst 50),some (.lst (tab (ur 22) 6 k),true),some (.lst (jL (endsAt 22 6) 6 k),true),some (.lst (z9 22 6 k),true),some (.lst (tab (gG 22) 6 k),true),some (.lst (uC rs k),true),aJ (.int (k:Int)),aJ (aV r')];rw[er];have m3:=c_ cw;show cO (λh1=>?_) (λh1=>?_);have eV:st 22 k≠[]:=λz=>by have LW:((uC rs k).length:Int) > 0:=h1;unfold uC at LW;rw[z] at LW;simp at LW
    let(j,hj,ej):=uD eV;obtain⟨j0,hj0⟩:∃j0,(st (bE rs) k).head?\j0:=#[_,List.head?_eq_some_head eV];have ej0:iW (uC rs k) 0\.int (j0:Int):=ag (j:=0) (by unfold uC;rw[dQ,<- List.head?_eq_getElem?,hj0];rfl);show#[_,ej,k,by rw[k7];calc pG xT,_,ej0,k,by rw[k7];calc pG xT,k,r',_,_,_,_,_,cw,by rw[<- er];rfl,?_,#[9,9,9,by rw[List.length_set,k7],λhd=>?_,λhd=>?_],λρ' h=>h];have e1:T.int (j:Int)=oT (ur 22 k):=by unfold ur;rw[hj];rfl
    rw[e1];calc n6;rw[List.set_set];have e1:T.int (k:Int)=oT (gG 22 k):=by unfold gG;rw[m3,ι hd];rfl
    rw[e1];calc n6;have e1:T.int (j0:Int)=oT (gG 22 k):=by unfold gG;rw[m3,hd,θ jq,hj0];rfl
    rw[e1];calc n6;have eV:st 22 k=[]:=by
     cases q:st (bE rs) k with
     |nil=>rfl
     |cons a b=>exfalso;show h1 ?_;change ((uC rs k).length:Int) > 0;unfold uC;rw[q];simp
    show#[k,r',_,_,_,_,_,cw,by rw[<- er];rfl,xE (by unfold ur;rw[eV];rfl),#[9,9,9,by rw[k7],λhd=>?_,λhd=>?_],λρ' h=>h];have e1:T.int (k:Int)=oT (gG 22 k):=by unfold gG;rw[m3,ι hd];rfl
    rw[e1];calc n6;exact xE (by unfold gG;rw[m3,hd,θ jq,eV];rfl)
  rintro ρ ⟨b6,b7,_,_,_,_,_,rfl,rfl,rfl,rfl,rfl,rfl⟩;rw[List.length_zipIdx,xF,xF,DV];calc hq;intro j m hj he;unfold endsAt at he;split at he
  rename_i ho
  let(e,h1,h2,h3,_):=end_is W hj ho;rw[h1] at he;cases he;calc h3;cases he
end
end W7
namespace VT
open PySem PySem.Spec PyProof.Rows L2
end VT
namespace Lay
open PySem L2 VT Gen K5
abbrev jh:Stmt:=inClass (top 015) 0
structure W9(mg:qae):Prop where
 len:mg "len"=none
 min:mg "min"=none
structure RY(K:qaf)(C:Addr):Prop where
 cl:FL K C
 d5:cK K C "program"
 Mz:cK K C "heads"
 Hr:cK K C "ends"
 MA:cK K C "elses"
 jy:cK K C "homes"
 uF:cK K C "defs"
 RZ:cK K C "main"
def uG(C:Addr)(ts:Φ)(q:T->Prop):Prop:=∃rs:qal,ts=[.lst 50]/\Pc rs/\6<=100/\q (iL C rs)
section
variable{aR:Addr}
abbrev Hs:ω:=["self","program","parts"]
def rZ:aI Hs qaw (aq jh):=L2.gL
def D9(D:Dc K mg "Layout" "Layout.__init__" jh qaw aR f fd)(M:W9 mg)(M1:RY K aR)(MB:cp P w K mg base "shape" qav 1 (Mm K 1 W7.Hm))(uH:cp P w K mg base "first_defs" qav 1 (cH K 1 Hl)):Ac P w K mg base "Layout" aR qaw 2 1 (uG aR):=by
 let(ZD,W_,MC,ME,MJ,MM):=MB;show D.gQ (fnI D.F rZ 9 λbP A outer s H E as Ox hr us q hl hG=>?_);have nd:=rZ.nd;have aE:=M1;show#[_,(ah (aF (i:=2) nd 9 7 (v9 (VD.vp (uq MM 23 18 MC ME MJ (aa (ai 1) aj)))) (BI 5))
  (ah (il 0 aE.cl aE.d5 (ai 1))
  (ah (il 0 aE.cl aE.Mz (υ (ar (ae 2) 14)))
  (ah (il 0 aE.cl aE.Hr (υ (ar (ae 2) 14)))
  (ah (il 0 aE.cl aE.MA (υ (ar (ae 2) 14)))
  (ah (il 0 aE.cl aE.jy (υ (ar (ae 2) 14)))
  (ah (il 0 aE.cl aE.uF (υ (aN uH hr (aa (ai 1) aj))))
  (ak (il 0 aE.cl aE.RZ (υ (OE (rN (ν (aU D0 z_ 18 M.len ny (aK (ν (dH aE.cl aE.uF (ae 0))) aS))) 14) (Ad 9 18 M.min (ν (dH aE.cl aE.uF (ae 0)))) iZ))))))))))),?_]
 let(rs,rfl,W,hn,hq):=hG;show#[9,rs,9,W,hn,?_];rw[Hk];show#[9,by change 0<1000;decide,?_];show#[9,_,aaL,by change 1<1000;decide,?_];show#[9,_,aaM,by change 2<1000;decide,?_];show#[9,_,aaN,by change 03<1000;decide,?_];show#[9,_,aaO,by change 04<1000;decide,?_];show#[9,9,rs,9,hn,by change 05<1000;decide,?_];show#[9,?_];show#[9,_,9,?_];show cO (λh=>?_) (λh=>?_);show#[9,_,9,(a_ rs 6).map (λp=>(p.2:Int)),?_,?_,λm h1 h2=>?_];rw[rA];rfl;intro z;rw[List.map_eq_nil_iff] at z;rw[z] at h;calc absurd h 5;show#[by change 06<1000;decide,?_];have e:=Hj h1 h2;change q [_] _;rw[e];calc hq;show#[by change 06<1000;decide,?_];have z:a_ rs 6=[]:=by
  cases e:a_ rs rs.length with
  |nil=>rfl
  |cons a b=>exfalso;apply h;rw[e];simp
 have e:jf rs=none:=by
  cases e:jf rs with
  |none=>rfl
  |some i=>let((g,ps,hi),hm):=rY e;let(l,hl):=jg hi hm 6 (dA.mp hi).1;rw[z] at hl;cases hl
 have e2:T.bO=oT (jf rs):=by rw[e];rfl
 unfold iL at hq;rw[<- e2] at hq;calc hq
end
end Lay
namespace VT
open PySem PySem.Spec PyProof.Rows L2
section
variable{o:Expr}{fo:FE}
def MN(fo fe:FE):FP:=λρ Q=>fo ρ λx=>match x with
 |.str z=>fe ρ λy=>match y with
  |.str y=>Q (.vw (.bl (Txt.startswith z y)))
  |_=>False
 |_=>False
def mq(ho:VR X Z o fo)(he:VR X Z e fe)(dC:attributeBase o "startswith" 3 (eval o 3)=eval o 3:=by rfl)(zz:((backTo bF (starEach [e] 3)).all (λx=>!x.1) && (backToKw bF (keywordEach [] 3)).all (λx=>x.1.isSome)
    && decide (([e]:qap).length+([]:List Keyword).length+(if ([]:List Keyword).isEmpty then 0 else 1)<30))=true:=by rfl)(dD:(apos.endLine==bF.line)=true:=by rfl)(hs:starEach [e] 3=(false,eval e 3)::starEach [] 3:=by rfl)(ka:(backTo bF (starEach [] 3)).any (·.1)=false:=by rfl) :
  VP X Z (.Call (.Attribute o "startswith" apos) [e] [] bF) (MN fo fe):=.mk λtm=>
 PE.weak (FZ PySem.F.plainAttrs_str PySem.F.slot_str_startswith PySem.F.type_str_startswith qM (ho tm) (bw (he tm) cW hs) dC zz dD hs ka) λσ H Q #[ρ,O,q,I,hf,k] =>
  #[ρ,O,_,I,hf,λx hx v H1 s1 a1=>by
    split at hx
    rename_i z
    have ev:=a1.str;subst ev;show#[9,ρ,O,_,I.same s1,hx,λy hy w H2 s2 a2=>?_];split at hy;have ew:=a2.str;subst ew;calc#[z,_,9,9,k _ hy _ H2 (s1.trans s2) #[(I.same s1).same s2,dR]];calc hy.elim;calc hx.elim]
end
end VT
namespace VT
open PySem PySem.Spec PyProof.Rows
def ddp{K:Type}[DecidableEq K](l:List K)(v:K):List K:=if v∈l then l else l++[v]
def met{K:Type}[DecidableEq K](val:Nat->K):Nat->List K
 |0=>[]
 |i+1=>ddp (met val i) (val i)
section
variable{R:Result->Shared->Prop}{I:Addr}{wr:zm}{G:Array GenState->Array GenState->Prop}{P:Nat->Value->Prop}{St:Nat->Shared->Prop}
variable{K:Type}[DecidableEq K]{knd:PySem.KeyKind prog w K}
end
end VT
namespace VT
open PySem PySem.Spec PyProof.Rows L2
section
variable{a o i:Expr}{fo fi:FE}{pos:Pos}
def D_:OB X "int.bit_length" (λx xs H Q=>∃i,x=.int i/\xs=[]/\Q (.int (Builtin.Int.intBits i)) H):=by intro ε s σ H x xs v us Q I rx rs h;let(i,rfl,rfl,q):=h;let(t,rfl):=rx;cases rs;calc call_int_bit_length #[.int _,H,I.tok _,#[_,9],q]
def MO(f:FE):FP:=λρ Q=>f ρ λx=>match x with
 |.int i=>Q (.vw (.int (Builtin.Int.intBits i)))
 |_=>False
def D'(ho:VR X Z o fo)(dC:attributeBase o "bit_length" 3 (eval o 3)=eval o 3:=by rfl)(dD:(apos.endLine==bF.line)=true:=by rfl) :
  VP X Z (.Call (.Attribute o "bit_length" apos) [] [] bF) (MO fo):=.mk λtm=>
 PE.weak (zy PySem.F.plainAttrs_int PyProof.Rows.slot_int_bit_length PyProof.Rows.type_int_bit_length D_ (ho tm) dC dD) λσ H Q #[ρ,O,q,I,hf,k] =>
  #[ρ,O,_,I,hf,λx hx v H1 s1 a1=>by
    split at hx
    rename_i z
    have ev:=a1.int;subst ev;calc#[9,z,9,9,k _ hx _ H1 s1 #[I.same s1,bJ]];calc hx.elim]
end
end VT
namespace Nm
open PySem L2 VT Gen nQ
def top(i:Nat):Stmt:=PySem.Challenge.pw_slicewise_k25_the_least_closed_table.main.body.getD i (.Pass #[0,0,0,0])
abbrev jz:Stmt:=top 06
abbrev kh:Stmt:=top 07
structure Mg2(mg:qae):Prop where
 MQ:∃t,mg "LETTERS"\.str bG t
 uI:∃t,mg "LONGEST_NAME"\.int 08 t
 isinstance:mg "isinstance"=none
 str:mg "str"=none
 len:mg "len"=none
 all:mg "all"=none
def bH(h:n<=1000):n<=sizeLine:=small h
def MR:T->Bool
 |.lst _=>false
 |.dk _ _=>false
 |.dt _ _=>false
 |.df _ _ _=>false
 |.kt _=>false
 |.ins _ _ _=>false
 |.pin _ _=>false
 |.ob _=>false
 |.ty _=>false
 |_=>true
def W':T->Bool
 |.str x=>cZ x
 |_=>false
def oA(ts:Φ)(q:qam):Prop:=∃t,ts=[t]/\MR t=true/\(∀x,t=.str x->x.length<=1000)/\q (.vw (.bl (W' t)))
def R3(r:Rt)(A:Prop)(B:Prop):Prop:=match r with
 |.vw (.bl true)=>A
 |.vw (.bl false)=>B
 |_=>False
def Ht{c:Bool}{A:Prop}(h1:c=true->A)(h2:c=false->B):R3 (.vw (.bl c)) A B:=by
 cases c with
 |true=>calc h1 9
 |false=>calc h2 9
def adK:T->Bool
 |.str x=>fB x
 |_=>false
def Hu(t:T):Prop:=(∃x,t=.str x/\x.length<=100)\/∃i,t=.int i
def Hh(ts:Φ)(q:qam):Prop:=∃t,ts=[t]/\Hu t/\q (.vw (.bl (adK t)))
def andM(r:Rt)(A:Prop)(B:Prop):Prop:=match r with
 |.vw (.bl true)=>A
 |.vw (.bl false)=>B
 |_=>False
def MS{c:Bool}{A:Prop}(h1:c=true->A)(h2:c=false->B):andM (.vw (.bl c)) A B:=by
 cases c with
 |true=>calc h1 9
 |false=>calc h2 9
theorem B1:∀l:qao,di (l.map ((λt:T=>match t with | .str y=>.bl (GG y bG)|_=>.bO) ∘ λc=>T.str #[([c].toArray)]))\l.map Dw
 |[]=>rfl
 |c::l=>by rw[fj,fj];change (di _).map _=_;rw[B1 l];rfl
section
abbrev mw:ω:=qax
def pI:aI mw qax (aq jz):=L2.gL
def qX:(mw++(["sign"]:ω)).Nodup:=by decide +kernel
def MT(D:Df K mg "is_name" jz qax f fd)(M:Mg2 mg):cp P w K mg base "is_name" qax 1 (cH K 1 oA):=by
 show D.gQ (jJ D.F pI 9 λbP A outer s H E Ox hr ts q hG=>?_);have nd:=pI.nd;have np:∀{i:Nat},aZ #[H,[],Ox] i:=gR;let(tL,mL):=M.MQ;let(tN,mN):=M.uI;have pJ:∀{pos},VP (j_ iP P w K mg base mw "is_name" (aq jz) f bP A outer s H E).C4 #[H,[],Ox] (.Name "LONGEST_NAME" pos) (fC (.int 08)):=nR 18 mN (v:=.int 08) #[tN,9] λ_ _=>bJ;show#[_,(ah (bb (VW.vc (Gf (zG (dY (gh eG 18 M.isinstance 18 M.str mZ (ae 0)))) (zF (zG (GL Oz Oz 14 (ν (aU bf bh 18 M.len ny (aK (ae 0) aS))) (ν pJ))))))
    (ak (aL (v9 iE)))
    aM)
   (ak (aL (v9 (aU (oM 9) DB 18 M.all Wo (aK (ν (eC (ts:=["sign"]) 9 18 (dq (ai 0)) (λ_ _ _ _ _ _=>(ay (i:=1) qX 9 7 np)) (λ_ _ _ _ _ _=>nU) (λ_ _ _ _ _ _=>(υ (Wj (ae 1) (ν (nR 18 mL (v:=.str bG) #[tL,9] λ_ _=>eR))))))) aS)))))),λ_=>?_]
 let(t,rfl,ht,hx,hq):=hG;cases t with
 |bO=>calc#[9,hq]
 |bl b=>calc#[9,hq]
 |int x=>calc#[9,hq]
 |tup l=>calc#[9,hq]
 |str x=>
   have hl:=hx x 9;have wu:q (.vw (.bl (decide (1<=(x.length:Int)) && (decide ((x.length:Int)<=08) && x.cps.toList.all Dw)))):=hq;show#[9,bH hl,Ht (c:=decide (1<=(x.length:Int))) (λh1=>?_) (λh1=>?_)];rw[h1,y4] at wu;show wL (λh2=>?_) (λh2=>?_);have qS:(!decide ((x.length:Int)<=08))=true:=h2;have h3:decide ((x.length:Int)<=08)=false:=by simpa using qS
   rw[h3,Km] at wu;calc wu;have qS:¬ (!decide ((x.length:Int)<=08))=true:=h2;have h3:decide ((x.length:Int)<=08)=true:=by simpa using qS
   rw[h3,y4] at wu;show#[9,by rw[bN,KH];calc bH hl,jr (λ_=>true) (λt=>match t with | .str y=>.bl (GG y bG)|_=>.bO) (λt ht k r h=>?_) ?_];let(c,_,rfl):=gH.mp ht;calc#[_,9,h];rw[List.filter_eq_self.mpr (λ_ _=>rfl),rA];show#[x.cps.toList.map Dw,B1 x.cps.toList,?_];rw[List.all_map];calc wu;rw[h1,Km] at wu;calc wu
 |_=>cases ht
abbrev Af:ω:=qax
def m4:aI Af qax (aq kh):=L2.gL
def xU(D:Df K mg "is_field" kh qax f fd)(M:Mg2 mg)(Ea:cp P w K mg base "is_name" qax 1 (cH K 1 oA)):cp P w K mg base "is_field" qax 2 (cH K 1 Hh):=by
 show D.gQ (jJ D.F m4 9 λbP A outer s H E Ox hr ts q hG=>?_);have nd:=m4.nd;show#[_,(ak (aL (v9 (Gi (gh eG 18 M.isinstance 18 M.str mZ (ae 0)) (Gi (mq (ae 0) (ν ax)) (Gh (aN Ea hr (aa (υ (gO (ae 0) (eX 14) tQ)) aj)))))))),λ_=>?_];let(t,rfl,ht,hq):=hG;obtain⟨x,rfl,hx⟩|⟨i,rfl⟩:=ht
 show#[9,?_];have wu:q (.vw (.bl (Txt.startswith x "." && cZ (Txt.slice x (some 1) none)))):=hq;show MS (c:=Txt.startswith x ".") (λh=>?_) (λh=>?_);rw[h,y4] at wu;show#[bH (),9,_,9,9,λy e=>?_,wu];cases e;calc jS (Txt.slice_le x _ _) ();rw[h,Km] at wu;calc wu;calc#[9,hq]
end
end Nm
namespace TS
open PySem PyProof.Rows
section
def Hv{vs:qag}{xs:Array Keyed}(hp:xs.Perm (pairsOf vs)):(xs.map (·.2)).toList.Perm vs:=by
 have h:=(YJ.mp hp).map (λp:Keyed=>p.2);rw[pairsOf_toList] at h;rw[Array.toList_map];show h.trans ?_;have:∀l:qag,(l.zip l).map (λp:Keyed=>p.2)=l:=λl=>by
  induction l with
  |nil=>rfl
  |cons x l ih=>rw[Oj,fj,ih]
 rw[this]
end
section
inductive Sc:Value->Value->Prop
 |int (i j:Int) (t u:Tok):Sc (.int i t) (.int j u)
 |str (x y:Str) (t u:Tok):Sc (.str x t) (.str y u)
def Xa{p q:Value}(h:Sc p q){Q:Bool->Shared->Prop}(hq:∀b,Q b s):wpAny 15 A (eqBool p q) Q E s:=by
 cases h with
 |int i j t u=>calc wpAny_eqBool_int (hq _)
 |str x y t u=>calc wpAny_eqBool_str (hq _)
def Xb{p q:Value}(h:Sc p q)(c:Bool){Q:Bool->Shared->Prop}(hq:∀b,Q b s):wpAny 15 A (oneLt' c p q) Q E s:=by
 cases c with
 |true=>
  cases h with
  |int i j t u=>calc oneLt_int (hq _)
  |str x y t u=>calc oneLt_str (hq _)
 |false=>
  rw[oneLt'_eq];simp only[Bool.false_eq_true,aaJ];cases h with
  |int i j t u=>calc ζ (wpAny_richCompare_same (op:=.Lt) (T:="int") (aaF s i t) (aaF s j u) slot_int_lt (call_int_lt #[by simp,Ξ (hq _)]))
  |str x y t u=>calc ζ (wpAny_richCompare_same (op:=.Lt) (T:="str") (typeIs_str s x t) (typeIs_str s y u) slot_str_lt (call_str_lt #[by simp,Ξ (hq _)]))
def uJ(b:Bool)(x y:Value):keyLt' (tuples' b) x y=(do
 let xs <- Builtin.List.listItems x
 let ys <- Builtin.List.listItems y
 for ((p,q),i) in (xs.toList.zip ys.toList).zipIdx do
  if !(<- eqBool p q) then return <- oneLt' (b && i==0) p q
 return decide (xs.size<ys.size)):=rfl
theorem xV(c:Bool):∀(l:List ((Value×Value)×Nat)),(∀e∈l,Sc e.1.1 e.1.2)->∀Q:Option Bool×Unit->Shared->Prop,(∀r,Q r s) ->
  wpAny 15 A (forIn l ((none,Unit.unit):Option Bool×Unit) λ(x:(Value×Value)×Nat) (_:Option Bool×Unit)=>(match x with
   | ((p,q),i)=>do
     let t <- eqBool p q
     if (!t)=true then do
      let t <- oneLt' (c && i==0) p q
      pure (ForInStep.done (some t,Unit.unit))
     else pure (ForInStep.yield (none,Unit.unit)):Sem (ForInStep (Option Bool×Unit)))) Q E s
 |[],_,Q,hq=>by rw[List.forIn_nil];calc η (hq _)
 |e::l,h,Q,hq=>by
   let((p,q),i):=e;have ih:=xV c l (λe he=>h e (fZ _ he)) Q hq;have hs:Sc p q:=h ((p,q),i) 4;rw[List.forIn_cons];show ζ ?_;change wpAny _ _ (eqBool p q >>= _) _ _ _;show ζ (Xa hs λb=>?_);cases b with
   |true=>calc η ih
   |false=>show ζ (Xb hs _ λb=>?_);calc η (η (hq _))
def TupAt(h:Heap)(v:Value)(aP:Array Value):Prop:=E3 λa o n=>v=.ref a/\h.get? a\o/\o.cls=.type "tuple"/\o.data=.seq aP n
theorem MU{x y:Value}{xs ys:Array Value}(hx:TupAt 42 x xs)(hy:TupAt 42 y ys)(hs:∀e∈xs.toList.zip ys.toList,Sc e.1 e.2)(c:Bool){Q:Bool->Shared->Prop}(hq:∀b,Q b s) :
  wpAny 15 A (keyLt' (tuples' c) x y) Q E s:=by
 let(a,o,n,rfl,h1,h2,h3):=hx;let(a',o',n',rfl,LW,qS,R4):=hy;rw[uJ];show ζ (listItems_at h1 h3 (ζ (listItems_at LW R4 ?_)));show ζ (xV c _ (λe he=>?_) _ λr=>?_)
 rotate_left
 let(r1,r2):=r;cases r1 with
 |some b=>calc η (hq b)
 |none=>exact η (hq _)
 let((p,q),i):=e;have:=List.mem_zipIdx he;let(_,_,e2):=this;show hs (p,q) ?_;simp only[Nat.sub_zero] at e2;rw[e2];calc CU _
theorem uK{α β:Type}{f:α->Sem β}{g:α->β}:∀(l:List α)(Q:List β->Shared->Prop),(∀v∈l,∀R:β->Shared->Prop,R (g v) s->wpAny 15 A (f v) R E s)->Q (l.map g) s->wpAny 15 A (l.mapM f) Q E s
 |[],Q,_,hq=>by rw[List.mapM_nil];calc η hq
 |v::l,Q,h,hq=>by rw[List.mapM_cons];calc ζ (h v 4 _ (ζ (uK l _ (λv hv=>h v (fZ _ hv)) (η hq))))
theorem Hw{vs:qag}(eV:vs≠[])(ht:∀v∈vs,∃aP i t,TupAt 42 v aP/\aP[0]?\.int i t){Q:SortKind->Shared->Prop}(hq:Q (tuples' true) s) :
  wpAny 15 A (keyKind' vs.toArray) Q E s:=by
 have pick:∃g:Value->Option Value,∀v∈vs,∃i t,g v\.int i t/\∀R:(Option Value)->Shared->Prop,R (g v) s->wpAny 15 A (firstOfTuple' v) R E s:=by
  show#[λv=>open Classical in if h:∃x:Value,(∃i t,x=.int i t)/\∀R:(Option Value)->Shared->Prop,R (some x) s->wpAny (model prog w) A (firstOfTuple' v) R E s then some h.choose else none,λv hv=>?_];let(aP,i,t,(a,o,n,rfl,h1,h2,h3),h4):=ht v hv;have hex:∃x:Value,(∃i t,x=.int i t)/\∀R:(Option Value)->Shared->Prop,R (some x) s->wpAny 15 A (firstOfTuple' (.ref a)) R E s:=by show#[.int i t,#[i,t,9],λR hR=>ζ (aam #[o,h1,h2] (ζ (listItems_at h1 h3 (η ?_))))];rw[h4];exact hR
  dsimp only;rw[dif_pos hex];let((i',t',e),hR):=hex.choose_spec;exact#[i',t',by rw[e],hR]
 let(g,hg):=pick;rw[keyKind'_eq,List.mapM_toArray];show ζ (ζ (uK vs _ (λv hv R hR=>(hg v hv).choose_spec.choose_spec.2 R hR) (η ?_)));have zB:((vs.map g).toArray.all λx=>x.isSome)=true:=by rw[List.all_toArray,List.all_map,KJ];intro v hv;let(i,t,e,_):=hg v hv;change (g v).isSome=true;rw[e];rfl
 rw[ι zB];show ζ (aag ?_);have hfm:(Array.filterMap id (vs.map g).toArray)=(vs.filterMap g).toArray:=by simp[YY]
 rw[hfm,oneTypeOnly'_eq,List.mapM_toArray];have hi:∀x∈vs.filterMap g,∃i t,x=Value.int i t:=λx hx=>by let(v,hv,e):=YX.mp hx;let(i,t,e',_):=hg v hv;rw[e] at e';exact#[i,t,Option.some.inj e']
 have hn:vs.filterMap g≠[]:=by
  obtain⟨v,rest,rfl⟩:∃v rest,vs=v::rest:=by
   cases vs with
   |nil=>calc absurd 9 eV
   |cons v rest=>exact#[v,rest,9]
  let(i,t,e,_):=hg v 4;rw[ZZ e];simp
 generalize vs.filterMap g=fs at hi hn;show ζ (ζ (ζ (uK (g:=λ_=>Value.type "int") fs _ (λx hx R hR=>?_) (η ?_))));let(i,t,rfl):=hi x hx;calc aam (aaF s i t) hR;cases fs with
 |nil=>calc absurd 9 hn
 |cons x fs=>
   have hal:(((x::fs).map λ_=>Value.type "int").toArray.all λy=>y==Value.type "int")=true:=by rw[List.all_toArray,List.all_map,KJ];intro y _;rfl
   change wpAny _ _ (pure (if (((x::fs).map λ_=>Value.type "int").toArray.all λy=>y==Value.type "int")=true then some (Value.type "int") else none)) _ _ _;rw[ι hal];calc η (η hq)
end
end TS
namespace TS
open PySem PySem.Spec PyProof.Rows L2 VT
section
def r6:∀{us G8:qag},G8.Perm us->∀{xs:qak},Vals xs us->∃zs:qak,zs.Perm xs/\Vals zs G8:=by
 intro us G8 p;induction p with
 |nil=>intro xs r;cases r;calc#[[],.nil,.nil]
 |cons u _ ih=>
  intro xs r;cases r with
  |cons r t=>let(zs,p,q):=ih t;calc#[_,p.cons _,.cons r q]
 |swap u v l=>
  intro xs r;cases r with
  |cons r1 t=>cases t with
   |cons r2 t=>calc#[_,.swap _ _ _,.cons r2 (.cons r1 t)]
 |trans _ _ R5 R6=>intro xs r;let(zs,p,q):=R6 r;let(zs',p',q'):=R5 q;calc#[zs',p'.trans p,q']
end
section
variable{A:zm}
def uL{t:T}{ts:Φ}(h:aB K H A (t::ts) (v::vs)):At K H A t v/\aB K H A ts vs:=by let(v',r,e,h1,h2):=h;cases e;calc#[h1,h2]
def xW:∀{ws zs:qak},zs.Perm ws->∀{ts:Φ},aB K H A ts ws->∃us:Φ,us.Perm ts/\aB K H A us zs:=by
 intro ws zs p;induction p with
 |nil=>intro ts h;calc#[ts,.rfl,h]
 |cons v _ ih=>
  intro ts h;cases ts with
  |nil=>have:=h.length;simp at this
  |cons t ts=>let(h1,h2):=uL h;let(us,p,q):=ih h2;calc#[t::us,p.cons t,aB.cons h1 q]
 |swap v w l=>
  intro ts h;cases ts with
  |nil=>have:=h.length;simp at this
  |cons t ts=>cases ts with
   |nil=>have:=h.length;simp at this
   |cons t' ts=>let(h1,h2):=uL h;let(h2,h3):=uL h2;calc#[t'::t::ts,.swap _ _ _,aB.cons h2 (aB.cons h1 h3)]
 |trans _ _ R5 R6=>intro ts h;let(us,p,q):=R6 h;let(G8,p',q'):=R5 q;calc#[G8,p'.trans p,q']
theorem xX:∀{ts:Φ}{ws:qak},aB K H A ts ws->∀w∈ws,∃t∈ts,At K H A t w
 |[],ws,h,w,hw=>by have:=h.length;cases ws with
  |nil=>cases hw
  |cons a b=>simp at this
 |t::ts,ws,h,w,hw=>by
  cases ws with
  |nil=>cases hw
  |cons v ws=>
   let(h1,h2):=uL h;rcases cT.mp hw with rfl|z
   calc#[t,by simp,h1];let(u,hu,a):=xX h2 w z;calc#[u,fZ _ hu,a]
end
end TS
namespace SP
open PySem PyProof.Rows PyProof
abbrev Kd:=Value×Value
structure Cp(prog:Program)(w:World)(A:Around)(E:qad)(s:Shared)(κ:SortKind)(G:Kd->Prop):Prop where
 lt:∀{p q:Kd}{st:SortSt}{Q:Option Bool->SortSt->Prop},G p->G q->kindOf st=κ->(∀b,Q (some b) st)->wpS 15 A E s (lt' p q) Q st
def MV:Bool->Kd->Array Kd->Nat->Nat->Nat->StateT SortSt Sem (Option Nat):=sortPriv% PySem.Builtin.gallop
variable{κ:SortKind}{G:Kd->Prop}
def bu{arr:Array Kd}{p:Kd}{st:SortSt}{Q:Kd->SortSt->Prop}(h:arr[i]?\p)(hq:Q p st):wpS 15 A E s (elem' arr i) Q st:=by rw[elem'_eq,h];calc ξ hq
def aD{c:Prop}[Decidable c]{x y:StateT SortSt Sem α}{Q:α->SortSt->Prop}{st:SortSt}(h1:c->wpS 15 A E s x Q st)(h2:¬ c->wpS 15 A E s y Q st):wpS 15 A E s (if c then x else y) Q st:=by by_cases h:c;rw[ι h];calc h1 h;rw[θ h];calc h2 h
theorem B2{lo hi:Nat}{st:SortSt}{f:Nat->StateT SortSt Sem (Option Bool)}{Q:Option (Option Nat)×Nat×Nat->SortSt->Prop}(hf:∀i<n,∀Q':Option Bool->SortSt->Prop,(∀b,Q' (some b) st)->wpS 15 A E s (f i) Q' st)(hlh:lo<=hi)(hn:hi<=n)(hq:∀k≤n,Q (none,k,k) st) :
  wpS 15 A E s (forIn [:n] (none,lo,hi) λ_ c=>if c.2.1 ≥ c.2.2 then pure (.done (none,c.2.1,c.2.2)) else do
   match <- f (c.2.1+(c.2.2-c.2.1) / 2) with
   |some more=>if more=true then pure (.yield (none,c.2.1+(c.2.2-c.2.1) / 2+1,c.2.2)) else pure (.yield (none,c.2.1,c.2.1+(c.2.2-c.2.1) / 2))
   |_=>pure (.done (some none,c.2.1,c.2.2))) Q st:=by
 show aac (I:=λx c bp=>bp=st/\∃lo hi,c=(none,lo,hi)/\lo<=hi/\hi<=n/\hi-lo<=n-x) ?_ ?_ #[9,lo,hi,9,hlh,hn,()];rintro x c bp _ hx ⟨rfl,lo,hi,rfl,hlh,hn,hm⟩;dsimp only;show aD (λz=>?_) λz=>μ (hf _ () _ λb=>aD (λ_=>?_) λ_=>?_);have e:lo=hi:=by lia
 subst e;calc ξ (hq lo hn);calc ξ #[9,_,_,9,(),hn,()];calc ξ #[9,_,_,9,(),(),()];rintro c bp ⟨rfl,lo,hi,rfl,hlh,hn,hm⟩;have e:lo=hi:=by lia
 subst e;calc hq lo hn
theorem d6(C:Cp prog w A E s κ G){left:Bool}{key:Kd}{arr:Array Kd}{base hint:Nat}{st:SortSt}{Q:Option Nat->SortSt->Prop}(hk:kindOf st=κ)(jF:G key)(hh:hint<n)(hB:∀i<n,∃p,arr[base+i]?\p/\G p)(hq:∀k≤n,Q (some k) st):wpS 15 A E s (MV left key arr base n hint) Q st:=by
 have Xc:∀i<n,∀Q':Option Bool->SortSt->Prop,(∀b,Q' (some b) st)->wpS 15 A E s (do let x <- elem' arr (base+i);if left then lt' x key else return (<- lt' key x).map (!·)) Q' st:=λi hi Q' h=>by
  let(p,e,g):=hB i hi;show μ (bu e ?_);cases left with
  |true=>calc C.lt g jF hk h
  |false=>exact μ (C.lt jF g hk λb=>ξ (h _))
 show μ (Xc hint hh _ λb=>aD (λ_=>?_) λ_=>?_);show μ (aax (aac (I:=λx c bp=>bp=st/\∃la o,c=(none,la,o)/\la<o/\x<o/\hint+la<n)
  (Q:=λc bp=>bp=st/\∃la o,c=(none,la,o)/\la<o/\hint+la<n) ?_ ?_ #[9,0,1,9,(),(),()]) ?_)
 rintro x c bp _ hx ⟨rfl,la,o,rfl,h1,h2,h3⟩;dsimp only;show aD (λz=>ξ #[9,la,o,9,h1,h3]) λz=>μ (Xc _ (by simp at z;lia) _ λb=>?_);cases b with
 |false=>calc ξ #[9,la,o,9,h1,h3]
 |true=>exact ξ #[9,o,2 * o+1,9,(),(),by simp at z;lia]
 rintro c bp ⟨rfl,la,o,rfl,h1,h2,h3⟩;calc#[9,la,o,9,h1,h3];rintro c bp ⟨rfl,la,o,rfl,h1,h3⟩;dsimp only;calc μ (B2 Xc () () λk hk=>ξ (hq k hk));show μ (aax (aac (I:=λx c bp=>bp=st/\∃la o,c=(none,la,o)/\la<o/\x<o/\la<=hint)
  (Q:=λc bp=>bp=st/\∃la o,c=(none,la,o)/\la<o/\la<=hint) ?_ ?_ #[9,0,1,9,(),(),()]) ?_)
 rintro x c bp _ hx ⟨rfl,la,o,rfl,h1,h2,h3⟩;dsimp only;show aD (λz=>ξ #[9,la,o,9,h1,h3]) λz=>μ (Xc _ () _ λb=>?_);cases b with
 |true=>calc ξ #[9,la,o,9,h1,h3]
 |false=>exact ξ #[9,o,2 * o+1,9,(),(),by simp at z;lia]
 rintro c bp ⟨rfl,la,o,rfl,h1,h2,h3⟩;calc#[9,la,o,9,h1,h3];rintro c bp ⟨rfl,la,o,rfl,h1,h3⟩;dsimp only;calc μ (B2 Xc () () λk hk=>ξ (hq k hk))
def MW(a:Array Kd)(i:Nat):Kd:=a[i]?.getD (.none,.none)
def at_{a:Array Kd}(h:i<a.size):a[i]?\MW a i:=by unfold MW;rw[getElem?_pos a i h];rfl
def dU{a:Array Kd}(h:i<a.size):MW a i∈a.toList:=by have:=at_ h;rw[<- EV] at this;calc dX this
theorem dE{a:Array Kd}{k:Nat}(h:i<=k):a.toList.drop i=(a.extract i k).toList++a.toList.drop k:=by
 rw[Uw,List.extract_eq_drop_take]
 conv=>lhs;rw[<- Ut (k-i) (a.toList.drop i),List.drop_drop]
 congr 2;lia
theorem tE{a:Array Kd}{k:Nat}(h:k<=n):a.toList.take n=a.toList.take k++(a.extract k n).toList:=by
 rw[Uw,List.extract_eq_drop_take]
 conv=>lhs;rw[show n=k+(n-k) by lia,List.take_add]
def eE{a:Array Kd}:(a.extract i).toList=a.toList.drop i:=by rw[Uw,List.extract_eq_drop_take,TJ 4]
def eT{a:Array Kd}:(a.extract 0 n).toList=a.toList.take n:=by simp[List.extract_eq_drop_take]
def Hx:Array Kd->Array Kd->StateT SortSt Sem (Array Kd):=sortPriv% PySem.Builtin.mergeLo
def Hy:Array Kd->Array Kd->StateT SortSt Sem (Array Kd):=sortPriv% PySem.Builtin.mergeHi
structure Sm(st bp:SortSt):Prop where
 k:kindOf bp=kindOf st
 a:arrOf bp=arrOf st
 p:pendingOf bp=pendingOf st
 f:failedOf bp=failedOf st
variable{κ:SortKind}{G:Kd->Prop}
section
variable{a b out:Array Kd}{ia ib k:Nat}
def ML(a b out:Array Kd)(ia ib:Nat):Prop:=(out.toList++(a.toList.drop ia++b.toList.drop ib)).Perm (a.toList++b.toList)
def MH(a b out:Array Kd)(na nb:Nat):Prop:=(out.toList++(a.toList.take na++b.toList.take nb)).Perm (a.toList++b.toList)
def OK(a b r:Array Kd):Prop:=r.toList.Perm (a.toList++b.toList)
def ML.pa(M:ML a b out ia ib)(h:ia<=k):ML a b (out++a.extract ia k) k ib:=by unfold ML at *;rw[dE h] at M;simpa using M
def ML.pb(M:ML a b out ia ib)(h:ib<=k):ML a b (out++b.extract ib k) ia k:=by unfold ML at *;rw[dE h,<- wo (a.toList.drop ia)] at M;rw[CT,wo,<- wo (b.extract ib k).toList];calc ((P6.append_right _).append_left _).trans M
def MH.pa(M:MH a b out ia ib)(h:k<=ia):MH a b (out++(a.extract k ia).reverse) k ib:=by unfold MH at *;rw[tE h] at M;rw[CT,wo,<- wo (a.extract k ia).reverse.toList,YT];calc (((List.Perm.append_right _ (Y5 _)).trans P6).append_right _ |>.append_left _).trans M
def MH.pb(M:MH a b out ia ib)(h:k<=ib):MH a b (out++(b.extract k ib).reverse) ia k:=by unfold MH at *;rw[tE h,<- wo (a.toList.take ia)] at M;rw[CT,wo,YT];calc (((Y5 _).append_right _).trans P6 |>.append_left _).trans M
theorem mx(h:ia<a.size):out.push (MW a ia)=out++a.extract ia (ia+1):=by
 apply Array.toList_inj.mp;have e:(a.extract ia (ia+1)).toList=[MW a ia]:=by rw[Uw,List.extract_eq_drop_take,show ia+1-ia=1 by lia];unfold MW;rw[getElem?_pos a ia h,Ur (by simpa using h)];simp
 rw[CT,e,Array.toList_push]
theorem lg(h:ia-1<a.size)(h0:0<ia):out.push (MW a (ia-1))=out++(a.extract (ia-1) ia).reverse:=by have:=mx (out:=([].toArray)) h;rw[show ia-1+1=ia by lia,Array.empty_append] at this;rw[<- this];rfl
def ML.fin(M:ML a b out ia ib):OK a b (out++a.extract ia++b.extract ib):=by unfold OK;rw[CT,CT,eE,eE,wo];calc M
def ML.last(M:ML a b out ia ib):OK a b (out++b.extract ib++a.extract ia):=by unfold OK;rw[CT,CT,eE,eE,wo];calc (P6.append_left _).trans M
def MH.fin(M:MH a b out ia ib):OK a b (a.extract 0 ia++b.extract 0 ib++out.reverse):=by unfold OK;rw[CT,CT,eT,eT,YT];calc (P6.trans ((Y5 _).append_right _)).trans M
def MH.last(M:MH a b out ia ib):OK a b (b.extract 0 ib++a.extract 0 ia++out.reverse):=by unfold OK;rw[CT,CT,eT,eT,YT];calc ((P6.append_right _).trans (P6.trans ((Y5 _).append_right _))).trans M
end
structure In(G:Kd->Prop)(a b:Array Kd):Prop where
 ga:∀x∈a.toList,G x
 gb:∀x∈b.toList,G x
 a0:0<a.size
 b0:0<b.size
def Sm.of{st bp:SortSt}(h:Sm st bp){g:Nat}:Sm st (SortSt.mk' (kindOf bp) (arrOf bp) (pendingOf bp) g (failedOf bp)):=#[h.k,h.a,h.p,h.f]
def B3{γ:Type}(jp:β->γ->StateT SortSt Sem α){x:StateT SortSt Sem α}{Q:α->SortSt->Prop}{st:SortSt}(h1:∀r m,wpS 15 A E s (jp r m) Q st)(h2:(∀r m,wpS 15 A E s (jp r m) Q st)->wpS 15 A E s x Q st):wpS 15 A E s x Q st:=h2 h1
def lh{γ δ:Type}(jp:β->γ->δ->StateT SortSt Sem α)(P:γ->δ->Prop){x:StateT SortSt Sem α}{Q:α->SortSt->Prop}{st:SortSt}(h1:∀r o i,P o i->wpS 15 A E s (jp r o i) Q st)(h2:(∀r o i,P o i->wpS 15 A E s (jp r o i) Q st)->wpS 15 A E s x Q st):wpS 15 A E s x Q st:=h2 h1
def Hz{Y0 Y1 Y2 Y3 τ:Type}(st:SortSt)(D:Y0->Prop)(P P':Y1->Y2->Y3->Prop)(u6:ForInStep (Option Y0×Y1×Y2×Y3×τ))(bp:SortSt):Prop:=Sm st bp/\match u6 with
 |.done (some u6,_)=>D u6
 |.done (none,u1,u2,w,_)=>P' u1 u2 w
 |.yield (none,u1,u2,w,_)=>P u1 u2 w
 |.yield (some _,_)=>False
section
variable{Y0 Y1 Y2 Y3 τ:Type}{st bp:SortSt}{D:Y0->Prop}{P P':Y1->Y2->Y3->Prop}{u1:Y1}{u2:Y2}{u3:Y3}{u5:τ}
def Hz.dn(hs:Sm st bp){u6:Y0}(h:D u6):Hz (τ:=τ) st D P P' (.done (some u6,u1,u2,u3,u5)) bp:=#[hs,h]
def Hz.ot(hs:Sm st bp)(h:P' u1 u2 u3):Hz (τ:=τ) st D P P' (.done (none,u1,u2,u3,u5)) bp:=#[hs,h]
def Hz.go(hs:Sm st bp)(h:P u1 u2 u3):Hz (τ:=τ) st D P P' (.yield (none,u1,u2,u3,u5)) bp:=#[hs,h]
end
def jA{Y0 Y1 Y2 Y3 τ:Type}{f:Nat->Option Y0×Y1×Y2×Y3×τ->StateT SortSt Sem (ForInStep (Option Y0×Y1×Y2×Y3×τ))}{Q:Option Y0×Y1×Y2×Y3×τ->SortSt->Prop}{Wz st:SortSt}{u1:Y1}{u2:Y2}{u3:Y3}{u4:τ}(D:Y0->Prop)(P:Nat->Y1->Y2->Y3->Prop)(P':Y1->Y2->Y3->Prop)(hs:Sm st Wz)(h0:P 0 u1 u2 u3)(step:∀u5 u1 u2 u3 (u4:τ) bp,u5<n->Sm st bp->P u5 u1 u2 u3->wpS 15 A E s (f u5 (none,u1,u2,u3,u4)) (Hz st D (P (u5+1)) P') bp)(fin:∀u1 u2 u3,P n u1 u2 u3->False)(q1:∀u6 d bp,Sm st bp->D u6->Q (some u6,d) bp)(q2:∀u1 u2 u3 u4 bp,Sm st bp->P' u1 u2 u3->Q (none,u1,u2,u3,u4) bp):wpS 15 A E s (forIn [:n] (none,u1,u2,u3,u4) f) Q Wz:=by
 show aax (aac (I:=λu5 c bp=>Sm st bp/\∃u1 u2 u3 u4,c=(none,u1,u2,u3,u4)/\P u5 u1 u2 u3) (Q:=λc bp=>Sm st bp/\((∃u6 d,c=(some u6,d)/\D u6)\/∃u1 u2 u3 u4,c=(none,u1,u2,u3,u4)/\P' u1 u2 u3)) ?_ ?_ #[hs,_,_,_,_,9,h0]) ?_
 . rintro u5 c nJ _ hx ⟨hs,u1,u2,u3,u4,rfl,h⟩;show aax (step u5 u1 u2 u3 u4 nJ hx hs h) λu6 tu h=>?_;let(h1,h2):=h
   match u6,h2 with
   |.done (some u6,_),h2=>calc#[h1,.inl #[_,_,9,h2]]
   |.done (none,_,_,_,_),h2=>calc#[h1,.inr #[_,_,_,_,9,h2]]
   |.yield (none,_,_,_,_),h2=>exact#[h1,_,_,_,_,9,h2]
 rintro c nJ ⟨hs,u1,u2,u3,u4,rfl,h⟩;calc (fin u1 u2 u3 (by simpa using h)).elim;rintro c nJ ⟨hs,⟨u6,d,rfl,h⟩|⟨u1,u2,u3,u4,rfl,h⟩⟩;calc q1 u6 d nJ hs h;calc q2 u1 u2 u3 u4 nJ hs h
structure JL(a b:Array Kd)(c:Nat)(o:Array Kd)(i j:Nat):Prop where
 M:ML a b o i j
 h1:i+1<a.size
 h2:j<b.size
 h3:c<=i+j
theorem R7(C:Cp prog w A E s κ G){a b:Array Kd}{st:SortSt}{Q:Array Kd->SortSt->Prop}(hk:kindOf st=κ)(I:In G a b)(hq:∀out bp,OK a b out->Sm st bp->Q out bp):wpS 15 A E s (Hx a b) Q st:=by
 have a0:=I.a0;have b0:=I.b0;have s0:Sm st st:=#[9,9,9,9];have M0:ML a b ([MW b 0].toArray) 0 1:=by
  have M:ML a b ([].toArray) 0 0:=by unfold ML;simp
  have:=M.pb (k:=0+1) ();rw[<- mx b0] at this;exact this
 show μ (wpS_lift (aag #[9,?_]));show μ (bu (at_ b0) (aD (λc1=>?_) λc1=>aD (λc2=>?_) λc2=>μ (wpS_get ?_)));calc ξ (hq _ _ (M0.fin) s0);calc ξ (hq _ _ (M0.last) s0);have c1:1<b.size:=by simp at c1;lia
 have c2:0+1<a.size:=by simp at c2;lia
 show μ (jA (OK a b) (λx=>JL a b x) (λ_ _ _=>False) s0 #[M0,c2,c1,gJ _] ?_ (λo i j J=>?_) (λr d bp hs hr=>ξ (hq r bp hr hs)) λ_ _ _ _ _ _ h=>h.elim)
 rotate_left
 have h1:=J.h1;have h2:=J.h2;have h3:=J.h3
 lia
 clear c1 c2 M0 s0 a0 b0;intro x out ia ib mg nJ hx hs J;show μ (jA (OK a b) (λy=>JL a b (x+y)) (JL a b (x+1)) hs J ?_ (λo i j J=>?_) (λr d bp hs hr=>ξ (Hz.dn hs hr)) ?_)
 . clear J hs;intro y out ia ib t nJ hy hs J;have M:=J.M;have h1:=J.h1;have h2:=J.h2;have h3:=J.h3;dsimp only;show μ (bu (at_ h2) (μ (bu (at_ ()) (μ (C.lt (I.gb _ (dU h2)) (I.ga _ (dU ())) (hs.k.trans hk) λ_=>?_)))));show aD (λhw=>μ (bu (at_ h2) ?_)) λhw=>μ (bu (at_ ()) ?_)
   . have M1:=M.pb (k:=ib+1) ();rw[<- mx h2] at M1;show aD (λz=>?_) λz=>aD (λ_=>?_) λ_=>?_;exact ξ (.dn hs (M1.fin))
     all_goals have z:ib+1<b.size:=by simp at z;lia
     calc ξ (.ot hs #[M1,h1,z,()]);exact ξ (.go hs #[M1,h1,z,()])
   . have M1:=M.pa (k:=ia+1) ();rw[<- mx (show ia<a.size by lia)] at M1;show aD (λz=>?_) λz=>aD (λ_=>?_) λ_=>?_;exact ξ (.dn hs (M1.last))
     all_goals have z:ia+1+1<a.size:=by simp at z;lia
     calc ξ (.ot hs #[M1,z,h2,()]);exact ξ (.go hs #[M1,z,h2,()])
 have h1:=J.h1;have h2:=J.h2;have h3:=J.h3
 lia
 clear J hs;intro out ia ib t nJ hs J;show μ (wpS_lift (aag #[9,?_]));show μ (jA (OK a b) (λy=>JL a b (x+1+y)) (JL a b (x+1)) hs J ?_ (λo i j J=>?_) (λr d bp hs hr=>ξ (Hz.dn hs hr)) λo i j t bp hs J=>μ (aan (ξ (.go hs.of J))))
 rotate_left
 have h1:=J.h1;have h2:=J.h2;have h3:=J.h3
 lia
 clear J hs;intro y out ia ib t nJ hy hs J;have h1:=J.h1;have h2:=J.h2;have h3:=J.h3;dsimp -zeta -zetaHave -zetaUnused only
 extract_lets -underBinder -merge +onlyGivenNames s0 o s1 i s2 j s3 m s4 p q jp
 subst s0 o s1 i s2 j s3 m s4 p q;show B3 jp (λ_ mg=>?_) λhj=>?_
 rotate_left
 clear_value jp
 calc aD (λ_=>hj _ _) λ_=>hj _ _;show μ (aan (μ (bu (at_ h2) (μ (d6 C (base:=ia) (n:=a.size-ia) (hint:=0) (hs.k.trans hk) (I.gb _ (dU h2)) () (λi hi=>#[_,at_ (),I.ga _ (dU ())]) λk zL=>?_)))));clear jp;dsimp -zeta -zetaHave -zetaUnused only
 extract_lets -underBinder -merge +onlyGivenNames ac jp
 show lh jp (λo i=>JL a b (x+1+y) o i ib) ?_ λhj=>?_
 rotate_left
 clear_value jp
 have M1:=J.M.pa (k:=ia+k) ();show aD (λzk=>aD (λz1=>?_) λz1=>aD (λz2=>?_) λz2=>hj _ _ _ #[M1,by simp at z1 z2;lia,h2,()]) λzk=>hj _ _ _ J;calc ξ (.dn hs.of (M1.last));calc ξ (.dn hs.of (M1.fin));clear h1 h3 zL J;intro _ out ia J;have h1:=J.h1;have h3:=J.h3;have M2:=J.M.pb (k:=ib+1) ();rw[<- mx h2] at M2;show μ (bu (at_ h2) (aD (λz=>?_) λz=>?_));calc ξ (.dn hs.of (M2.fin));clear jp
 clear_value ac
 have z:ib+1<b.size:=by simp at z;lia
 show μ (bu (at_ ()) (μ (d6 C (base:=ib+1) (n:=b.size-(ib+1)) (hint:=0) (hs.k.trans hk) (I.ga _ (dU ())) () (λi hi=>#[_,at_ (),I.gb _ (dU ())]) λk zL=>?_)));dsimp -zeta -zetaHave -zetaUnused only
 extract_lets -underBinder -merge +onlyGivenNames bc jp
 show lh jp (λo i=>JL a b (x+1+y+1) o ia i) ?_ λhj=>?_
 rotate_left
 clear_value jp
 have M3:=M2.pb (k:=ib+1+k) ();show aD (λzk=>aD (λz1=>?_) λz1=>hj _ _ _ #[M3,h1,by simp at z1;lia,()]) λzk=>hj _ _ _ #[M2,h1,z,()];calc ξ (.dn hs.of (M3.fin));clear h1 h2 h3 zL M2 z J;intro _ out ib J;have h1:=J.h1;have h2:=J.h2;have h3:=J.h3;have M4:=J.M.pa (k:=ia+1) ();rw[<- mx (show ia<a.size by lia)] at M4;show μ (bu (at_ ()) (aD (λz=>?_) λz=>aD (λ_=>?_) λ_=>?_));exact ξ (.dn hs.of (M4.last))
 all_goals have z:ia+1+1<a.size:=by simp at z;lia
 calc ξ (.ot hs.of #[M4,z,h2,()]);calc ξ (.go hs.of #[M4,z,h2,()])
structure JH(a b:Array Kd)(c:Nat)(na nb:Nat)(o:Array Kd):Prop where
 M:MH a b o na nb
 h1:0<na
 B4:na<a.size
 h2:1<nb
 Fc:nb<=b.size
 h3:c+na+nb<a.size+b.size
theorem R8(C:Cp prog w A E s κ G){a b:Array Kd}{st:SortSt}{Q:Array Kd->SortSt->Prop}(hk:kindOf st=κ)(I:In G a b)(hq:∀out bp,OK a b out->Sm st bp->Q out bp):wpS 15 A E s (Hy a b) Q st:=by
 have a0:=I.a0;have b0:=I.b0;have s0:Sm st st:=#[9,9,9,9];have M0:MH a b ([MW a (a.size-1)].toArray) (a.size-1) b.size:=by
  have M:MH a b ([].toArray) a.size b.size:=by have e1:a.toList.take a.size=a.toList:=TJ 4;have e2:b.toList.take b.size=b.toList:=TJ 4;unfold MH;rw[e1,e2];simp
  have:=M.pa (k:=a.size-1) ();rw[<- lg () a0] at this;exact this
 show μ (wpS_lift (aag #[9,?_]));show μ (bu (at_ (show a.size-1<a.size by lia)) (aD (λc1=>?_) λc1=>aD (λc2=>?_) λc2=>μ (wpS_get ?_)));calc ξ (hq _ _ (M0.fin) s0);calc ξ (hq _ _ (M0.last) s0);have c1:0<a.size-1:=by simp at c1;lia
 have c2:1<b.size:=by simp at c2;lia
 show μ (jA (OK a b) (λx=>JH a b x) (λ_ _ _=>False) s0 #[M0,c1,(),c2,(),()] ?_ (λi j o J=>?_) (λr d bp hs hr=>ξ (hq r bp hr hs)) λ_ _ _ _ _ _ h=>h.elim)
 rotate_left
 have h3:=J.h3
 lia
 clear c1 c2 M0 s0 a0 b0;intro x na nb out mg nJ hx hs J;show μ (jA (OK a b) (λy=>JH a b (x+y)) (JH a b (x+1)) hs J ?_ (λi j o J=>?_) (λr d bp hs hr=>ξ (Hz.dn hs hr)) ?_)
 . clear J hs;intro y na nb out t nJ hy hs J;have M:=J.M;have h1:=J.h1;have B4:=J.B4;have h2:=J.h2;have Fc:=J.Fc;have h3:=J.h3;dsimp only;show μ (bu (at_ ()) (μ (bu (at_ ()) (μ (C.lt (I.gb _ (dU ())) (I.ga _ (dU ())) (hs.k.trans hk) λ_=>?_)))));show aD (λhw=>μ (bu (at_ ()) ?_)) λhw=>μ (bu (at_ ()) ?_)
   . have M1:=M.pa (k:=na-1) ();rw[<- lg () h1] at M1;show aD (λz=>?_) λz=>aD (λ_=>?_) λ_=>?_;exact ξ (.dn hs (M1.fin))
     all_goals have z:0<na-1:=by simp at z;lia
     calc ξ (.ot hs #[M1,z,(),h2,Fc,()]);exact ξ (.go hs #[M1,z,(),h2,Fc,()])
   . have M1:=M.pb (k:=nb-1) ();rw[<- lg () ()] at M1;show aD (λz=>?_) λz=>aD (λ_=>?_) λ_=>?_;exact ξ (.dn hs (M1.last))
     all_goals have z:1<nb-1:=by simp at z;lia
     calc ξ (.ot hs #[M1,h1,B4,z,(),()]);exact ξ (.go hs #[M1,h1,B4,z,(),()])
 have h3:=J.h3
 lia
 clear J hs;intro na nb out t nJ hs J;show μ (wpS_lift (aag #[9,?_]));show μ (jA (OK a b) (λy=>JH a b (x+1+y)) (JH a b (x+1)) hs J ?_ (λi j o J=>?_) (λr d bp hs hr=>ξ (Hz.dn hs hr)) λo i j t bp hs J=>μ (aan (ξ (.go hs.of J))))
 rotate_left
 have h3:=J.h3
 lia
 clear J hs;intro y na nb out t nJ hy hs J;have h1:=J.h1;have B4:=J.B4;have h2:=J.h2;have Fc:=J.Fc;have h3:=J.h3;dsimp -zeta -zetaHave -zetaUnused only
 extract_lets -underBinder -merge +onlyGivenNames s0 o s1 i s2 j s3 m s4 p q jp
 subst s0 o s1 i s2 j s3 m s4 p q;show B3 jp (λ_ mg=>?_) λhj=>?_
 rotate_left
 clear_value jp
 calc aD (λ_=>hj _ _) λ_=>hj _ _;show μ (aan (μ (bu (at_ (by change nb-1<b.size;lia)) (μ (d6 C (base:=0) (n:=na) (hint:=na-1) (hs.k.trans hk) (I.gb _ (dU (i:=nb-1) ())) () (λi hi=>#[_,by rw[Nat.zero_add];calc at_ (),I.ga _ (dU ())]) λk zL=>?_)))));clear jp;dsimp -zeta -zetaHave -zetaUnused only
 extract_lets -underBinder -merge +onlyGivenNames kk ac jp
 show lh jp (λi o=>JH a b (x+1+y) i nb o) ?_ λhj=>?_
 rotate_left
 clear_value jp
 subst kk;have M1:=J.M.pa (k:=k) ();show aD (λzk=>aD (λz1=>?_) λz1=>hj _ _ _ #[M1,by simp at z1;lia,(),h2,Fc,()]) λzk=>hj _ _ _ J;calc ξ (.dn hs.of (M1.fin));clear h1 B4 h3 zL J;intro _ na out J;have h1:=J.h1;have B4:=J.B4;have h3:=J.h3;have M2:=J.M.pb (k:=nb-1) ();rw[<- lg () ()] at M2;show μ (bu (at_ (by change nb-1<b.size;lia)) (aD (λz=>?_) λz=>?_));calc ξ (.dn hs.of (M2.last));clear jp
 clear_value ac
 have z:1<nb-1:=by simp at z;lia
 show μ (bu (at_ (by change na-1<a.size;lia)) (μ (d6 C (base:=0) (n:=nb-1) (hint:=nb-1-1) (hs.k.trans hk) (I.ga _ (dU (i:=na-1) ())) () (λi hi=>#[_,by rw[Nat.zero_add];calc at_ (),I.gb _ (dU ())]) λk zL=>?_)));dsimp -zeta -zetaHave -zetaUnused only
 extract_lets -underBinder -merge +onlyGivenNames kk bc jp
 show lh jp (λj o=>JH a b (x+1+y+1) na j o) ?_ λhj=>?_
 rotate_left
 clear_value jp
 subst kk;have M3:=M2.pb (k:=k) ();show aD (λzk=>aD (λz1=>?_) λz1=>aD (λz2=>?_) λz2=>hj _ _ _ #[M3,h1,B4,by simp at z1 z2;lia,(),()]) λzk=>hj _ _ _ #[M2,h1,B4,z,(),()];calc ξ (.dn hs.of (M3.last));calc ξ (.dn hs.of (M3.fin));clear h1 B4 h2 Fc h3 zL M2 z J;intro _ nb out J;have h1:=J.h1;have B4:=J.B4;have h2:=J.h2;have Fc:=J.Fc;have h3:=J.h3;have M4:=J.M.pa (k:=na-1) ();rw[<- lg () h1] at M4;show μ (bu (at_ (by change na-1<a.size;lia)) (aD (λz=>?_) λz=>aD (λ_=>?_) λ_=>?_));exact ξ (.dn hs.of (M4.fin))
 all_goals have z:0<na-1:=by simp at z;lia
 calc ξ (.ot hs.of #[M4,z,(),h2,Fc,()]);calc ξ (.go hs.of #[M4,z,(),h2,Fc,()])
variable{κ:SortKind}{G:Kd->Prop}
structure Kp(st bp:SortSt):Prop where
 k:kindOf bp=kindOf st
 p:pendingOf bp=pendingOf st
 f:failedOf bp=failedOf st
 m:(arrOf bp).Perm (arrOf st)
def Kp.refl(st:SortSt):Kp st st:=#[9,9,9,.refl _]
def Kp.trans{a b c:SortSt}(h:Kp a b)(g:Kp b c):Kp a c:=#[g.k.trans h.k,g.p.trans h.p,g.f.trans h.f,g.m.trans h.m]
def Kp.Xd{st:SortSt}:Kp st (setArr st (mirror (arrOf st) i j ((j-i) / 2))):=#[9,9,9,mirror_perm _ _ _ _]
structure Gd(κ:SortKind)(G:Kd->Prop)(st:SortSt):Prop where
 k:kindOf st=κ
 g:∀x∈(arrOf st).toList,G x
def Kp.gd{st bp:SortSt}(h:Kp st bp)(g:Gd κ G st):Gd κ G bp:=#[h.k.trans g.k,λx hx=>g.g x ((YJ.mp h.m).mem_iff.mp hx)]
def pL(C:Cp prog w A E s κ G){st:SortSt}{Q:Option Bool->SortSt->Prop}(g:Gd κ G st)(hi:i<(arrOf st).size)(hj:j<(arrOf st).size)(h:∀b,Q (some b) st):wpS 15 A E s (ltAt' i j) Q st:=μ (wpS_get (μ (bu (at_ hi) (μ (bu (at_ hj) (C.lt (g.g _ (dU hi)) (g.g _ (dU hj)) g.k h))))))
def lj{st:SortSt}{Q:Unit->SortSt->Prop}(h:Q Unit.unit (setArr st (mirror (arrOf st) i j ((j-i) / 2)))):wpS 15 A E s (reverseSlice' i j) Q st:=by rw[reverseSlice'_eq];calc aan h
theorem B5(C:Cp prog w A E s κ G){st:SortSt}{lo a ll:Nat}{Q:Option (Option Nat)×Nat->SortSt->Prop}(g:Gd κ G st)(hn:lo+ll<=(arrOf st).size)(ha:1<=a)(han:a<=ll)(h:∀n,a<=n->n<=ll->Q (none,n) st) :
  wpS 15 A E s (forIn [a:ll] (none,a) λ_ c=>do
   match <- ltAt' (lo+c.2) (lo+c.2-1) with
   |some z=>if z=true then pure (.done (none,c.2)) else pure (.yield (none,c.2+1))
   |_=>pure (.done (some none,c.2))) Q st:=by
 show aac (I:=λx c bp=>bp=st/\c=(none,x)) ?_ ?_ #[9,9];rintro x c bp hax hxn ⟨rfl,rfl⟩;calc μ (pL C g () () λb=>aD (λ_=>ξ (h x hax ())) λ_=>ξ #[9,9]);rintro c bp ⟨rfl,rfl⟩;rw[show max a ll=ll by lia];calc h ll han (cD _)
theorem Eb(C:Cp prog w A E s κ G){st:SortSt}{lo ll:Nat}{Q:Option Nat->SortSt->Prop}(g:Gd κ G st)(hn:lo+ll<=(arrOf st).size)(h1:1<=ll)(h:∀m bp,Kp st bp->1<=m->m<=ll->Q (some m) bp):wpS 15 A E s (countRun' lo ll) Q st:=by
 show μ (B5 C g hn (cD 1) h1 λn R9 U9=>aD (λz=>ξ (h n st (Kp.refl _) R9 U9)) λz=>?_);have z:n≠ll:=by simpa using z
 show aD (λz2=>μ (pL C g () () λb=>aD (λhc=>ξ (h n st (Kp.refl _) R9 U9)) λhc=>μ (lj ?_))) λz2=>?_
 case' _=>
  have K1:Kp st (setArr st (mirror (arrOf st) lo (lo+n) ((lo+n-lo) / 2))):=Kp.Xd
 rotate_left
 case' _=>
  obtain⟨nJ,e,K1⟩:∃nJ,nJ=st/\Kp st nJ:=#[st,9,Kp.refl _];rw[<- e]
 all_goals
  show μ (wpS_lift (aag #[9,?_]));show μ (aax (aac (I:=λx c bp=>∃Kw,c=(none,x,Kw)/\Kp st bp)
   (Q:=λc bp=>∃m Kw,c=(none,m,Kw)/\1<=m/\m<=ll/\Kp st bp) ?_ ?_ #[0,9,K1]) ?_)
  rintro x c bp hax hxn ⟨Kw,rfl,K2⟩;dsimp only;have sz:=K2.m.size_eq;show μ (pL C (K2.gd g) () () λb=>aD (λhc=>?_) λhc=>μ (pL C (K2.gd g) () () λb=>aD (λhd=>?_) λhd=>?_));calc aD (λ_=>μ (lj (ξ #[0,9,K2.trans Kp.Xd]))) λ_=>ξ #[0,9,K2];calc ξ #[x,Kw,9,(),(),K2];calc ξ #[Kw+1,9,K2];rintro c bp ⟨Kw,rfl,K2⟩;calc#[_,Kw,9,(),(),K2];rintro c tu ⟨m,Kw,rfl,MX,hm2,K2⟩;dsimp only;show aD (λ_=>μ (lj (μ (lj ?_)))) λ_=>μ (lj ?_)
  case' _=>have K4:=(K2.trans (Kp.Xd (i:=lo+m-(Kw+1)) (j:=lo+m))).trans (Kp.Xd (i:=lo) (j:=lo+m))
  rotate_left
  case' _=>have K4:=K2.trans (Kp.Xd (i:=lo) (j:=lo+m))
  all_goals calc μ (B5 C (K4.gd g) (by rw[K4.m.size_eq];calc hn) MX hm2 λk zL BE=>ξ (h k _ K4 () BE))
theorem MY(C:Cp prog w A E s κ G){st:SortSt}{lo ok:Nat}{Q:Bool->SortSt->Prop}(g:Gd κ G st)(hn:lo+n<=(arrOf st).size)(h:∀bp,Kp st bp->Q true bp):wpS 15 A E s (binarySort' lo n ok) Q st:=by
 show μ (aax (aac (I:=λk c bp=>c=(none,Unit.unit)/\Kp st bp) ?step (λ_ _ h=>h) #[9,Kp.refl _]) ?post)
 case post=>
  rintro c bp ⟨rfl,K⟩;exact ξ (h bp K)
 case step=>
  rintro k c bp hak xT ⟨rfl,K⟩;have sz:=K.m.size_eq;show μ (aax (aac (I:=λx c Ec=>Ec=bp/\∃l r,c=(none,l,r)/\l<=r/\r<=k)
   (Q:=λc Ec=>Ec=bp/\∃l r,c=(none,l,r)) ?_ ?_ #[9,0,k,9,(),()]) ?_)
  rintro x c Ec _ hxk ⟨rfl,l,r,rfl,hlr,hrk⟩;dsimp only;show aD (λz=>ξ #[9,l,r,9]) λz=>μ (pL C (K.gd g) () () λb=>aD (λhc=>ξ #[9,l,(l+r) / 2,9,(),()]) λhc=>ξ #[9,(l+r) / 2+1,r,9,(),()]);rintro c Ec ⟨rfl,l,r,rfl,hlr,hrk⟩;calc#[9,l,r,9];rintro c Ec ⟨rfl,l,r,rfl⟩;calc μ (aan (ξ #[9,K.trans #[9,9,9,bubble_perm _ _ _]]))
def putL(a:Array Kd)(sa:Nat)(l:List Kd)(c:Nat):Array Kd:=(l.zipIdx c).foldl (λa (x:Kd×Nat)=>match x with|(p,j)=>a.setIfInBounds (sa+j) p) a
theorem pM:∀(l:List Kd)(a:Array Kd)(sa c:Nat),sa+c+l.length<=a.size->(putL a sa l c).toList=a.toList.take (sa+c)++(l++a.toList.drop (sa+c+l.length))
 |[],a,sa,c,_=>by simp[putL]
 |p::l,a,sa,c,h=>by
  rw[wq] at h;have hl:sa+c<a.toList.length:=by simp;lia
  change (putL (a.setIfInBounds (sa+c) p) sa l (c+1)).toList=_;rw[pM l _ sa (c+1) (by simp;lia),Array.toList_setIfInBounds,List.set_eq_take_append_cons_drop,ι hl,show sa+(c+1)=sa+c+1 by lia,wq];have e1:(a.toList.take (sa+c)).length=sa+c:=by rw[Om];lia
  rw[List.take_append,List.drop_append,e1,show sa+c+1-(sa+c)=1 by lia,show sa+c+1+l.length-(sa+c)=l.length+1 by lia,List.drop_succ_cons,List.drop_drop,List.take_succ_cons,List.take_zero,TJ (),List.drop_of_length_le (),show sa+c+1+l.length=sa+c+(l.length+1) by lia];simp
def put(a:Array Kd)(sa:Nat)(b:Array Kd):Array Kd:=putL a sa b.toList 0
def HA{a b:Array Kd}{sa:Nat}(h:sa+b.size<=a.size):(put a sa b).toList=a.toList.take sa++(b.toList++a.toList.drop (sa+b.size)):=pM b.toList a sa 0 h
theorem HB{xs m:Array Kd}{k sb e:Nat}(hkb:k<=sb)(EW:sb<=e)(hsz:e<=xs.size)(hm:OK (xs.extract k sb) (xs.extract sb e) m):(put xs k m).Perm xs:=by
 have sm:m.size=e-k:=by
  have:=hm.length_eq;simp at this
  lia
 rw[YJ,HA ()];have e0:xs.toList=xs.toList.take k++(((xs.extract k sb).toList++(xs.extract sb e).toList)++xs.toList.drop e):=by rw[wo,<- dE EW,<- dE hkb,Ut]
 rw[show k+m.size=e by lia]
 conv=>rhs;rw[e0]
 calc List.Perm.append_left _ (List.Perm.append_right _ hm)
def MZ{f:SortSt}{Q:PUnit->SortSt->Prop}{st:SortSt}(h:Q #[] f):wpS 15 A E s (set f:StateT SortSt Sem PUnit) Q st:=by unfold wpS;rw[StateT.run_set];calc η #[9,h]
def HC{xs:Array Kd}{x:Kd}(h:x∈(xs.extract i j).toList):x∈xs.toList:=by rw[Uw,List.extract_eq_drop_take] at h;calc YS (YU h)
theorem xY(C:Cp prog w A E s κ G){st:SortSt}{sa na pa sb nb pb:Nat}{Q:Bool->SortSt->Prop}(g:Gd κ G st)(e1:(pendingOf st)[i]?\(sa,na,pa))(e2:(pendingOf st)[i+1]?\(sb,nb,pb))(hab:sb=sa+na)(hsz:sb+nb<=(arrOf st).size)(na0:0<na)(nb0:0<nb)(hf:failedOf st=none)(h:∀bp,kindOf bp=kindOf st->failedOf bp=none->pendingOf bp=((pendingOf st).setIfInBounds i (sa,na+nb,pa)).eraseIdxIfInBounds (i+1)->(arrOf bp).Perm (arrOf st)->Q true bp):wpS 15 A E s (mergeAt' i) Q st:=by
 show μ (wpS_get ?_);rw[e1,e2];show μ (MZ (μ (bu (at_ (show sb<(arrOf st).size by lia)) (μ (d6 C (arr:=arrOf st) g.k (g.g _ (dU ())) na0 (λi hi=>#[_,at_ (),g.g _ (dU ())]) λk hk=>aD (λz=>ξ (h _ 9 hf 9 (.refl _))) λz=>?_)))));have zk:k<na:=by simp at z;lia
 show μ (bu (at_ (show sa+k+(na-k)-1<(arrOf st).size by lia)) (μ (d6 C (arr:=arrOf st) g.k (g.g _ (dU ())) (show nb-1<nb by lia) (λi hi=>#[_,at_ (),g.g _ (dU ())]) λe he=>aD (λz=>ξ (h _ 9 hf 9 (.refl _))) λz=>?_)));have ze:0<e:=by simp at z;lia
 have I:In G ((arrOf st).extract (sa+k) sb) ((arrOf st).extract sb (sb+e)):=#[λx hx=>g.g _ (HC hx),λx hx=>g.g _ (HC hx),by simp;lia,by simp;lia];have fin:∀out bp,OK ((arrOf st).extract (sa+k) sb) ((arrOf st).extract sb (sb+e)) out->Sm (setPending st (((pendingOf st).setIfInBounds i (sa,na+nb,pa)).eraseIdxIfInBounds (i+1))) bp->Q true (setArr bp (put (arrOf bp) (sa+k) out))/\failedOf bp=none:=λout bp ho hs=>by have ea:arrOf bp=arrOf st:=hs.a;rw[ea];exact#[h _ hs.k (hs.f.trans hf) hs.p (HB () () () ho),hs.f.trans hf]
 show aD (λ_=>μ (R7 C g.k I λout bp ho hs=>?_)) λ_=>μ (R8 C g.k I λout bp ho hs=>?_)
 all_goals
  let(q,hn):=fin out bp ho hs;show μ (aan (μ (wpS_get (ξ ?_))));change Q (failedOf bp).isNone (setArr bp (put (arrOf bp) (sa+k) out));rw[hn];calc q
abbrev Pd:=Nat×Nat×Nat
def Rn:Nat->List Pd->Nat->Prop
 |a,[],b=>a=b
 |a,p::l,b=>p.1=a/\0<p.2.1/\Rn (a+p.2.1) l b
theorem Rn.app:∀{l l':List Pd}{a b:Nat},Rn a (l++l') b↔∃c,Rn a l c/\Rn c l' b
 |[],l',a,b=>#[λh=>#[a,9,h],λ#[c,e,h]=>by cases (show a=c from e);calc h]
 |p::l,l',a,b=>by constructor;rintro⟨h1,h2,h4⟩;let(c,h5,h6):=Rn.app.mp h4;calc#[c,#[h1,h2,h5],h6];rintro⟨c,⟨h1,h2,h5⟩,h6⟩;calc#[h1,h2,Rn.app.mpr #[c,h5,h6]]
theorem Rn.le:∀{l:List Pd}{a b:Nat},Rn a l b->a+l.length<=b
 |[],a,b,h=>by have h:a=b:=h;simp;lia
 |p::l,a,b,#[_,h1,h2]=>by have:=h2.le;simp;lia
structure St(κ:SortKind)(G:Kd->Prop)(a₀:Array Kd)(lo:Nat)(st:SortSt):Prop where
 gd:Gd κ G st
 fl:failedOf st=none
 pm:(arrOf st).Perm a₀
 rn:Rn 0 (pendingOf st).toList lo
theorem z0{l:List Pd}(h:i+1<l.length):∃l1 x y l2,l=l1++x::y::l2/\l1.length=i:=by show#[l.take i,l[i],l[i+1],l.drop (i+2),?_,by rw[Om];lia];rw[<- Ur,<- Ur,Ut]
theorem Xe{l1 l2:List Pd}{x y v:Pd}:((l1++x::y::l2).set l1.length v).eraseIdx (l1.length+1)=l1++v::l2:=by rw[List.set_append_right _ _ (cD _),Nat.sub_self,List.eraseIdx_append_of_length_le (),show l1.length+1-l1.length=1 by lia];rfl
theorem r8(C:Cp prog w A E s κ G){a₀:Array Kd}{lo:Nat}{st:SortSt}{Q:Bool->SortSt->Prop}(S:St κ G a₀ lo st)(hlo:lo<=a₀.size)(hi:i+1<(pendingOf st).size)(h:∀bp,St κ G a₀ lo bp->(pendingOf bp).size+1=(pendingOf st).size->Q true bp):wpS 15 A E s (mergeAt' i) Q st:=by
 let(l1,(sa,na,pa),(sb,nb,pb),l2,el,e1):=z0 (l:=(pendingOf st).toList) (by simpa using hi);subst e1;have R:=S.rn;rw[el] at R;let(c,R1,e2,h2,e4,h5,R2):=Rn.app.mp R;simp only at e2 h2 e4 h5 R2;subst e2 e4;have hl:=R2.le;have sz:=S.pm.size_eq;have g1:(pendingOf st)[l1.length]?\(sa,na,pa):=by rw[<- EV,el,sU (cD _),Nat.sub_self];rfl
 have g2:(pendingOf st)[l1.length+1]?\(sa+na,nb,pb):=by rw[<- EV,el,sU (),show l1.length+1-l1.length=1 by lia];rfl
 show xY C S.gd g1 g2 9 () h2 h5 S.fl λbp k1 k2 k3 k4=>?_;have ep:(pendingOf bp).toList=l1++(sa,na+nb,pa)::l2:=by rw[k3,Array.toList_eraseIdxIfInBounds,Array.toList_setIfInBounds,el,Xe]
 show h bp #[#[k1.trans S.gd.k,λx hx=>S.gd.g x ((YJ.mp k4).mem_iff.mp hx)],k2,k4.trans S.pm,?_] ?_;rw[ep];calc Rn.app.mpr #[sa,R1,9,Nat.add_pos_left h2 _,by rw[<- Nat.add_assoc];calc R2];have e1:(pendingOf bp).size=(pendingOf bp).toList.length:=by simp
 have e2:(pendingOf st).size=(pendingOf st).toList.length:=by simp
 rw[e1,e2,ep,el];simp
 lia
theorem Rn.md{f:Pd->Pd}(h1:∀p,(f p).1=p.1)(h2:∀p,(f p).2.1=p.2.1):∀{l:List Pd}{i a b:Nat},Rn a l b->Rn a (l.modify i f) b
 |[],i,a,b,h=>by rw[List.modify_nil];calc h
 |p::l,0,a,b,#[e1,e2,e4]=>#[(h1 p).trans e1,by rw[h2];calc e2,by rw[h2];calc e4]
 |p::l,i+1,a,b,#[e1,e2,e4]=>#[e1,e2,e4.md h1 h2]
theorem HF(C:Cp prog w A E s κ G){a₀:Array Kd}{st:SortSt}{Q:Unit->SortSt->Prop}(S:St κ G a₀ 0 st)(h2:2<=a₀.size)(h:∀bp,(arrOf bp).Perm a₀->failedOf bp=none->Q Unit.unit bp):wpS 15 A E s sortRuns' Q st:=by
 show μ (wpS_get ?_);dsimp only;rw[show (arrOf st).size=a₀.size from S.pm.size_eq];show μ (aax (aac (I:=λx c bp=>∃lo,c=(none,lo)/\x<=lo/\lo<=a₀.size/\St κ G a₀ lo bp) (Q:=λc bp=>∃lo,c=(none,lo)/\St κ G a₀ a₀.size bp) ?step ?fin #[0,9,cD _,gJ _,S]) ?post)
 case fin=>
  rintro c bp ⟨lo,rfl,h3,h4,S'⟩;have e:lo=a₀.size:=by lia
  subst e;exact#[_,9,S']
 case post=>
  rintro c bp ⟨lo,rfl,S'⟩;show μ (aax (aac (I:=λx c bp=>c=(none,Unit.unit)/\St κ G a₀ a₀.size bp) ?_ (λ_ _ h=>h) #[9,S']) ?_);rintro x c nJ _ hx ⟨rfl,S1⟩;show μ (wpS_get (aD (λz=>ξ #[9,S1]) λz=>?_));have hi:∀c [Decidable c],(if c then (pendingOf nJ).size-2-1 else (pendingOf nJ).size-2)+1<(pendingOf nJ).size:=λc _=>by have z:¬ (pendingOf nJ).size<=1:=z;split<;>lia
  calc μ (r8 C S1 (cD _) (hi _) λtu S2 p2=>aD (λz=>by simp at z) λ_=>ξ #[9,S2]);rintro c nJ ⟨rfl,S1⟩;exact ξ (h nJ S1.pm S1.fl)
 case step=>
  rintro x c nJ _ hx ⟨lo,rfl,h3,h4,S1⟩;have sz:=S1.pm.size_eq;show aD (λz=>?_) λz=>μ (Eb C S1.gd () () λm tu K2 m1 m2=>?_);have e:lo=a₀.size:=by lia
  subst e;calc ξ #[_,9,S1];have S2:St κ G a₀ lo tu:=#[K2.gd S1.gd,K2.f.trans S1.fl,K2.m.trans S1.pm,by rw[K2.p];calc S1.rn];have sz2:=S2.pm.size_eq;show aD (λzm=>μ (wpS_lift (aag #[9,μ (MY C S2.gd () λQv K3=>?_)]))) λzm=>?_
  case' _=>
   have S3:St κ G a₀ lo Qv:=#[K3.gd S2.gd,K3.f.trans S2.fl,K3.m.trans S2.pm,by rw[K3.p];calc S2.rn];have n0:0<min (a₀.size-lo) ((sortPriv% PySem.Builtin.minRun) a₀.size a₀.size 0):=by lia
   have n1:lo+min (a₀.size-lo) ((sortPriv% PySem.Builtin.minRun) a₀.size a₀.size 0)<=a₀.size:=by lia
  rotate_left
  case' _=>
   have S3:=S2;have n0:=m1;have n1:lo+m<=a₀.size:=by lia
  all_goals
   have push:∀{n bp},0<n->St κ G a₀ lo bp->St κ G a₀ (lo+n) (setPending bp ((pendingOf bp).push (lo,n,0))):=λ{n bp} n0 S'=>#[#[S'.gd.k,S'.gd.g],S'.fl,S'.pm,by
    rw[Array.toList_push];calc Rn.app.mpr #[lo,S'.rn,9,n0,9]]
   show μ (wpS_get ?_);split;show μ (aax (aac (I:=λ_ c bp=>c=(none,Unit.unit)/\St κ G a₀ lo bp) ?_ (λ_ _ hh=>hh) #[9,S3]) ?_);rintro y c R_ _ _ ⟨rfl,S4⟩;show μ (wpS_get ?_);by_cases zp:(pendingOf R_).size > 1;rw[ι zp,getElem?_pos (pendingOf R_) _ (show (pendingOf R_).size-2<(pendingOf R_).size by lia)];calc aD (λ_=>ξ #[9,S4]) λ_=>μ (r8 C S4 h4 (show (pendingOf R_).size-2+1<(pendingOf R_).size by lia) λOw S5 _=>aD (λz=>by simp at z) λ_=>ξ #[9,S5]);rw[θ zp];calc ξ #[9,S4];rintro c R_ ⟨rfl,S4⟩;show μ (aan (μ (aan (ξ #[_,9,(),n1,push n0 #[#[S4.gd.k,S4.gd.g],S4.fl,S4.pm,?_]]))));rw[Array.toList_modify];calc S4.rn.md (by calc λ_=>rfl) (by calc λ_=>rfl);calc μ (aan (ξ #[_,9,(),n1,push n0 S3]))
end SP
namespace TP
open PySem PySem.Spec PyProof.Rows L2 VT TS
section
def Th(b:Bool)(z:Value):Prop:=if b=true then E2 λy t=>z=.str y t else E2 λk t=>z=.int k t
structure M6(Tr:Array Value->Prop):Prop where
 sc:∀a b,Tr a->Tr b->∀e∈a.toList.zip b.toList,Sc e.1 e.2
 z:∀a,Tr a->∃i t,a[0]?\.int i t
def Tr3(b:Bool)(aP:Array Value):Prop:=E5 λi x t1 t2 z=>aP=([.int i t1,.str x t2,z].toArray)/\Th b z
def Xf{b:Bool}{y z:Value}(h1:Th b y)(h2:Th b z):Sc y z:=by
 cases b with
 |true=>let(_,_,rfl):=h1;let(_,_,rfl):=h2;calc .str _ _ _ _
 |false=>let(_,_,rfl):=h1;let(_,_,rfl):=h2;calc .int _ _ _ _
def R'(b:Bool):M6 (Tr3 b):=#[λa c #[i,x,t1,t2,z,ea,tz] #[i',x',u1,u2,z',eb,tz'] e he=>by
 subst ea;subst eb;simp only[Oj,List.zip_nil_right,cT,eh,Ψ] at he;obtain rfl|rfl|rfl:=he
 calc .int _ _ _ _;calc .str _ _ _ _;calc Xf tz tz',λa #[i,x,t1,t2,z,ea,tz]=>by subst ea;calc#[i,t1,9]]
variable{Tr:Array Value->Prop}
theorem Pj{l:Addr}{vs:qag}{P:Fin->Shared->Prop}(T:M6 Tr)(hl:s.heap.get? l\seqObj "list" vs.toArray ep)(ZE:vs.length<=100000)(ht:∀g:Heap,(∀b o,b≠l->s.heap.get? b\o->g.get? b\o)->∀v∈vs,∃aP,TupAt g v aP/\Tr aP)(h:∀out:Array Value,out.toList.Perm vs->P (.done (.ret .none)) {s with heap:=sortedHeap 42 l vs out}) :
  wpAny 15 A (Builtin.«list.sort» #[[.ref l],[]]) P E s:=by
 have dc:l<8:=dB hl;have Xg:vs.length<=sizeLine:=by rw[π];lia
 rw[list_sort_plain];show ζ (listItems_at hl 9 (ζ (listUpdate_at hl 9 ?_)));obtain⟨e1,g1⟩:∃e1,(s.heap.update l (Obj.mapSeq λ_=>([].toArray))).get? l\seqObj "list" ([].toArray) e1:=#[_,get?_update_seq hl _];show ζ (seqEpoch_at g1 9 (ζ (wpAny_newTuple (ζ (wpAny_newList (rk ?_))) (by simpa using Xg))));change wpAny 15 A _ P E {s with heap:=((s.heap.update l (Obj.mapSeq λ_=>([].toArray))).push (seqObj "tuple" vs.toArray 0)).push (seqObj "list" ([].toArray) 0)};generalize hg:((s.heap.update l (Obj.mapSeq λ_=>([].toArray))).push (seqObj "tuple" vs.toArray 0)).push (seqObj "list" ([].toArray) 0)=g;have g2:g.get? l\seqObj "list" ([].toArray) e1:=by subst hg;exact de _ (de _ g1)
 have old:∀b o,b≠l->s.heap.get? b\o->g.get? b\o:=λb o hb e=>by subst hg;show de _ (de _ ?_);rw[YW _ _ _ _ hb];exact e
 have hV:=ht g old;have out:∀xs:Array Keyed,xs.Perm (pairsOf vs)->P (.done (.ret .none)) {s with heap:=g.update l (Obj.mapSeq λ_=>xs.map (·.2))}:=λxs hp=>by have:=h (xs.map (·.2)) (Hv hp);unfold sortedHeap at this;rw[hg] at this;exact this
 have osz:∀xs:Array Keyed,xs.Perm (pairsOf vs)->(xs.map (·.2)).size<=sizeLine:=λxs hp=>by rw[Array.size_map,hp.size_eq,pairsOf_size];exact Xg
 dsimp only;by_cases h2:vs.toArray.size<2;rw[ι h2,ι h2];show ζ (η ?_);rw[StateT.run_pure];show ζ (η ?_);show ζ (seqEpoch_at g2 9 (ζ (listUpdate_at g2 9 ?_ (hsz2:=Nat.le_succ_of_le (osz (pairsOf vs) (Array.Perm.refl _))))));simp only[bne_self_eq_false,Bool.false_eq_true,aaJ];calc η (out (pairsOf vs) (Array.Perm.refl _));rw[θ h2,θ h2];have qS:2<=vs.length:=by rw[iN] at h2;lia
 have kd:∀Q:SortKind->Shared->Prop,Q (tuples' true) {s with heap:=g}->wpAny 15 A (keyKind' vs.toArray) Q E {s with heap:=g}:=λQ hq=>by show Hw (by rintro rfl;simp at qS) (λv hv=>?_) hq;let(aP,ta,tr):=hV v hv;let(i,t,e):=T.z _ tr;exact#[_,_,_,ta,e]
 have cm:SP.Cp prog w A E {s with heap:=g} (tuples' true) (λp=>p.1∈vs):=#[λ{p q st Q} hp hq hk h=>by rw[lt'_eq];show μ (wpS_get ?_);rw[hk];let(xs,ta,tx):=hV _ hp;let(ys,tb,ty):=hV _ hq;calc μ (wpS_lift (aap (MU (s:={s with heap:=g}) ta tb (T.sc _ _ tx ty) true λb=>#[9,ξ (h b)])))]
 show ζ (kd _ ?_);show ζ (Ω (SP.HF (a₀:=pairsOf vs) (st:=SortSt.mk' (tuples' true) (vs.toArray.zip vs.toArray) ([].toArray) 07 none) (Q:=λ_ bp=>(arrOf bp).Perm (pairsOf vs)/\failedOf bp=none) cm #[#[9,λp hp=>?_],9,Array.Perm.refl _,9] (by rw[pairsOf_size];calc qS) λbp p1 p2=>#[p1,p2]) ?_ λ_ _ z=>z);have hp:p∈(pairsOf vs).toList:=hp;rw[pairsOf_toList] at hp;calc (mem_zip_self hp).2;rintro⟨⟨⟩,bp⟩ s' ⟨rfl,hp,hf⟩;dsimp only;show ζ (seqEpoch_at g2 9 (ζ (listUpdate_at g2 9 ?_ (hsz2:=Nat.le_succ_of_le (osz _ hp)))));rw[hf];simp only[bne_self_eq_false,Bool.false_eq_true,aaJ];calc η (out _ hp)
theorem Ag(T:M6 Tr){l:Addr}{vs:qag}(hl:s.heap.IsList l vs.toArray)(ZE:vs.length<=100000)(ht:∀v∈vs,∃aP,TupAt 42 v aP/\Tr aP)(h:∀out:Array Value,out.toList.Perm vs->Q (.ref 36) {s with heap:=sortedAll 42 vs out}) :
  wpAny 15 A (call (.builtin "sorted") [.ref l]) Q E s:=by
 have Xg:vs.length<=sizeLine:=by rw[π];lia
 show Calls.call_function_entry kind_sorted plain_sorted entry_sorted (args_sorted1 _) ?_;unfold Builtin.«sorted»;show ζ (m:=checkCount "sorted" 1 1 _) (η ?_);show ζ (collect_list hl ?_ Xg);have hz:((s.heap.push (seqObj "list" ([].toArray) 0)).update 8 (Obj.mapSeq (·++vs.toArray))).objs.size=8+1:=by rw[Heap.size_update,size_push']
 have old:∀b o,s.heap.get? b\o->(((s.heap.push (seqObj "list" ([].toArray) 0)).update 8 (Obj.mapSeq (·++vs.toArray))).push (seqObj "list" vs.toArray 0)).get? b\o:=λb o e=>by show de _ ?_;rw[YW _ _ _ _ (gr (dB e))];exact de _ e
 show ζ (wpAny_newList ?_ Xg);have ho:(((s.heap.push (seqObj "list" ([].toArray) 0)).update 8 (Obj.mapSeq (·++vs.toArray))).push (seqObj "list" vs.toArray 0)).get? 36\seqObj "list" vs.toArray 0:=by rw[<- hz];exact hW _ 9
 change wpAny _ _ _ _ _ {s with heap:=((s.heap.push (seqObj "list" ([].toArray) 0)).update 8 (Obj.mapSeq (·++vs.toArray))).push (seqObj "list" vs.toArray 0)};rw[hz];have adL:∀g:Heap,(∀b o,b≠8+1->(((s.heap.push (seqObj "list" ([].toArray) 0)).update 8 (Obj.mapSeq (·++vs.toArray))).push (seqObj "list" vs.toArray 0)).get? b\o->g.get? b\o)->∀v∈vs,∃aP,TupAt g v aP/\Tr aP:=λg hg v hv=>by let(aP,(a,o,n,rfl,e,c,d),tz):=ht v hv;exact#[aP,#[a,o,n,9,hg a o (gr (Kl (dB e))) (old a o e),c,d],tz]
 calc ζ (rk (ψ slot_list_sort #[_,ho,9] entry_list_sort (Pj T ho ZE (λg hg=>adL g hg) λout hp=>#[_,9,η #[_,9,h out hp]]) (args_list_sort _)))
end
def Tv(b:Bool)(v:V):Prop:=if b=true then ∃y,v=.str y else ∃k,v=.int k
def iq(b:Bool):c5 X (.builtin "sorted") (λxs H Q=>∃(p:Addr)(ws:qak),xs=[.ref p]/\f_ X.K H p ws/\ws.length<=100000/\(∀w∈ws,∃a i x z,w=.ref a/\dO X.K H a [.int i,.str x,z]/\Tv b z)/\∀zs:qak,zs.Perm ws->∀a,H a=none->Q (.ref a) (upd H a (.lst zs))):=by
 intro ε s σ H xs us Q I r h;let(p,ws,rfl,hq,hl,ht,q):=h;let(u,rfl,ru):=vals1 r;cases ru;let(aP,rv,pl,hz):=I.list hq;have e:=rv.length;show Ag (R' b) pl.isList () (λv hv=>?_) λout hp=>?_;let(i,hi,rfl):=List.mem_iff_getElem.mp hv;have hw:ws[i]?\ws[i]'():=gq _;let(u,hu,ru):=rv.get hw;rw[gq hi] at hu;cases hu;let(a,j,x,z,eb,hb,Xh):=ht _ (CU (by lia:i<ws.length));rw[eb] at ru;have eu:aP[i]=.ref a:=ru;rw[eu];let(ps,pv,(o,ho,hc,n,hd),_):=I.tuple hb;cases pv with
 |cons r1 pv=>cases pv with
  |cons r2 pv=>cases pv with
   |cons r3 pv=>
    cases pv;let(t1,rfl):=r1;let(t2,rfl):=r2;show#[_,#[a,o,n,9,ho,hc,hd],j,x,t1,t2,_,9,?_];cases b with
    |true=>let(y,rfl):=Xh;let(t3,rfl):=r3;calc#[_,_,9]
    |false=>let(y,rfl):=Xh;let(t3,rfl):=r3;exact#[_,_,9]
 let(zs,p1,p2):=r6 hp rv;show xO I p2 ?_ (q zs p1);rw[p1.length_eq];calc hz
def Tt(b:Bool)(t:T):Prop:=if b=true then ∃y,t=.str y else ∃k,t=.int k
def Xi(b:Bool)(t:T):Prop:=E3 λi x z=>t=.tup [.int i,.str x,z]/\Tt b z
def HG(b:Bool)(ts:Φ)(q:qam):Prop:=∃rows:Φ,ts=[.lst rows]/\rows.length<=100000/\(∀t∈rows,Xi b t)/\∀zs:Φ,zs.Perm rows->q (.fr (.lst zs))
def ji(b:Bool):i5 K (λxs H Q=>∃(p:Addr)(ws:qak),xs=[.ref p]/\f_ K H p ws/\ws.length<=100000/\(∀w∈ws,∃a i x z,w=.ref a/\dO K H a [.int i,.str x,z]/\Tv b z)/\∀zs:qak,zs.Perm ws->∀a,H a=none->Q (.ref a) (upd H a (.lst zs))) (HG b):=by
 intro Z tm O ρ σ H ts vs q Q I h hp k;let(rows,rfl,hl,hr,hq):=hp;let(v,rfl,a):=cA h;let(p,ws,rfl,hs,hv):=a.lst;have e:=hv.length;show#[p,ws,9,hs,(),λw hw=>?_,λzs h1 b hb=>?_];let(t,ht,at'):=xX hv w hw;let(i,x,z,rfl,hz):=hr t ht;let(a,us,rfl,h2,h3):=gN.tup (.inl at');simp only[aB,At] at h3;let(_,_,rfl,rfl,_,_,rfl,rfl,v3,_,rfl,h4,rfl):=h3;show#[a,i,x,v3,9,h2,?_];cases b with
 |_=>let(y,rfl):=hz;simp only[At] at h4;exact#[y,h4]
 let(us,p1,p2):=xW h1 hv;calc k _ (hq us p1) _ _ (aG hb) (I.wZ hb p2)
end TP
namespace PySem
open Sem (wp)
section
variable{d:Addr}{es:Array DictEntry}
def fO(hm:(d==sysModules)=false)(ho:s.heap.get? d\o)(hc:o.cls=.type "dict")(hd:o.data=.dict es ep)(hQ:Q 24 {s with heap:=s.heap.push {cls:=.type "dict_keyiterator",data:=.fields ([.ref d,.int 0 0,.int es.size 0,.int ep 0].toArray)} }):wpAny 15 A (pyIter (.ref d)) Q E s:=by have hT:s.TypeIs (.ref d) "dict":=#[o,ho,hc];show wpAny_pyIter_slot hT PySem.F.slot_dict_iter (ψ PySem.F.slot_dict_iter hT PySem.F.entry_dict_iter (ζ ?_) (PySem.F.args_dict_iter_1 _));unfold Builtin.Dict.dictSlotNone Builtin.Dict.notOrdered;show ζ (ζ (aam hT (η (η (ζ (η ?_))))));unfold Builtin.Dict.showsAll;rw[θ (by rw[hm];decide)];show ζ (η (ζ (aak ho hd (ζ (aao ho hd (ζ (Δ (η #[_,9,"dict_keyiterator",_,#[_,hW _ 9,9],TF.lookup,?_]))))))));calc hQ
theorem fP{Q:(Option Value)->Shared->Prop}(hit:s.heap.IsKeyIter it d i es.size ep)(ho:s.heap.get? d\o)(hd:o.data=.dict es ep){e:DictEntry}(he:es[i]?\e)(h:∀h',h'.IsKeyIter it d (i+1) es.size ep->Heap.SameBut it 42 h'->Q (some e.key) {s with heap:=h'}):wpAny 15 A (pyNext (.ref it)) Q E s:=by
 let(oi,Ua,hci,Sa):=id hit;show ζ (aap (Γ hit.typeIs TF
  (ψ TF hit.typeIs PySem.F.entry_dict_keyiterator_next ?_ (PySem.F.args_dict_keyiterator_next_1 _))))
 wp_delta
 show ζ (ζ (η (η ?_)));have hT:=hit.typeIs;show ζ ?_
 wp_delta
 show ζ ?_
 wp_delta
 show ζ (aae hT (η (ζ (aaG Ua Sa ?_))));change wpAny _ _ (if (Value.ref d==Value.none)=true then _ else _) _ _ _;show ζ (η (ζ (aak ho hd ?_)));rw[θ 4];show ζ (η (ζ (aao ho hd ?_)));rw[θ 4];show η ?_;dsimp only;rw[θ (),show ((i:Int)).toNat=i from kA i,he];dsimp only;show ζ ?_
 wp_delta
 show ζ (aae hT (η (ζ (wpAny_isOneOf_keyiter hT ?_))));rw[θ 17];show ζ (aaw Ua Sa 4 ?_);have g1:=Heap.get?_update_self (Obj.mapFields (·.setIfInBounds (0+1) (rawInt ((i:Int)+1)))) Ua (Obj.isFreed_of_fields (Y4 Sa _));have LZ:(s.heap.update it (Obj.mapFields (·.setIfInBounds (0+1) (rawInt ((i:Int)+1))))).IsKeyIter it d (i+1) es.size ep :=
  #[_,g1,(Obj.cls_mapFields ..).trans hci,by rw[Y4 Sa];simp[rawInt]]
 show ζ (rk ?_)
 wp_delta
 calc ζ (wpAny_isOneOf_keyiter LZ.typeIs (η (η #[_,9,η (h _ LZ (Ux ..))])))
theorem dW{Q:(Option Value)->Shared->Prop}(hh:A.handled=none)(hit:s.heap.IsKeyIter it d i es.size ep)(ho:s.heap.get? d\o)(hd:o.data=.dict es ep)(he:es[i]?=none)(h:∀h',Heap.ExtBut it 42 h'->Q none {s with heap:=h'}):wpAny 15 A (pyNext (.ref it)) Q E s:=by
 let(oi,Ua,hci,Sa):=id hit;show ζ (aap (Γ hit.typeIs TF
  (ψ TF hit.typeIs PySem.F.entry_dict_keyiterator_next ?_ (PySem.F.args_dict_keyiterator_next_1 _))))
 wp_delta
 show ζ (ζ (η (η ?_)));have hT:=hit.typeIs;show ζ ?_
 wp_delta
 show ζ ?_
 wp_delta
 show ζ (aae hT (η (ζ (aaG Ua Sa ?_))));change wpAny _ _ (if (Value.ref d==Value.none)=true then _ else _) _ _ _;show ζ (η (ζ (aak ho hd ?_)));rw[θ 4];show ζ (η (ζ (aao ho hd ?_)));rw[θ 4];show η ?_;dsimp only;rw[θ (),show ((i:Int)).toNat=i from kA i,he];dsimp only;show ζ ?_
 wp_delta
 show ζ (aae hT (η ?_));rw[θ 17];show ζ (aaw Ua Sa 4 (ζ (ζ (m:=firstArgMember _ _) (aaA (by first|rfl|(simp only[firstArgMember];rfl)) (Δ (ζ (wpAny_handled ?_)) (by size_fits))))));rw[show A.in1.handled=none from hh];show ζ (η (wpAny_throw ?_));show ζ (aaz #[_,hW _ 9,9] isSubtype_stop ?_);calc η (h _ (((Ux ..).extBut.push _).push _))
def gj(hit:s.heap.IsKeyIter it d i n ep)(hQ:Q (.ref it) s):wpAny 15 A (pyIter (.ref it)) Q E s:=wpAny_pyIter_slot hit.typeIs PySem.F.slot_dict_keyiterator_iter (ψ PySem.F.slot_dict_keyiterator_iter hit.typeIs PySem.F.entry_dict_keyiterator_iter (η #[_,9,"dict_keyiterator",_,hit.typeIs,TF.lookup,hQ]) (PySem.F.args_dict_keyiterator_iter_1 _))
end
end PySem
namespace VT
open PySem PySem.Spec PyProof.Rows L2
def nK(o:Obj)(i:Nat):Addr:=match o.data with
 |.dict es _=>match es[i]? with
  |some e=>match e.key with
   |.ref b=>b
   |_=>0
  |none=>0
 |_=>0
def Ed(H:Hp)(a:Addr)(o:Obj)(ks:List (List Key)):Prop:=∃vs:qak,ks.length=vs.length/\H a\.f7 o (.dT (ks.zip vs))
def Ed.known(ok:jE P w H h)(z:Ed H a o ks):h.get? a\o/\(a==sysModules)=false/\o.cls=.type "dict"/\∃es ep,o.data=.dict es ep/\es.size=ks.length /\
  ∀(i:Nat)(k:List Key),ks[i]?\k->H (nK o i)\.tup (k.map kV)/\∃e,es[i]?\e/\e.key=.ref (nK o i):=by
 let(vs,hl,ha):=z;let(ho,_,hm,xs,hx,o',es,ep,h1,h2,h3,h4,h5):=(show bL P w H h a (.f7 o (.dT (ks.zip vs))) from ok a _ ha);rw[ho] at h1;cases h1;have hz:es.size=ks.length:=by have e1:=Ko hx;rw[CV,hl,Kq] at e1;rw[<- KH,h4,bN,hl];exact e1.symm
 show#[ho,hm,h2.1,es,ep,h3,hz,λi k hk=>?_];have hi:=(dA.mp hk).1;have hv:vs[i]?\vs[i]'():=gq _;have hp:(ks.zip vs)[i]?\(k,vs[i]'()):=by rw[ZX];exact#[hk,hv]
 let(q,hq,e1,e2,e3):=eF hx hp;have he:es[i]?\entryOfKey (tupleKind (bR P w)) q:=by rw[<- EV,h4,dQ,hq];rfl
 have ek:nK o i=q.2.1:=by unfold nK;rw[h3];dsimp only;rw[he];rfl
 rw[ek];calc#[e2,_,he,9]
def ZF(a:Addr)(o:Obj)(ks:List (List Key)):It :=
 #[λi H=>Ed H a o ks/\i<ks.length,λi H x H'=>H'=H/\∃k,ks[i]?\k/\x=.ref (nK o i)/\H (nK o i)\.tup (k.map kV),λi H=>Ed H a o ks/\ks.length=i]
def Ee{tg:Expr}{es:Array DictEntry}(ks:List (List Key))(a it:Addr)(hd:o.data=.dict es ep):Turn P w K tg (ZF a o ks) [it] it (λi h=>h.IsKeyIter it a i es.size ep) where
 mem:=by simp
 obj:=λi h st b hb=>by
  have e:b=it:=by simpa using hb
  subst e;let(o,e,c,d):=st;exact#[o,e,λv z=>by rw[d] at z;cases z]
 keep:=λi h h' st k=>st.at λo e=>k it 4 o e
 item:=by intro X hP hw hK hc i ε s σ H E I hf st hg;let(ha,hi):=hg;let(ho,_,_,KU,Qh,h3,hz,hk):=ha.known I.bB;rw[hd] at h3;cases h3;let(hb,e,he,ek):=hk i _ (gq hi);let(f0,f1,f2,f3,f4,f5):=hf it 4;show fP st ho hd he λh' bp sb=>?_;have I1:=I.turned (t':=s.toks) (λb o hb e=>(sb.2 b hb).trans e) f0 f1 f3 f4 f5;let(oi,e1,c,d):=id bp;rw[ek];exact#[_,9,wH e1 c d 5 #[.ref (nK o i),H,I1,9,#[9,_,gq hi,9,hb],bp,λb hb=>(hf b hb).1]]
 done:=by intro X hP hw hK hc i ε s σ H E I hf st hg;let(ha,hi):=hg;let(ho,_,_,KU,Qh,h3,hz,hk):=ha.known I.bB;rw[hd] at h3;cases h3;let(f0,f1,f2,f3,f4,f5):=hf it 4;exact dW (I.ok.hd hc) st ho hd (Us ()) λh' eb=>#[9,I.turned (t':=s.toks) (λb o hb e=>eb b o hb e) f0 f1 f3 f4 f5]
 self:=λ_ _ _ _ _ st h=>gj st h
def Xj(tl:TE):TI:=λσ H R=>tl σ H λx H1=>E3 λa o ks=>x=.ref a/\Ed H1 a o ks/\R (ZF a o ks) H1
def B6{tg l:Expr}{tl:TE}(hl:PE X l tl):PI X tg l (Xj tl):=by
 intro ε s σ H R I h;show cy (hl ε s σ H _ I h) λv s1 #[x,H1,I1,r1,a,o,ks,e,ha,q]=>?_;subst e;cases r1;let(ho,hm,hc,es,ep,h3,hz,hk):=ha.known I1.bB;show fO hm ho hc h3 #[52,[52],_,_,H1,9,I1.kept λb o e=>de _ e,Ee ks a _ h3,#[_,hW _ 9,9,9],λb hb=>?_,q];have e:b=52:=by simpa using hb
 subst e;calc I1.nC (cD _) (I1.bB.fresh (cD _))
def kT:Key->T
 |.inl i=>.int i
 |.inr x=>.str x
def HH(k:List Key):T:=.tup (k.map kT)
def Xk{A:zm}(k:Key):At K H A (kT k) (kV k):=by cases k<;>simp only[kT,kV,At]
theorem HI{K:qaf}{H:Hp}{A:zm}:∀k:List Key,aB K H A (k.map kT) (k.map kV)
 |[]=>aB.nil
 |k::ks=>aB.cons (Xk k) (HI ks)
def Ah{A:zm}{b:Addr}{k:List Key}(h:H b\.tup (k.map kV)):At K H A (HH k) (.ref b):=dm (dO.of h) (HI k)
def pN(o:Obj)(ks:List (List Key)):Φ:=ks.zipIdx.map λp=>.pin (nK o p.2) (HH p.1)
def xZ(o:Obj)(ks:List (List Key)):(pN o ks).length=ks.length:=by unfold pN;simp
def HJ(o:Obj)(ks:List (List Key))(i:Nat):(pN o ks)[i]?=ks[i]?.map λk=>.pin (nK o i) (HH k):=by unfold pN;rw[dQ,List.getElem?_zipIdx];cases ks[i]?<;>simp
def r9{A:zm}{ts:Φ}(h:At K H A (.df o ks ts) (.ref a)):Ed H a o ks:=by let(b,vs,e,hl,hd,_):=h;cases e;calc#[vs,hl,hd.1]
def M7{ts:Φ}:Wk K (ZF a o ks) [(.df o ks ts,.ref a)] (ks.map HH):=λH A hA h i=>by have z:=r9 (h _ d_);show#[λhi=>#[z,by simpa using hi],λhi=>#[z,by simpa using hi],λt ht x H' y=>?_];let(rfl,k,hk,rfl,hb):=y;rw[dQ,hk] at ht;cases ht;calc#[aO.refl _,Ah hb]
def HK{ts:Φ}:Wk K (ZF a o ks) [(.df o ks ts,.ref a)] (pN o ks):=λH A hA h i=>by have z:=r9 (h _ d_);rw[xZ];show#[λhi=>#[z,hi],λhi=>#[z,hi],λt ht x H' y=>?_];let(rfl,k,hk,rfl,hb):=y;rw[HJ,hk] at ht;cases ht;calc#[aO.refl _,#[9,Ah hb]]
section
variable{tg l:Expr}
def Xl(f:FE):FI:=λρ Q=>f ρ λt=>match t with
 |.df _ ks _=>Q (ks.map HH)
 |_=>False
def Sb(f:FE):FI:=λρ Q=>f ρ λt=>match t with
 |.df o ks _=>Q (pN o ks)
 |_=>False
theorem M8{f:FE}(h:VE X Z l f):VI X Z tg l (Xl f):=.mk λtm=>PI.weak (B6 (h tm)) λσ H R #[ρ,O,q,I,hf,k]=>#[ρ,O,_,I,hf,λt ht v H' s a=>by
 cases t with
 |df o ks ts=>
  obtain⟨b,rfl⟩:∃b,v=.ref b:=by simp only[At] at a;let(b,_,e,_):=a;exact#[b,e]
  calc#[b,o,ks,9,r9 a,k _ ht _ H' _ s (λp hp=>by rw[f6.mp hp];calc a) M7]
 |_=>calc ht.elim]
theorem x3{f:FE}(h:VE X Z l f):VI X Z tg l (Sb f):=.mk λtm=>PI.weak (B6 (h tm)) λσ H R #[ρ,O,q,I,hf,k]=>#[ρ,O,_,I,hf,λt ht v H' s a=>by
 cases t with
 |df o ks ts=>
  obtain⟨b,rfl⟩:∃b,v=.ref b:=by simp only[At] at a;let(b,_,e,_):=a;exact#[b,e]
  calc#[b,o,ks,9,r9 a,k _ ht _ H' _ s (λp hp=>by rw[f6.mp hp];calc a) HK]
 |_=>calc ht.elim]
end
section
def uM{t:TS}(h:jT X rest t):jT X rest (λD σ H=>∃a aY,H a\.dT aY/\∀o,t D σ (upd H a (.f7 o (.dT aY)))):=by
 intro ε s σ H D I hq;let(a,aY,ha,k):=hq;let(z,y,xs,r,o,es,ep,h1,h2,h3,h4,h5):=(show bL 34 X.w H 42 a (.dT aY) from I.bB a _ ha);have new:bL 34 X.w (upd H a (.f7 o (.dT aY))) 42 a (.f7 o (.dT aY)):=by show#[h1,z,y,xs,Paired.kD r λp q #[e1,e2,e3]=>#[e1,?_,e3],o,es,ep,h1,h2,h3,h4,h5];rw[au];calc e2;intro e;rw[e,ha] at e2;cases e2
 have I':Inv X ε σ (upd H a (.f7 o (.dT aY))) {s with heap:=42,toks:=s.toks}:=I.write (by rw[ha];trivial) 7 (λb u _ q=>q) #[o,h1] new;calc h ε s σ _ D I' (k o)
def az.ice{tm:qab}(I:az K Z tm O ρ σ H){ts:Φ}(hp:aZ Z i)(hi:ρ[i]?\some (.dt ks ts,true)) :
  ∃a vs,H a\.dT (ks.zip vs)/\∀o,az K Z tm (O.set i none) (ρ.set i (some (.df o ks ts,false))) σ (upd H a (.f7 o (.dT (ks.zip vs)))):=by
 let(o',s,h1,h2,a,rfl,rfl,vs,hl,e0,q0):=I.sl i _ hi;have ha:=aC.mpr (dX h1);have EZ:a∈av Z O:=fW _ ha;let(hP,hx,_):=I.own a ha;show#[a,vs,e0,λo=>?_];have apart:∀b,b∈roots (O.set i none)->b≠a:=λb hb e=>by
  subst e;let(j,hj):=Kj.mp (aC.mp hb);rcases get_set hj with⟨_,z,_⟩|⟨ne,z⟩
  cases z;exact ne (xh I z h1)
 have nav:a∉av Z (O.set i none):=λz=>by
  rcases fu.mp z with z|z
  calc apart a z 9;exact hx z
 have fw:∀{t:T}{v:V},At K H (av Z O) t v->At K (upd H a (.f7 o (.dT (ks.zip vs)))) (av Z (O.set i none)) t v:=λq=>(At.wrote EZ e0 9 q).bq (bU i);have Zq:∀{t:Φ}{v:qak},aB K H (av Z O) t v->aB K (upd H a (.f7 o (.dT (ks.zip vs)))) (av Z (O.set i none)) t v:=λq=>(aB.wrote EZ e0 9 q).bq (bU i);show#[by simp[I.lσ],by simp[I.lO],λj e h=>?_,eD _ _ I.nd,λb h=>?_,λp q=>?_,λb h=>?_,λb u e n=>?_,λp q=>fw (I.ku p q)];rcases get_set h with⟨rfl,rfl,Ks⟩|⟨ne,h⟩
 show#[none,some (.ref a),by rw[EU (by rw[I.lO];calc Ks)],h2,9,.ref a,9,?_];calc#[a,vs,9,hl,#[aA,nav],Zq q0];let(o2,s,g1,g2,g3):=I.sl j e h;show#[o2,s,by rw[wm (Ne.symm ne)];calc g1,g2,g3.map (λ_ _ q=>fw q) λb t eb q=>?_];subst eb;show q.map (au ?_) λ_ _ q=>Zq q;intro e;subst e;calc ne (xh I g1 h1);let(g1,g2,u,g3,g4):=I.own b (bT i b h);calc#[g1,g2,u,by rw[au (apart b h)];calc g3,g4];rw[wm (Ne.symm (hp p q))];calc I.par p q;by_cases e:b=a;subst e;calc absurd h hx;rw[au e];calc I.ox b h;rw[au];calc I.keep b u e n;intro eb;subst eb;obtain z|z:=hP
 calc n z;rw[z] at e;cases e
def Xm(i:Nat)(g:FS):FS:=λd ρ=>match ρ[i]? with
 |some (some (.dt ks ts,true))=>∀o,g d (ρ.set i (some (.df o ks ts,false)))
 |_=>False
def uN{g:FS}(i:Nat)(hp:aZ Z i)(h:iQ X Z rest g):iQ X Z rest (Xm i g):=.mk λtm=>jT.kN (uM (h tm)) λD σ H #[ρ,O,d,I,q,F]=>by
 unfold Xm at q;split at q
 rename_i ks ts e
 let(a,vs,e1,k):=I.ice hp e;calc#[a,_,e1,λo=>#[_,_,d,k o,q o,F]];calc q.elim
end
def pO:Φ->Option (List Key)
 |[]=>some []
 |t::ts=>match Mq t,pO ts with
  |some k,some ks=>some (k::ks)
  |_,_=>none
theorem jj{K:qaf}{H:Hp}{A:zm}:∀{ts:Φ}{vs:qak}{k:List Key},aB K H A ts vs->pO ts\k->vs=k.map kV
 |[],vs,k,h,e=>by cases e;calc h
 |t::ts,vs,k,h,e=>by
  let(v,r,rfl,h1,h2):=h;simp only[pO] at e;split at e
  rename_i k' ks e1 e2
  cases e;rw[ux (.inl h1) e1,jj h2 e2];rfl;cases e
section
variable{κ:Type}[DecidableEq κ]
def cx:List κ->List α->κ->Option α
 |k::ks,t::ts,x=>if k=x then some t else cx ks ts x
 |_,_,_=>none
def lq(ks:List κ)(x:κ):Bool:=ks.any λk=>decide (k=x)
def j1(ks:List κ)(x:κ):List κ:=if lq ks x=true then ks else ks++[x]
def iM(ks:List κ)(ts:List α)(x:κ)(u:α):List α:=if lq ks x=true then List.zipWith (λk t=>if k=x then u else t) ks ts else ts++[u]
def HL(ts:List α)(x:κ):cx [] ts x=none:=by cases ts<;>rfl
theorem gX:∀(ks:List κ)(vs:qak)(x:κ),iJ (ks.zip vs) x=cx ks vs x
 |[],vs,x=>by rw[HL];rfl
 |k::ks,[],x=>rfl
 |k::ks,v::vs,x=>by simp only[cx,Oj];by_cases e:k=x;rw[ι e,ja e];rw[θ e,jb e];calc gX ks vs x
theorem jB{K:qaf}{H:Hp}{A:zm}:∀{ks:List κ}{ts:Φ}{vs:qak}{x:κ},aB K H A ts vs->(∀t,cx ks ts x\t->∃v,cx ks vs x\v/\At K H A t v)/\(cx ks ts x=none->cx ks vs x=none)
 |[],ts,vs,x,h=>by show#[λt e=>?_,λ_=>rfl];cases e
 |k::ks,[],vs,x,h=>by subst h;calc#[λt e=>(by cases e),λ_=>rfl]
 |k::ks,t::ts,vs,x,h=>by let(v,r,rfl,h1,h2):=h;simp only[cx];by_cases e:k=x;rw[ι e,ι e];calc#[λt e=>by cases e;calc#[v,9,h1],λq=>by cases q];rw[θ e,θ e];calc jB h2
def HM(ks:List κ)(vs:qak)(x:κ)(hl:ks.length=vs.length):((ks.zip vs).any λkv=>decide (kv.1=x))=lq ks x:=by
 unfold lq;induction ks generalizing vs with
 |nil=>rfl
 |cons k ks ih=>
  cases vs with
  |nil=>simp at hl
  |cons v vs=>rw[Oj,CZ,CZ,ih vs (by simpa using hl)]
def Xn(ks:List κ)(vs:qak)(x:κ)(v:V):(ks.zip vs).map (λkv=>if kv.1=x then (kv.1,v) else kv)=ks.zip (List.zipWith (λk t=>if k=x then v else t) ks vs):=by
 induction ks generalizing vs with
 |nil=>rfl
 |cons k ks ih=>
  cases vs with
  |nil=>rfl
  |cons u vs=>simp only[Oj,fj,Z4];rw[ih vs];by_cases e:k=x;rw[ι e,ι e];rw[θ e,θ e]
def x4(ks:List κ)(vs:qak)(x:κ)(v:V)(hl:ks.length=vs.length):L2.putK (ks.zip vs) x v=(j1 ks x).zip (iM ks vs x v)/\(j1 ks x).length=(iM ks vs x v).length:=by unfold L2.putK j1 iM;rw[HM ks vs x hl];by_cases e:lq ks x=true;rw[ι e,ι e,ι e];calc#[Xn ks vs x v,by simp[hl]];rw[θ e,θ e,θ e];show#[?_,by simp[hl]];rw[List.zip_append hl];rfl
def pP{A:zm}{ks:List κ}{ts:Φ}{x:κ}{t:T}(h:aB K H A ts vs)(ht:At K H A t v):aB K H A (iM ks ts x t) (iM ks vs x v):=by
 unfold iM;by_cases e:lq ks x=true;rw[ι e,ι e];clear e;induction ks generalizing ts vs with
 |nil=>simp only[List.zipWith_nil_left];calc aB.nil
 |cons k ks ih=>
  cases ts with
  |nil=>subst h;calc aB.nil
  |cons t0 ts=>let(v0,r,rfl,h1,h2):=h;simp only[Z4];show aB.cons ?_ (ih h2);by_cases q:k=x;rw[ι q,ι q];calc ht;rw[θ q,θ q];exact h1
 rw[θ e,θ e];calc h.append (aB.cons ht aB.nil)
def B7{A:zm}{ks:List κ}{ts:Φ}{k:κ}{z:T}{w:V}(h:aB K H A ts vs)(hz:At K H A z w):At K H A ((cx ks ts k).getD z) ((cx ks vs k).getD w):=by
 cases e:cx ks ts k with
 |none=>rw[(jB h).2 e];calc hz
 |some t=>let(v,e1,e2):=(jB h).1 t e;rw[e1];calc e2
end
section
variable{a:Expr}{fc:FE}{pos:Pos}
def Sd:FP:=λ_ Q=>Q (.fr (.dt [] []))
def pQ:VP X Z (.Dict [] [] pos) Sd:=.mk λtm=>PE.weak ph λσ H Q #[ρ,O,q,I,hf,k] p hp=>by show k _ hf _ _ (aG hp) ?_;let(n1,n2,n3):=I.fresh hp;calc#[p,9,I.new hp 9,#[[],9,aA,aB.nil],n3,n2]
def HN(n:Nat)(f:FE)(g:FA):FS:=λd ρ=>match ρ[n]? with
 |some (some (.dt ks ts,true))=>f ρ λv=>g ρ λys=>match pO ys with
  |some k=>(ys.length<=sizeLine/\19<16777216)/\d.nx (ρ.set n (some (.dt (j1 ks k) (iM ks ts k v),true)))
  |none=>False
 |_=>False
theorem HP(n:Nat){f:FE}{x1}{qK:Pos}(hu:X.A.units+1<cLine)(he:VE X Z e f)(hi:VA X Z es g)(hN:X.N[n]?\x:=by rfl)(hv:lN 29 x:=by calc jvv 9)(hd:fY x:=by decide)(f9:qy x:=by decide)(hs:swapsWith e (some (.Subscript 51 (.Tuple es x1 qK) dj)) pos.line 3=pure false:=by rfl) :
  VS X Z (.Assign [.Subscript 51 (.Tuple es x1 qK) dj] e pos) (HN n f g):=.mk λtm=>
 PS.weak (k8 hu (cc hN hv hd f9) (j8 (hi tm)) (he tm) hs) λD σ H #[ρ,O,d,I,q,F]=>by
  unfold HN at q;split at q
  rename_i ks ts e0
  let(l,h1,h2,xs,hl,h3,h4):=I.root e0;have ha:l∈av Z O:=fW _ (aC.mpr (dX h1));show#[ρ,O,_,I,q,λt ht v H1 s1 a1=>#[.ref l,h2,ρ,O,_,I.same s1,ht,λys hy ws H2 s2 a2=>?_]];split at hy
  rename_i kk ek
  let((hsz,hlen),hj):=hy;show#[by rw[a2.length];calc hsz,λp0 Se=>?_];have s3:aO H2 (upd H2 p0 (.tup ws)):=aG Se;have R4:=s3 _ _ (s2 _ _ (s1 _ _ h3));have q:=x4 ks xs kk v hl;have hz:(ks.zip xs).length<sizeLine:=by
   rw[π,CV,hl,Kq,h4.length]
   lia
  have hb:upd H2 p0 (.tup ws) p0\.tup (kk.map kV):=by rw[jj a2 ek];exact aA
  show#[l,_,9,qV.t R4 hb hz,?_];rw[q.1];show F.nx O _ σ _ ((((I.same s1).same s2).same s3).wrote (t':=.dt (j1 ks kk) (iM ks ts kk t)) e0 h1 #[iM ks xs kk v,q.2,aA,?_]) hj;calc aB.wrote ha R4 9 (pP (((h4.same s1).same s2).same s3) ((a1.same s2).same s3));calc hy.elim;calc q.elim
def Xo(fa:FE)(g:FA):FP:=λρ Q=>fa ρ λx=>g ρ λys=>match x,pO ys with
 |.df _ ks ts,some k=>ys.length<=sizeLine/\∃t,cx ks ts k\t/\Q (.vw t)
 |_,_=>False
def M9{x1}{qK:Pos}(hu:X.A.units+1<cLine)(ha:VR X Z a fa)(hb:VA X Z es g)(hs:DZ (.Tuple es x1 qK):=by intro _ _;rfl):VP X Z (.Subscript a (.Tuple es x1 qK) pos) (Xo fa g):=.mk λtm=>PE.weak (n_ hu (ha tm) (j8 (hb tm)) hs) λσ H Q #[ρ,O,q,I,hf,k] =>
 #[ρ,O,_,I,hf,λx hx v H1 s1 a1=>#[ρ,O,_,I.same s1,hx,λys hy ws H2 s2 a2=>by
  split at hy
  rename_i o ks ts kk e
  let(hsz,t,e1,hq):=hy;show#[by rw[a2.length];calc hsz,λp0 Se=>?_];have s3:aO H2 (upd H2 p0 (.tup ws)):=aG Se;let(l,vs,rfl,hl,hd,hv):=((a1.same s2).same s3).df;let(u,e2,e3):=(jB hv).1 t e1;have hb:upd H2 p0 (.tup ws) p0\.tup (kk.map kV):=by rw[jj a2 e];exact aA
  calc#[l,u,9,.inr #[_,kk,p0,.inr #[o,hd],9,hb,by rw[gX,e2]],k _ hq _ _ ((s1.trans s2).trans s3) #[((I.same s1).same s2).same s3,e3]];calc hy.elim]]
def adM(fa:FE)(g:FA)(fc:FE):FP:=λρ Q=>fa ρ λx=>match x with
 |.df _ ks ts=>g ρ λys=>match pO ys with
  |some k=>ys.length<=sizeLine/\fc ρ λz=>Q (.vw ((cx ks ts k).getD z))
  |none=>False
 |_=>False
def HQ{x1}{qK:Pos}(hu:X.A.units+1<cLine)(ha:VR X Z a fa)(hb:VA X Z es g)(hc:VE X Z c fc)(m:M2 X a "get" apos (.Tuple es x1 qK) c bF):VP X Z (.Call (.Attribute a "get" apos) [.Tuple es x1 qK,c] [] bF) (adM fa g fc):=.mk λtm=>PE.weak (xM hu (ha tm) (j8 (hb tm)) (hc tm) m) λσ H Q #[ρ,O,q,I,hf,k] =>
 #[ρ,O,_,I,hf,λx hx v H1 s1 a1=>by
  split at hx
  rename_i o ks ts
  let(l,vs,rfl,hl,hd,hv):=a1.df;show#[l,9,.inr #[_,.inr #[o,hd]],ρ,O,_,I.same s1,hx,λys hy ws H2 s2 a2=>?_];split at hy
  rename_i kk e
  show#[by rw[a2.length];calc hy.1,λp0 Se=>?_];have s3:aO H2 (upd H2 p0 (.tup ws)):=aG Se;show#[ρ,O,_,((I.same s1).same s2).same s3,hy.2,λz hz u H3 s4 a3=>?_];have hb:H3 p0\.tup (kk.map kV):=s4 _ _ (by rw[<- jj a2 e];calc aA);show#[_,.inr #[_,kk,p0,.inr #[o,s4 _ _ (s3 _ _ (s2 _ _ hd))],9,hb,9],?_];rw[gX];calc k _ hz _ H3 (((s1.trans s2).trans s3).trans s4) #[(((I.same s1).same s2).same s3).same s4,B7 (((hv.same s2).same s3).same s4) a3];calc hy.elim;calc hx.elim]
def Sg{t:TE}(h:PE X e t):PE X e (λσ H Q=>t σ H λv H1=>(∃hp,jE 34 X.w H1 hp)->Q v H1):=by intro ε s σ H Q I hq;calc cy (h ε s σ H _ I hq) λv s1 #[x,H1,I1,r1,q]=>#[x,H1,I1,r1,q #[s1.heap,I1.bB]]
def Xp(fa fb:FE):FP:=λρ Q=>fa ρ λx=>fb ρ λy=>match x,y with
 |.df o ks ts,.pin b _=>∃i k t,b=nK o i/\ks[i]?\k/\cx ks ts k\t/\Q (.vw t)
 |_,_=>False
def oa(hu:X.A.units+1<cLine)(ha:VR X Z a fa)(hb:VR X Z b fb)(hs:DZ b:=by intro _ _;rfl):VP X Z (.Subscript a b pos) (Xp fa fb):=.mk λtm=>PE.weak (n_ hu (ha tm) (Sg (hb tm)) hs) λσ H Q #[ρ,O,q,I,hf,k] =>
 #[ρ,O,_,I,hf,λx hx v H1 s1 a1=>#[ρ,O,_,I.same s1,hx,λy hy w H2 s2 a2=>by
  intro bB;split at hy
  rename_i o ks ts b0 t0
  let(i,kk,t,rfl,hi,e1,hq):=hy;let(hp,bB):=bB;let(l,vs,rfl,hl,hd,hv):=(a1.same s2).df;let(u,e2,e3):=(jB hv).1 t e1;let(_,_,_,_,_,_,_,hk):=Ed.known bB #[vs,hl,hd];have ew:w=.ref (nK o i):=by
   obtain a2|⟨a,_,r⟩:=a2
   simp only[At] at a2;calc a2.1;exact r.elim
  calc#[l,u,9,.inr #[_,kk,_,.inr #[o,hd],ew,(hk i kk hi).1,by rw[gX,e2]],k _ hq _ H2 (s1.trans s2) #[(I.same s1).same s2,e3]];calc hy.elim]]
def adN:T->T
 |.pin _ t=>t
 |t=>t
def adO(f:FE):FE:=λρ Q=>f ρ λt=>Q (adN t)
theorem uO(h:VR X Z e fa):VR X Z e (adO fa):=.mk λtm=>PE.weak (h tm) λσ H Q #[ρ,O,q,I,hf,k]=>#[ρ,O,_,I,hf,λt ht v H' s z=>by
 show k _ ht v H' s ?_;cases t with
 |pin b t=>
  obtain z|⟨a,_,r⟩:=z
  simp only[At] at z;calc .inl z.2;calc r.elim
 |_=>calc z]
end
end VT
namespace PySem
open Sem (wp)
section
variable{d:Addr}{es:Array DictEntry}{ok ov:Value}
def jN{v:Addr}(hv:s.heap.IsItemsView v d)(ho:s.heap.get? d\o)(hd:o.data=.dict es ep)(hQ:Q 24 {s with heap:=s.heap.push {cls:=.type "dict_itemiterator",data:=.fields ([.none,.bool false,.ref d,.int 0 0,.int es.size 0,.int ep 0,.none,.none].toArray)} }):wpAny 15 A (pyIter (.ref v)) Q E s:=by
 let(o2,hov,hcv,hdv):=id hv;show wpAny_pyIter_slot hv.typeIs PySem.F.slot_dict_items_iter (ψ PySem.F.slot_dict_items_iter hv.typeIs PySem.F.entry_dict_items_iter (ζ (η (ζ (ζ (Λ hov hdv 9 (η (ζ (ζ (aak ho hd (ζ (aao ho hd ?_))))))))))) (PySem.F.args_dict_items_iter_1 _));have own:Builtin.Dict_items.ownsTuple "dict_itemiterator"=true:=by decide
 simp only[own,aaK];show Δ (η #[_,9,"dict_itemiterator",_,#[_,hW _ 9,9],Up.lookup,?_]) (by simp[sizeOk,Builtin.Dict_items.ownedTupleFields,π]);simpa[rawInt,Builtin.Dict_items.ownedTupleFields] using hQ
theorem jO{Q:(Option Value)->Shared->Prop}{e:DictEntry}(hit:IsItemIter 42 it d i es.size ep ok ov)(ho:s.heap.get? d\o)(hd:o.data=.dict es ep)(he:es[i]?\e)(hQ:∀h',IsItemIterOut h' it d (i+1) es.size ep e.key e.val 8->h'.get? 8=some {cls:=.type "tuple",data:=.seq ([e.key,e.val].toArray)}->h'.objs.size=8+1 ->
    (∀b u,b≠it->s.heap.get? b\u->h'.get? b\u)->Q (some 24) {s with heap:=h'}):wpAny 15 A (pyNext (.ref it)) Q E s:=by
 let(hp,g,dr,tk,os):=s;have hT:Shared.TypeIs #[hp,g,dr,tk,os] (.ref it) "dict_itemiterator":=#[_,hit,9];show ζ (aap (Γ hT Up
  (ψ Up hT PySem.F.entry_dict_itemiterator_next ?_ (PySem.F.args_dict_itemiterator_next_1 _))))
 show ζ (η (ζ (ζ ?_)))
 first|show ζ (aab hT (η ?_))|show ζ (aah hT (η ?_))
 show ζ (aaG hit 9 ?_);have own:Builtin.Dict_items.ownsTuple "dict_itemiterator"=true:=by decide
 show ζ (η (ζ (aak ho hd ?_)));rw[θ 4];show ζ (η (ζ (aao ho hd ?_)));rw[θ 4];show η ?_;simp only[show ¬ (i<0) from by lia,aaJ,kA,he];show ζ ?_
 first|show ζ (aab hT (η ?_))|show ζ (aah hT (η ?_))
 show ζ (aay hT ?_);change wpAny _ _ (setField (.ref it) 03 (rawInt (i+1)) >>= _) _ _ #[hp,g,dr,tk,os];show ζ (Θ hit 4 λh₁ he₁ zO=>?_);have hT₁:Shared.TypeIs #[h₁,g,dr,tk,os] (.ref it) "dict_itemiterator":=#[_,he₁,9];show ζ (rk (ζ (aay hT₁ (ζ (aay hT₁ (ζ (wpAny_newTuple ?_)))))));have QY:IsItemIter (h₁.push {cls:=.type "tuple",data:=.seq ([e.key,e.val].toArray)}) it d (i+1) es.size ep ok ov:=de _ he₁;generalize hh₂:h₁.push {cls:=.type "tuple",data:=.seq ([e.key,e.val].toArray)}=h₂ at QY;have Gb:=zO.1;have hil:=dB hit;have ht₂:h₂.get? hp.objs.size=some {cls:=.type "tuple",data:=.seq ([e.key,e.val].toArray)}:=by rw[<- hh₂,<- Gb];exact hW _ 9
 have T_:h₂.objs.size=hp.objs.size+1:=by rw[<- hh₂,CW,Gb]
 have hk₂:∀b u,b≠it->hp.get? b\u->h₂.get? b\u:=λb u hb e=>by rw[<- hh₂];exact de _ (zO.extBut b u hb e)
 change wpAny _ _ (Builtin.Dict_items.ownedTupleIsFree (.ref it) >>= _) _ _ #[h₂,g,dr,tk,os];rw[Gb];show ζ (ζ (Λ QY 9 9 (η (ζ (Λ QY 9 9 (ζ (Λ QY 9 9 (ζ (Θ QY 4 λh₃ he₃ yW=>ζ (Θ he₃ 4 λh₄ he₄ E_=>ζ (Θ he₄ 4 λh₅ he₅ Fb=>ζ (Θ he₅ 4 λh₆ he₆ hs₆=>?_))))))))))));have KW:=C0 hil;show ζ (wpAny_letGo (η (η #[_,9,η (hQ h₆ he₆ ?_ ?_ ?_)])));calc hs₆.extBut _ _ KW (Fb.extBut _ _ KW (E_.extBut _ _ KW (yW.extBut _ _ KW ht₂)));rw[hs₆.1,Fb.1,E_.1,yW.1,T_];calc λb u hb e=>hs₆.extBut b u hb (Fb.extBut b u hb (E_.extBut b u hb (yW.extBut b u hb (hk₂ b u hb e))))
theorem ir{Q:(Option Value)->Shared->Prop}(hh:A.handled=none)(hit:IsItemIter 42 it d i es.size ep ok ov)(ho:s.heap.get? d\o)(hd:o.data=.dict es ep)(he:es[i]?=none)(hQ:∀h',Heap.ExtBut it 42 h'->Q none {s with heap:=h'}):wpAny 15 A (pyNext (.ref it)) Q E s:=by
 have hT:s.TypeIs (.ref it) "dict_itemiterator":=#[_,hit,9];show ζ (aap (Γ hT Up
  (ψ Up hT PySem.F.entry_dict_itemiterator_next ?_ (PySem.F.args_dict_itemiterator_next_1 _))))
 show ζ (η (ζ (ζ ?_)))
 first|show ζ (aab hT (η ?_))|show ζ (aah hT (η ?_))
 show ζ (aaG hit 9 ?_);have own:Builtin.Dict_items.ownsTuple "dict_itemiterator"=true:=by decide
 show ζ (η (ζ (aak ho hd ?_)));rw[θ 4];show ζ (η (ζ (aao ho hd ?_)));rw[θ 4];show η ?_;simp only[show ¬ (i<0) from by lia,aaJ,kA,he];show ζ ?_
 first|show ζ (aab hT (η ?_))|show ζ (aah hT (η ?_))
 change wpAny _ _ (setField (.ref it) 2 .none >>= _) _ _ s;show ζ (aaw hit 9 4 (ζ (ζ (m:=firstArgMember _ _) (aaA (by first|rfl|(simp only[firstArgMember];rfl)) (Δ (ζ (wpAny_handled ?_)) (by size_fits))))));rw[show A.in1.handled=none from hh];show ζ (η (wpAny_throw ?_));show ζ (aaz #[_,hW _ 9,9] isSubtype_stop ?_);calc η (hQ _ (((Ux ..).extBut.push _).push _))
end
end PySem
namespace VT
open PySem PySem.Spec PyProof.Rows L2
def HR(a d:Addr):HO:=.ext λh=>h.get? a=some {cls:=.type "dict_items",data:=.fields ([.ref d].toArray)}
def Iti(a:Addr)(o:Obj)(ks:List (List Key)):It :=
 #[λi H=>Ed H a o ks/\i<ks.length,λi H x H'=>∃k v p vs,ks[i]?\k/\ks.length=vs.length/\H a\.f7 o (.dT (ks.zip vs))/\vs[i]?\v/\H (nK o i)\.tup (k.map kV)/\H p=none/\x=.ref p/\H'=upd H p (.tup [.ref (nK o i),v]),λi H=>Ed H a o ks/\ks.length=i]
def Ed.entry{es:Array DictEntry}(ok:jE P w H h)(z:Ed H a o ks)(hd:o.data=.dict es ep)(hi:i<ks.length) :
  ∃k v vs e,ks[i]?\k/\ks.length=vs.length/\H a\.f7 o (.dT (ks.zip vs))/\vs[i]?\v/\H (nK o i)\.tup (k.map kV)/\es[i]?\e/\e.key=.ref (nK o i)/\RelV v e.val:=by
 let(vs,hl,ha):=z;let(ho,_,hm,xs,hx,o',KU,Qh,h1,h2,h3,h4,h5):=(show bL P w H h a (.f7 o (.dT (ks.zip vs))) from ok a _ ha);rw[ho] at h1;cases h1;rw[hd] at h3;cases h3;have hv:vs[i]?\vs[i]'():=gq _;have hk:=gq hi;have hp:(ks.zip vs)[i]?\(ks[i],vs[i]'()):=by rw[ZX];exact#[hk,hv]
 let(q,hq,e1,e2,e3):=eF hx hp;have he:es[i]?\entryOfKey (tupleKind (bR P w)) q:=by rw[<- EV,h4,dQ,hq];rfl
 have ek:nK o i=q.2.1:=by unfold nK;rw[hd];dsimp only;rw[he];rfl
 calc#[ks[i],vs[i]'(),vs,_,hk,hl,ha,hv,by rw[ek];calc e2,he,by rw[ek];rfl,e3]
def Ai{x1}{es:Array DictEntry}(ks:List (List Key))(a it:Addr)(hd:o.data=.dict es ep) :
  Turn P w K (.Tuple elts x1 tp) (Iti a o ks) [it] it (λi h=>∃ok ov,IsItemIter h it a i es.size ep ok ov) where
 mem:=by simp
 obj:=λi h st b hb=>by
  have e:b=it:=by simpa using hb
  subst e;let(ok,ov,st):=st;exact#[_,st,λv z=>by cases z]
 keep:=λi h h' #[ok,ov,st] k=>#[ok,ov,k it 4 _ st]
 item:=by
  intro X hP hw hK hc i ε s σ H E I hf st hg;let(ok,ov,st):=st;let(ha,hi):=hg;let(ho,_,_,_):=ha.known I.bB;let(k,v,vs,e,hk,hl,hH,hv,hb,he,ek,rv):=ha.entry I.bB hd hi;show jO st ho hd he λh' bp tup sz old=>#[_,9,wpAny_letOwnedTupleGo_items bp λh2 tu sb=>?_];have Zh:=sb;have dc:=dB st;have KW:=C0 dc;have kk:∀b ob,b∉[it]->s.heap.get? b\ob->h2.get? b\ob:=λb ob hb q=>by have VU:b≠it:=λz=>hb (by simp[z]);exact (Zh.2 b VU).trans (old b ob VU q)
  have new:bL 34 X.w (upd H 8 (.tup [.ref (nK o i),v])) h2 8 (.tup [.ref (nK o i),v]) :=
   #[by change 2<=sizeLine;rw[π];decide,[e.key,e.val],.cons (by rw[ek];rfl) (.cons rv .nil),#[_,(Zh.2 _ KW).trans tup,9,_,9]]
  show#[.ref 8,_,I.grown kk hf (cD _) new,9,#[k,v,_,vs,hk,hl,hH,hv,hb,I.fresh,9,9],#[_,_,tu],λb hb=>?_];have e:b=it:=by simpa using hb
  subst e;rw[au (gr dc)];exact (hf b hb).1
 done:=by intro X hP hw hK hc i ε s σ H E I hf st hg;let(ok,ov,st):=st;let(ha,hi):=hg;let(ho,_,_,KU,Qh,h3,hz,hk):=ha.known I.bB;rw[hd] at h3;cases h3;let(f0,f1,f2,f3,f4,f5):=hf it 4;exact ir (I.ok.hd hc) st ho hd (Us ()) λh' eb=>#[9,I.turned (λb o hb e=>eb b o hb e) f0 f1 f3 f4 f5]
 self:=λA i s Q E #[ok,ov,st] h=>W.kcp_self st h
def Sh(tl:TE):TI:=λσ H R=>tl σ H λx H1=>E3 λa o ks=>x=.ref a/\Ed H1 a o ks/\∀p,H1 p=none->R (Iti a o ks) (upd H1 p (HR p a))
def HS{x1}{l:Expr}{tl:TE}(hl:PE X l tl)(dC:attributeBase l "items" 3 (eval l 3)=eval l 3:=by rfl)(dD:(apos.endLine==bF.line)=true:=by rfl) :
  PI X (.Tuple elts x1 tp) (.Call (.Attribute l "items" apos) [] [] bF) (Sh tl):=by
 intro ε s σ H R I h;show wpAny_Call_method0_late dC dD (cy (hl ε s σ H _ I h) λv s1 #[x,H1,I1,r1,d,o,ks,e,hz,q1]=>?_);subst e;obtain rfl:=r1;let(ho,hm,hc,es,ep,h3,Xh,hk):=hz.known I1.bB;have hD:IsD H1 d:=.inr (let #[vs,_,e]:=hz;#[_,.inr #[o,e]]);let(t1,t2,_):=Hg I1 hD;show#["dict","dict.items",YN,PySem.F.slot_dict_items,PySem.F.type_dict_items,t1,t2,YO 9 (PySem.evalArgs_none (ψ PySem.F.slot_dict_items t1 PySem.F.entry_dict_items (ζ (ζ (wpAny_notOrdered_dict t1 (η ?_)))) (PySem.F.args_dict_items_1 _)))];unfold Builtin.Dict.showsAll;rw[θ (by rw[hm];calc jq)];show ζ (η (ζ (Δ (η #[_,9,?_]))));have I2:Inv X ε σ (upd H1 52 (HR 52 d)) {s1 with heap:=s1.heap.push {cls:=.type "dict_items",data:=.fields ([.ref d].toArray)} } :=
  I1.laid (λb o e=>de _ e) (cD _) #[hW _ 9,#[_,hW _ 9],λh1 h2 z k=>k _ z]
 show jN #[_,hW _ 9,9,9] (de _ ho) h3 ?_;show#[_,[(s1.heap.push {cls:=.type "dict_items",data:=.fields ([.ref d].toArray)}).objs.size],_,_,_,9,I2.kept λb o e=>de _ e,Ai ks d _ h3,#[.none,.none,hW _ 9],λb hb=>?_,q1 _ I1.fresh];have e:b=(s1.heap.push {cls:=.type "dict_items",data:=.fields ([.ref d].toArray)}).objs.size:=by simpa using hb
 subst e;calc I2.nC (cD _) (I2.bB.fresh (cD _))
def ZG(p:List Key×T):T:=.tup [HH p.1,p.2]
def HU{ts:Φ}(hl:ks.length=19):Wk K (Iti a o ks) [(.df o ks ts,.ref a)] ((ks.zip ts).map ZG):=λH A hA h i=>by
 have hs:=h _ d_;have z:=r9 hs;have ez:((ks.zip ts).map ZG).length=ks.length:=by rw[bN,CV,hl,Kq]
 rw[ez];show#[λhi=>#[z,hi],λhi=>#[z,hi],λt ht x H' y=>?_];let(k,v,p,vs,hk,hv,hH,hvi,hb,hp,rfl,rfl):=y;let(b,jW,e,Ks,hd,hq):=hs;cases e;have e1:=hd.1;rw[hH] at e1;have e2:ks.zip vs=ks.zip jW:=by injection e1 with e1;injection e1 with _ e1;injection e1
 have e3:jW=vs:=by have:=fv (List.map Prod.snd) e2;rw[List.map_snd_zip (),List.map_snd_zip ()] at this;exact this.symm
 subst e3;have hi:=(dA.mp hk).1;have hti:ts[i]?\ts[i]'():=gq _;rw[dQ,show (ks.zip ts)[i]?\(k,ts[i]'()) from by rw[ZX];calc#[hk,hti]] at ht;cases ht;let(v',g1,g2):=hq.get hti;rw[hvi] at g1;cases g1;have s:aO H (upd H p (.tup [.ref (nK o i),v])):=aG hp;calc#[s,dm (dO.of aA) (aB.cons ((Ah hb).same s) (aB.cons (g2.same s) aB.nil))]
section
variable{l:Expr}
def Si(f:FE):FI:=λρ Q=>f ρ λt=>match t with
 |.df _ ks ts=>ks.length=19/\Q ((ks.zip ts).map ZG)
 |_=>False
def HV{f:FE}{x1}(h:VE X Z l f)(dC:attributeBase l "items" 3 (eval l 3)=eval l 3:=by rfl)(dD:(apos.endLine==bF.line)=true:=by rfl) :
  VI X Z (.Tuple elts x1 tp) (.Call (.Attribute l "items" apos) [] [] bF) (Si f):=.mk λtm=>PI.weak (HS (h tm) dC dD) λσ H R #[ρ,O,q,I,hf,k]=>#[ρ,O,_,I,hf,λt ht v H' s a=>by
 cases t with
 |df o ks ts=>
   obtain⟨b,rfl⟩:∃b,v=.ref b:=by simp only[At] at a;let(b,_,e,_):=a;exact#[b,e]
   show#[b,o,ks,9,r9 a,λp hp=>?_];have s2:aO H' (upd H' p (HR p b)):=aG hp;calc k _ ht.2 _ _ [(.df o ks ts,.ref b)] (s.trans s2) (λp hp=>by rw[f6.mp hp];calc a.same s2) (HU ht.1)
 |_=>calc ht.elim]
end
structure MG where
 a:Addr
 dx:Addr
 a1:Addr
 a2:Addr
 C:Addr
 H0:Hp
 n1:a≠a1
 n2:a≠a2
 n3:a1≠a2
 hb:Bool
def MG.Ox(M:MG):zm:=if M.hb=true then [M.a,M.a1,M.a2] else [M.a1,M.a2]
def MG.m1(M:MG):M.a1∈M.Ox:=by unfold MG.Ox;split<;>simp
def MG.m2(M:MG):M.a2∈M.Ox:=by unfold MG.Ox;split<;>simp
def MG.mem(M:MG){b:Addr}(h:b∈M.Ox):(M.hb=true/\b=M.a)\/b=M.a1\/b=M.a2:=by
 unfold MG.Ox at h;split at h
 rename_i z
 simp only[cT,eh,Ψ] at h;calc h.elim (λe=>.inl #[z,e]) .inr;simp only[cT,eh,Ψ] at h;calc .inr h
structure S2 where
 k1:List (List Key)
 t1:Φ
 k2:List (List Key)
 t2:Φ
abbrev fN:ω:=["names","cells"]
def Sj(K:qaf)(H:Hp)(A:zm)(a:Addr)(ks:List (List Key))(ts:Φ):Prop:=∃vs,ks.length=vs.length/\H a\.dT (ks.zip vs)/\aB K H A ts vs
structure SD(K:qaf)(M:MG)(s:S2)(H:Hp):Prop where
 ins:M.hb=true->H M.a\.ins M.C M.dx (fN.zip [.ref M.a1,.ref M.a2])
 d1:Sj K H M.Ox M.a1 s.k1 s.t1
 d2:Sj K H M.Ox M.a2 s.k2 s.t2
 fr:∀b o,M.H0 b\o->b∉M.Ox->H b\o
structure SG(K:qaf)(M:MG)(tm:qab)(ρ:En)(s:S2)(σ:St)(H:Hp):Prop where
 env:∃O,roots O=[]/\az K #[H,[],M.Ox] tm O ρ σ H
 sd:SD K M s H
section
variable{M:MG}{tm:qab}{s:S2}
def Sj.same{A:zm}{ts:Φ}(h:Sj K H A a ks ts)(sm:aO H H'):Sj K H' A a ks ts:=let #[vs,l,e,q]:=h;#[vs,l,sm _ _ e,q.same sm]
def SD.same(h:SD K M s H)(sm:aO H H'):SD K M s H':=#[λz=>sm _ _ (h.ins z),h.d1.same sm,h.d2.same sm,λb o e n=>sm _ _ (h.fr b o e n)]
def SD.here(h:SD K M s H):∀b∈M.Ox,∃u,H b\u/\nG u=true:=λb hb=>by
 let(v1,_,e1,_):=h.d1;let(v2,_,e2,_):=h.d2;rcases M.mem hb with⟨z,rfl⟩|rfl|rfl
 calc#[_,h.ins z,9];calc#[_,e1,9];calc#[_,e2,9]
def eI(h:roots O=[]):av Z O=Z.Ox:=by unfold av;rw[h];rfl
def iu(ρ:En):Bool:=ρ.all λe=>match e with
 |some (_,true)=>false
 |_=>true
def og(I:az K Z tm O ρ σ H)(h:iu ρ=true):roots O=[]:=by
 cases q:roots O with
 |nil=>rfl
 |cons a l=>
  exfalso;have ha:=aC.mp (by rw[q];calc d_);let(i,hi):=Kj.mp ha;have hl:i<ρ.length:=by rw[<- I.lO];exact (dA.mp hi).1
  have he:=gq hl;let(o,s,h1,h2,h3):=I.sl i _ he;rw[hi] at h1;cases h1;have hv:=KJ.mp h ρ[i] (CU hl);revert h3 hv
  match ρ[i] with
  |none=>intro h3 _;cases h3
  |some (t,false)=>intro h3 _;calc nomatch h3.1
  |some (t,true)=>intro _ hv;cases hv
def az.now(I:az K Z tm O ρ σ H)(h:roots O=[]):az K #[H,[],Z.Ox] tm O ρ σ H:=#[I.lσ,I.lO,I.sl,I.nd,λa ha=>(by rw[h] at ha;calc absurd ha eh),λp hp=>absurd hp eh,I.ox,λb o e _=>e,I.ku]
def SG.of(hZ:Z=#[H,[],M.Ox]){ρ':En}{σ':St}(d:SD K M s H)(I:az K Z tm O ρ' σ' H')(hv:iu ρ'=true):SG K M tm ρ' s σ' H':=by subst hZ;calc#[#[O,og I hv,I.now (og I hv)],d.same λb o e=>I.keep b o e (λz=>absurd z eh)]
def m5(M:MG)(s:S2):Option (T×Bool)->Option (T×Bool)
 |some (.ob x,false)=>if x=M.a1 then some (.dt s.k1 s.t1,false) else if x=M.a2 then some (.dt s.k2 s.t2,false) else if x=M.a/\M.hb=true then some (.ins M.C fN [.pin M.a1 (.dt s.k1 s.t1),.pin M.a2 (.dt s.k2 s.t2)],false) else some (.ob x,false)
 |e=>e
def adP(M:MG)(s:S2)(z:M.hb=true):m5 M s (some (.ob M.a,false))\(.ins M.C fN [.pin M.a1 (.dt s.k1 s.t1),.pin M.a2 (.dt s.k2 s.t2)],false):=by change (if M.a=M.a1 then _ else _)=_;rw[θ M.n1,θ M.n2,ι #[9,z]]
def adQ(M:MG)(s:S2):m5 M s (some (.ob M.a1,false))\(.dt s.k1 s.t1,false):=by change (if M.a1=M.a1 then _ else _)=_;rw[ι 9]
def iR(b:Option T):Option (T×Bool):=b.map λt=>(t,false)
def jk:iu []=true:=rfl
def pR(b:Option T)(ρ:En):iu (iR b::ρ)=iu ρ:=by cases b<;>rfl
def pS(t:T)(ρ:En):iu (some (t,false)::ρ)=iu ρ:=rfl
def Sj.at{A:zm}{ts:Φ}(h:Sj K H A a ks ts):At K H [] (.dt ks ts) (.ref a):=by let(vs,l,e,q):=h;calc#[a,vs,9,l,#[e,λz=>nomatch z],q.bq λb hb=>nomatch hb]
def SD.at(h:SD K M s H)(z:M.hb=true):At K H [] (.ins M.C fN [.pin M.a1 (.dt s.k1 s.t1),.pin M.a2 (.dt s.k2 s.t2)]) (.ref M.a):=by show#[M.a,M.dx,[.ref M.a1,.ref M.a2],9,9,#[h.ins z,λz=>nomatch z],aB.cons ?_ (aB.cons ?_ aB.nil)];unfold At;calc#[9,h.d1.at];unfold At;calc#[9,h.d2.at]
def SG.up(g:SG K M tm ρ s σ H):∃O,roots O=[]/\az K #[H,[],[]] tm O (ρ.map (m5 M s)) σ H:=by
 let(O,hr,I):=g.env;show#[O,hr,#[by rw[bN];calc I.lσ,by rw[bN];calc I.lO,λi e he=>?_,I.nd,λa ha=>(by rw[hr] at ha;calc absurd ha eh),λp hp=>absurd hp eh,λa ha=>absurd ha eh,λb o e _=>e,λp hp=>?_]];have e0:av #[H,[],[]] O=[]:=eI hr;rw[dQ] at he;cases q:ρ[i]? with
 |none=>rw[q] at he;cases he
 |some e1=>
  rw[q] at he;cases he;let(o,sv,h1,h2,h3):=I.sl i e1 q;show#[o,sv,h1,h2,?_];rw[e0];have plain:iY K H [] e1 o sv:=by show h3.map (λt v z=>z.bq λb hb=>nomatch hb) λa t eo _=>?_;subst eo;have:=aC.mpr (dX h1);rw[hr] at this;exact nomatch this
  match e1,h3,plain with
  |some (.ob x,false),#[eo,v,es,av'],plain=>subst av';change iY K H [] (if x=M.a1 then _ else _) o sv;by_cases c1:x=M.a1;rw[ι c1];subst c1;calc#[eo,_,es,g.sd.d1.at];rw[θ c1];by_cases c2:x=M.a2;rw[ι c2];subst c2;calc#[eo,_,es,g.sd.d2.at];rw[θ c2];by_cases c3:x=M.a/\M.hb=true;rw[ι c3];let(rfl,c4):=c3;calc#[eo,_,es,g.sd.at c4];rw[θ c3];calc plain
  |none,_,plain=>calc plain
  |some (t,true),_,plain=>
   have:m5 M s (some (t,true))\(t,true):=by cases t<;>rfl
   rw[this];calc plain
  |some (.bO,false),_,plain=>calc plain
  |some (.bl _,false),_,plain=>calc plain
  |some (.int _,false),_,plain=>calc plain
  |some (.str _,false),_,plain=>calc plain
  |some (.tup _,false),_,plain=>calc plain
  |some (.lst _,false),_,plain=>calc plain
  |some (.dk _ _,false),_,plain=>calc plain
  |some (.dt _ _,false),_,plain=>calc plain
  |some (.df _ _ _,false),_,plain=>calc plain
  |some (.kt _,false),_,plain=>calc plain
  |some (.ins _ _ _,false),_,plain=>calc plain
  |some (.pin _ _,false),_,plain=>calc plain
  |some (.ty _,false),_,plain=>exact plain
 rw[eI hr];calc (I.ku p hp).bq λb hb=>nomatch hb
end
structure Fd where
 nx:En->S2->Prop
 rt:S2->T->Prop
 bk:En->S2->Prop:=λ_ _=>False
 ct:En->S2->Prop:=λ_ _=>False
structure HW(K:qaf)(M:MG)(tm:qab)(d:Fd)(D:Ends):Prop where
 nx:∀ρ s σ H,SG K M tm ρ s σ H->d.nx ρ s->D.nx σ H
 rt:∀s H t v,SD K M s H->At K H M.Ox t v->d.rt s t->D.rt v H
 bk:∀ρ s σ H,SG K M tm ρ s σ H->d.bk ρ s->D.bk σ H
 ct:∀ρ s σ H,SG K M tm ρ s σ H->d.ct ρ s->D.ct σ H
abbrev kz:=Fd->En->S2->Prop
def Ub(X:Cx)(M:MG)(tm:qab)(g:kz):TS:=λD σ H=>∃ρ s d,SG X.K M tm ρ s σ H/\g d ρ s/\HW X.K M tm d D
def GS(X:Cx)(M:MG)(st:Stmt)(g:kz):Prop:=Bx λtm=>PS X st (Ub X M tm g)
def Fe(X:Cx)(M:MG)(st:qaq)(g:kz):Prop:=Bx λtm=>jT X st (Ub X M tm g)
section
variable{M:MG}{st:Stmt}{g u:kz}{pos:Pos}
def Xq:kz:=λd ρ s=>d.nx ρ s
def Xr(g u:kz):kz:=λd ρ s=>g {d with nx:=u d} ρ s
def M_:Fe X M [] Xq:=.mk λtm=>jT.kN Bh λD σ H #[ρ,s,d,I,h,F]=>F.nx ρ s σ H I h
def eJ(h1:GS X M st g)(h2:Fe X M rest u):Fe X M (st::rest) (Xr g u):=.mk λtm=>jT.kN (iT (h1.h tm) (h2.h tm)) λD σ H #[ρ,s,d,I,h,F] =>
 #[ρ,s,{d with nx:=u d},I,h,#[λρ' s' σ' H' I' h'=>#[ρ',s',d,I',h',F],F.rt,F.bk,F.ct]]
def gk(h1:GS X M st g):Fe X M [st] g:=.mk λtm=>kH (h1.h tm)
def Xs(d:Fd)(s:S2):LR:={nx:=λρ'=>iu ρ'=true/\d.nx ρ' s,rt:=λρ' r=>iu ρ'=true/\d.rt s r.t,bk:=λρ'=>iu ρ'=true/\d.bk ρ' s,ct:=λρ'=>iu ρ'=true/\d.ct ρ' s}
def wPl(g:FS):kz:=λd ρ s=>g (Xs d s) ρ
def Xu{tm:qab}{d:Fd}{D:Ends}{s:S2}(F:HW K M tm d D)(sd:SD K M s H):Fin K #[H,[],M.Ox] tm (Xs d s) D :=
 #[λO ρ σ H' I h=>F.nx ρ s σ H' (SG.of 9 sd I h.1) h.2,λO ρ σ H' r v z h=>by have I:=z.env;have hr:=og I h.1;have a:=z.at;rw[eI hr] at a;calc F.rt s H' r.t v (sd.same λb o e=>I.keep b o e (λq=>absurd q eh)) a h.2,λO ρ σ H' I h=>F.bk ρ s σ H' (SG.of 9 sd I h.1) h.2,λO ρ σ H' I h=>F.ct ρ s σ H' (SG.of 9 sd I h.1) h.2]
def gY{g:FS}(h:∀H0 Ox,VS X #[H0,[],Ox] st g):GS X M st (wPl g):=.mk λtm ε s' σ H D J #[ρ,s,d,S,hg,F]=>by let(O,hr,I):=S.env;calc h H M.Ox tm ε s' σ H D J #[ρ,O,_,I,hg,Xu F S.sd]
def wIf(c:FB)(g u:kz):kz:=λd ρ s=>c ρ λb=>if b=true then g d ρ s else u d ρ s
def SG.d7{tm:qab}{s:S2}(S:SG K M tm ρ s σ H)(sm:aO H H'):SG K M tm ρ s σ H':=by let(O,hr,I):=S.env;calc#[#[O,hr,(I.same sm).now hr],S.sd.same sm]
theorem Xv{a b:qaq}(hc:∀H0 Ox,VC X #[H0,[],Ox] c fc)(ha:Fe X M a g)(hb:Fe X M b u):GS X M (.If c a b pos) (wIf fc g u):=.mk λtm ε s' σ H D J #[ρ,s,d,S,hg,F]=>by
 let(O,hr,I):=S.env;show Ov (hc H M.Ox tm) (ha.h tm) (hb.h tm) ε s' σ H D J #[ρ,O,_,I,hg,λb hb H' sm=>?_];cases b with
 |true=>rw[ι 9] at hb ⊢;calc#[ρ,s,d,S.d7 sm,hb,F]
 |false=>rw[θ jq] at hb ⊢;calc#[ρ,s,d,S.d7 sm,hb,F]
def lr(t:T):Prop:=(∃n,t=.int n)\/∃b,t=.bl b
def HX(M:MG)(i:Nat)(f:FE):kz:=λd ρ s=>f (ρ.map (m5 M s)) λt=>lr t/\d.nx (ρ.set i (some (t,false))) s
def pT{A A':zm}{t:T}(h:lr t)(a:At K H A t v):At K H' A' t v:=by
 obtain⟨n,rfl⟩|⟨b,rfl⟩:=h
 simp only[At] at a ⊢;calc a;simp only[At] at a ⊢;calc a
def HY{f:FE}(hN:X.N.Nodup)(hi:X.N[i]?\x)(hx:Loc 29 x)(he:∀H0 Ox,VE X #[H0,[],Ox] e f)(hs:swapsWith e (some (.Name x pos')) pos.line 3=pure false:=by rfl)(hf:X.fn x=true\/X.env.scope.names.lookup x\.local:=by first|calc .inl rfl|calc .inr rfl|assumption):GS X M (.Assign [.Name x pos'] e pos) (HX M i f):=.mk λtm ε s' σ H D J #[ρ,s,d,S,hg,F]=>by
 let(O2,yY,I2):=S.up;show tf hN hi hx (he H [] tm) hs hf ε s' σ H D J #[_,O2,_,I2,hg,λt ht v H' sm a=>?_];have S':=S.d7 sm;let(O3,hr3,I3):=S'.env;show F.nx _ s _ H' #[#[O3.set i none,?_,?_],S'.sd] ht.2;cases q:roots (O3.set i none) with
 |nil=>rfl
 |cons b l=>have:=bT i b (by rw[q];calc d_);rw[hr3] at this;exact absurd this eh
 calc I3.put (λp hp=>absurd hp eh) (pT ht.1 a)
def S2.Aj(s:S2)(k:List Key)(t:T):S2:={s with k1:=j1 s.k1 k,t1:=iM s.k1 s.t1 k t}
def Pk(M:MG)(n m:Nat)(f:FE):kz:=λd ρ s=>f (ρ.map (m5 M s)) λt=>lr t/\ρ[n]?\some (.ob M.a1,false)/\s.t1.length<16777216/\∃k,ρ[m]?\some (.kt k,false)/\d.nx ρ (s.Aj k t)
theorem r_{tm:qab}{s:S2}{H1:Hp}{A:zm}{D:Ends}{d:Fd}{t:T}{k:List Key}(S1:SG X.K M tm ρ s σ H1)(F:HW X.K M tm d D)(Kx:lr t)(a:At X.K H' A t v)(hn:ρ[n]?\some (.ob M.a1,false))(hlen:s.t1.length<16777216)(hk:ρ[m]?\some (.kt k,false))(hq:d.nx ρ (s.Aj k t)) :
  Fv n σ H1 λx H2=>Fv m σ H2 λy H3=>∃a H4,x=.ref a/\qV H3 a y v H4/\D.nx σ H4:=by
 let(O1,se,I1):=S1.env;let(_,_,_,z1,_,v1,rfl,b1):=I1.sl n _ hn;let(_,_,_,z2,_,v2,rfl,b2):=I1.sl m _ hk;subst b1;let(b,rfl,hb,_):=b2;let(vs,hl,h1,h2):=S1.sd.d1;have hz:(s.k1.zip vs).length<sizeLine:=by
  rw[π,CV,hl,Kq,h2.length]
  lia
 have pq:=x4 s.k1 vs k v hl;show#[.ref M.a1,z1,.ref b,z2,M.a1,_,9,qV.t h1 hb hz,?_];rw[pq.1];have MX:=M.m1;have wr:∀{t:T}{v':V},At X.K H1 M.Ox t v'->At X.K (upd H1 M.a1 (.dT ((j1 s.k1 k).zip (iM s.k1 vs k v)))) M.Ox t v':=λq=>At.wrote MX h1 9 q;have Xw:∀{t:Φ}{v':qak},aB X.K H1 M.Ox t v'->aB X.K (upd H1 M.a1 (.dT ((j1 s.k1 k).zip (iM s.k1 vs k v)))) M.Ox t v':=λq=>aB.wrote MX h1 9 q;have na:=M.n1;show F.nx ρ (s.Aj k t) σ _ #[#[O1,se,I1.lσ,I1.lO,λi e he=>?_,I1.nd,λb hb=>(by rw[se] at hb;calc absurd hb eh),λp hp=>absurd hp eh,λb hb=>?_,λb o e _=>e,λp hp=>?_],?_,?_,?_,λb o e n=>(by rw[au (λz=>n (by rw[z];calc MX))];calc S1.sd.fr b o e n)] hq;let(o,sv,g1,g2,g3):=I1.sl i e he;show#[o,sv,g1,g2,?_];rw[eI se] at g3 ⊢;show g3.map (λt v z=>wr z) λb t' eo _=>?_;subst eo;have:=aC.mpr (dX g1);rw[se] at this;calc absurd this eh;by_cases e:b=M.a1;rw[e,aA];simp;rw[au e];let(u,eu,_):=S1.sd.here b hb;rw[eu];simp;have:=I1.ku p hp;rw[eI se] at this ⊢;calc wr this;exact λz=>by rw[au na];exact S1.sd.ins z
 calc#[_,pq.2,aA,Xw (pP h2 (pT Kx a))];let(jl,l2,e2,q2):=S1.sd.d2;calc#[jl,l2,by rw[au (Ne.symm M.n3)];calc e2,Xw q2]
def M'(n m:Nat){f:FE}(hu:X.A.units+1<cLine)(he:∀H0 Ox,VE X #[H0,[],Ox] e f)(hN:X.N[n]?\x:=by rfl)(hv:lN 29 x:=by calc jvv 9)(hd:fY x:=by decide)(f9:qy x:=by decide)(Pm:X.N[m]?\y:=by rfl)(Pn:lN 29 y:=by calc jvv 9)(hd2:fY y:=by decide)(qY:qy y:=by decide)(hs:swapsWith e (some (.Subscript 51 (.Name y p2) dj)) pos.line 3=pure false:=by rfl):GS X M (.Assign [.Subscript 51 (.Name y p2) dj] e pos) (Pk M n m f):=.mk λtm ε s' σ H D J #[ρ,s,d,S,hg,F]=>by let(O2,yY,I2):=S.up;show k8 hu (cc hN hv hd f9) (cc Pm Pn hd2 qY) (he H [] tm) hs ε s' σ H D J #[_,O2,_,I2,hg,λt ht v H1 sm a=>?_];let(Kx,hn,hlen,k,hk,hq):=ht;calc r_ (S.d7 sm) F Kx a hn hlen hk hq
def B8(ts:Φ)(h:FG)(g:kz):kz:=λd ρ s=>∃Pv:Nat->En->S2->Prop,Pv 0 ρ s/\(∀(i:Nat) t ρ' s',ts[i]?\t->Pv i ρ' s'->h t ρ' λρ2=>iu ρ2=true/\g {nx:=Pv (i+1),ct:=Pv (i+1),bk:=d.nx,rt:=d.rt} ρ2 s')/\∀ρ' s',Pv 19 ρ' s'->d.nx ρ' s'
theorem my{h:FG}{tm bj:qab}{s:S2}{d:Fd}{D:Ends}{ts:Φ}{J:It}(hK:X.K=K)(S:SG K M (bj++tm) ρ s σ H)(wk:Wk K J bj ts)(F:HW K M tm d D)(hl:B8 ts h g d ρ s) :
  ∃W:Nat->Nat->St->Hp->Prop,(∃m,W 0 m σ H)/\∀i m σ H,W i m σ H->(J.stop i H/\D.nx σ H)\/(J.go i H/\∃N:St->Hp->Prop,(∀σ' H',N σ' H'->∃m',m'<m/\W (i+1) m' σ' H') /\
   ∀x H',J.TX i H x H'->(∃bj H0,lG X #[H0,[],M.Ox] (bj++tm) is h x σ H' λσ2 H2=>(∃bj,Ub X M (bj++tm) g {D with nx:=N,ct:=N,bk:=D.nx} σ2 H2))):=by
 subst hK;let(Pv,p0,step,fin):=hl;have un:∀{ρ:En}{s:S2}{σ:St}{H:Hp},SG X.K M (bj++tm) ρ s σ H->SG X.K M tm ρ s σ H:=λ#[#[O,hr,I],sd]=>#[#[O,hr,I.qQ λp hp=>I.ku p (gE _ hp)],sd];show#[λi m σ H=>m=19-i/\i<=19/\∃ρ s,SG X.K M (bj++tm) ρ s σ H/\Pv i ρ s,#[19,by simp,gJ _,ρ,s,S,p0],?_];rintro i m σ1 H1 ⟨rfl,hi,ρ1,s1,S1,p1⟩;let(O1,se,I1):=S1.env;let(w1,w2,w3):=wk H1 M.Ox (λa ha=>by let(u,e,_):=S1.sd.here a ha;rw[e];simp) (λp hp=>by have:=I1.ku p (fW _ hp);rw[eI se] at this;calc this) i;by_cases dc:i<19;show .inr #[w1 dc,λσ' H'=>∃ρ s,SG X.K M (bj++tm) ρ s σ' H'/\Pv (i+1) ρ s,λσ' H' #[ρ',s',S',p']=>#[19-(i+1),(),9,dc,ρ',s',S',p'],λx H2 y=>?_];have e:ts[i]?\ts[i]:=by simp[dc]
 let(s2,a2):=w3 ts[i] e x H2 y;have S2':=S1.d7 s2;let(O2,yY,I2):=S2'.env;calc#[bj,H2,ρ1,O2,ts[i],_,I2,by rw[eI yY];calc a2,step i _ ρ1 s1 e p1,λρ2 h2 O3 σ3 I3 _ _ _ _=>#[bj,ρ2,s1,_,SG.of 9 S2'.sd I3 h2.1,h2.2,#[λρ s σ H I p=>#[ρ,s,I,p],λs H t v sd a p=>F.rt s H t v sd a p,λρ s σ H I p=>F.nx ρ s σ H (un I) p,λρ s σ H I p=>#[ρ,s,I,p]]]];have e:i=19:=by lia
 subst e;calc .inl #[w2 9,F.nx ρ1 s1 σ1 H1 (un S1) (fin ρ1 s1 p1)]
def adR(f:FI)(h:FG)(g:kz):kz:=λd ρ s=>f ρ λts=>B8 ts h g d ρ s
def SG.temps{tm bj:qab}{s:S2}(S:SG K M tm ρ s σ H)(h:∀p∈bj,At K H M.Ox p.1 p.2):SG K M (bj++tm) ρ s σ H:=by
 let(O,hr,I):=S.env;show#[#[O,hr,I.qQ λp hp=>?_],S.sd];rcases fu.mp hp with z|z
 rw[eI hr];calc h p z;calc I.ku p z
def HZ{tg:Expr}{f:FI}{h:FG}(hp:PassesOwn 16 X.A 3 X.xe)(hc:X.calm=true)(hi:∀H0 Ox,VI X #[H0,[],Ox] tg iter f)(hg:∀H0 Ox,VG X #[H0,[],Ox] tg is h)(hb:Fe X M body g)(hs:∀x,foldedSetIterable iter 3 x=pure x:=by intro _;rfl):GS X M (.For tg iter body [] pos) (adR f h g):=by show .mk λtm ε s' σ H D J #[ρ,s,d,S,hq,F]=>?_;let(O,hr,I):=S.env;show tq (g:=λv σ H Q=>∃bj H0,lG X #[H0,[],M.Ox] (bj++tm) is h v σ H Q) (tb:=λD σ H=>∃bj,Ub X M (bj++tm) g D σ H) hp hc (hi H M.Ox tm) (λε s σ H v u Q I r #[bj,H0,z]=>hg H0 M.Ox (bj++tm) ε s σ H v u Q I r z) (λε s σ H D I #[bj,z]=>hb.h (bj++tm) ε s σ H D I z) hs ε s' σ H D J #[ρ,O,_,I,hq,λts gF J' H' bj sm a wk=>?_];rw[eI hr] at a;calc my 9 ((S.d7 sm).temps a) wk F gF
def opq:T->Option T
 |.tup [.pin a _,.kt k,.int w]=>some (.tup [.ob a,.kt k,.int w])
 |.kt k=>some (.kt k)
 |_=>none
def Ef:Φ->Option (Φ)
 |[]=>some []
 |t::ts=>match opq t,Ef ts with
  |some u,some us=>some (u::us)
  |_,_=>none
def Sk{A:zm}{t u:T}(hA:∀b∈A,∃o,H b\o/\nG o=true)(e:opq t\u)(a:At K H [] t v):At K H A u v:=by
 unfold opq at e;split at e
 rename_i a' t' k w
 cases e;let(b,us,rfl,h2,h3):=gN.tup (.inl a);let(_,_,rfl,(rfl,_),_,_,rfl,(kb,rfl,hk),_,_,rfl,rfl,rfl):=h3;exact dm h2 (aB.cons (by simp only[At]) (aB.cons #[kb,9,hk] (aB.cons bJ aB.nil)))
 rename_i k
 cases e;let(kb,rfl,hk):=a;calc#[kb,9,hk];cases e
theorem B9{K:qaf}{H:Hp}{A:zm}(hA:∀b∈A,∃o,H b\o/\nG o=true):∀{ts us:Φ}{vs:qak},Ef ts\us->aB K H [] ts vs->aB K H A us vs
 |[],us,vs,e,a=>by cases e;calc a
 |t::ts,us,vs,e,a=>by
  simp only[Ef] at e;split at e
  rename_i u G8 e1 e2
  cases e;let(v,r,rfl,h1,h2):=a;calc aB.cons (Sk hA e1 h1) (B9 hA e2 h2);cases e
def H_(M:MG)(f:FE)(h:FG)(g:kz):kz:=λd ρ s=>f (ρ.map (m5 M s)) λt=>match t with
 |.lst us=>∃ts,Ef us\ts/\B8 ts h g d ρ s
 |_=>False
def Na{tg:Expr}{f:FE}{h:FG}(hp:PassesOwn 16 X.A 3 X.xe)(hc:X.calm=true)(hi:∀H0 Ox,VE X #[H0,[],Ox] iter f)(hg:∀H0 Ox,VG X #[H0,[],Ox] tg is h)(hb:Fe X M body g)(hs:∀x,foldedSetIterable iter 3 x=pure x:=by intro _;rfl):GS X M (.For tg iter body [] pos) (H_ M f h g):=by
 show .mk λtm ε s' σ H D J #[ρ,s,d,S,hq,F]=>?_;let(O2,yY,I2):=S.up;show tq (g:=λv σ H Q=>∃bj H0,lG X #[H0,[],M.Ox] (bj++tm) is h v σ H Q) (tb:=λD σ H=>∃bj,Ub X M (bj++tm) g D σ H) hp hc (zJ (hi H [] tm)) (λε s σ H v u Q I r #[bj,H0,z]=>hg H0 M.Ox (bj++tm) ε s σ H v u Q I r z) (λε s σ H D I #[bj,z]=>hb.h (bj++tm) ε s σ H D I z) hs ε s' σ H D J #[_,O2,_,I2,hq,λt ht v H' sm a=>?_];split at ht
 rename_i us
 let(ts,et,hl):=ht;rw[eI yY] at a;let(l,vs,rfl,ZH,hv):=a;have S':=S.d7 sm;have at':At X.K H' M.Ox (.lst ts) (.ref l):=by
  show#[l,vs,9,?_,B9 S'.sd.here et hv];obtain z|z:=ZH
  show .inl #[z.1,λm=>?_];let(o,eo,mo):=S'.sd.here l m;obtain q|⟨o',q⟩:=z.1
  rw[eo] at q;cases q;let(_,_,e1,_):=S'.sd.d1;let(_,_,e2,_):=S'.sd.d2;rcases M.mem m with⟨zb,rfl⟩|rfl|rfl
  rw[S'.sd.ins zb] at eo;cases eo;rw[e1] at eo;cases eo;rw[e2] at eo;cases eo;rw[eo] at q;cases q;cases mo;exact .inr z
 calc .inl #[l,9,#[vs,ZH.sq],my 9 (S'.temps λp hp=>by rw[f6.mp hp];calc at') tS F hl];calc ht.elim
end
section
variable{a:Expr}{fc:FE}{pos:Pos}
def Po(g:FA):FP:=λρ Q=>g ρ λys=>match pO ys with
 |some k=>ys.length<=sizeLine/\Q (.vw (.kt k))
 |none=>False
def cq{x1}(h:VA X Z es g):VP X Z (.Tuple es x1 pos) (Po g):=.mk λtm=>PE.weak (j8 (h tm)) λσ H Q #[ρ,O,q,I,hf,k]=>#[ρ,O,_,I,hf,λys hy vs H1 s1 a1=>by
 split at hy
 rename_i kk ek
 show#[by rw[a1.length];calc hy.1,λp hp=>?_];have s2:aO H1 (upd H1 p (.tup vs)):=aG hp;calc k _ hy.2 _ _ (s1.trans s2) #[(I.same s1).same s2,#[p,9,by rw[<- jj a1 ek];calc aA,λz=>nomatch z]];calc hy.elim]
def Nb:T->Option (List (List Key)×Φ)
 |.dt ks ts=>some (ks,ts)
 |.pin _ (.dt ks ts)=>some (ks,ts)
 |.df _ ks ts=>some (ks,ts)
 |_=>none
def ZI(H:Hp)(a:Addr)(u:List (List Key×V)):Prop:=H a=some (.dT u)\/∃o,H a\.f7 o (.dT u)
def ZI.same{a:Addr}{u:List (List Key×V)}(h:ZI H a u)(sm:aO H H'):ZI H' a u:=h.elim (λz=>.inl (sm _ _ z)) λ#[o,z]=>.inr #[o,sm _ _ z]
def B_{A:zm}{t:T}{ts:Φ}(h:gN K H A t v)(e:Nb t\(ks,ts)):∃a vs,v=.ref a/\ks.length=vs.length/\ZI H a (ks.zip vs)/\aB K H A ts vs:=by
 unfold Nb at e;split at e;cases e;let(a,vs,h1,h2,h3,h4):=h.dt;calc#[a,vs,h1,h2,.inl h3,h4];cases e;obtain h|⟨_,_,r⟩:=h
 simp only[At] at h;let(_,h):=h;let(a,vs,h1,h2,h3,h4):=gN.dt (.inl (by simp only[At];calc h));calc#[a,vs,h1,h2,.inl h3,h4];calc r.elim;cases e;let(a,vs,h1,h2,h3,h4):=h.df;calc#[a,vs,h1,h2,.inr #[_,h3],h4];cases e
def Ak(fa fb fc:FE):FP:=λρ Q=>fa ρ λx=>match Nb x with
 |some (ks,ts)=>fb ρ λy=>fc ρ λz=>match y with
  |.kt k=>Q (.vw ((cx ks ts k).getD z))
  |_=>False
 |none=>False
def d8(hu:X.A.units+1<cLine)(ha:VR X Z a fa)(hb:VE X Z b fb)(hc:VE X Z c fc)(m:M2 X a "get" apos b c bF):VP X Z (.Call (.Attribute a "get" apos) [b,c] [] bF) (Ak fa fb fc):=.mk λtm=>PE.weak (xM hu (ha tm) (hb tm) (hc tm) m) λσ H Q #[ρ,O,q,I,hf,k] =>
 #[ρ,O,_,I,hf,λx hx v H1 s1 a1=>by
  split at hx
  rename_i ks ts ed
  let(l,vs,rfl,hl,hd,hv):=B_ a1 ed;show#[l,9,.inr #[_,hd],ρ,O,_,I.same s1,hx,λy hy w H2 s2 a2=>#[ρ,O,_,(I.same s1).same s2,hy,λz hz u H3 s3 a3=>?_]];split at hz
  rename_i kk
  let(b,rfl,hb,_):=a2;show#[_,.inr #[_,kk,b,(hd.same s2).same s3,9,s3 _ _ hb,9],?_];rw[gX];calc k _ hz _ H3 ((s1.trans s2).trans s3) #[((I.same s1).same s2).same s3,B7 ((hv.same s2).same s3) a3];calc hz.elim;calc hx.elim]
def Ia(fa fb:FE):FP:=λρ Q=>fa ρ λx=>fb ρ λy=>match Nb x,y with
 |some (ks,ts),.kt k=>∃t,cx ks ts k\t/\Q (.vw t)
 |_,_=>False
def Nc(hu:X.A.units+1<cLine)(ha:VR X Z a fa)(hb:VE X Z b fb)(hs:DZ b:=by intro _ _;rfl):VP X Z (.Subscript a b pos) (Ia fa fb):=.mk λtm=>PE.weak (n_ hu (ha tm) (hb tm) hs) λσ H Q #[ρ,O,q,I,hf,k] =>
 #[ρ,O,_,I,hf,λx hx v H1 s1 a1=>#[ρ,O,_,I.same s1,hx,λy hy w H2 s2 a2=>by
  split at hy
  rename_i ks ts kk ed
  let(t,e1,hq):=hy;let(l,vs,rfl,hl,hd,hv):=B_ (a1.same s2) ed;let(u,e2,e3):=(jB hv).1 t e1;let(b,rfl,hb,_):=a2;calc#[l,u,9,.inr #[_,kk,b,hd,9,hb,by rw[gX,e2]],k _ hq _ H2 (s1.trans s2) #[(I.same s1).same s2,e3]];calc hy.elim]]
end
def Pp(K:qaf)(C:Addr)(G:T->S2->(S2->T->Prop)->Prop):Sp:=λvs H Q _=>E5 λ(M:MG) (s:S2) (l:T) (v0:V) (q:S2->T->Prop)=>(M.C=C/\M.hb=true)/\vs=[v0,.ref M.a]/\At K H M.Ox l v0/\SD K {M with H0:=H} s H/\G l s q /\
 ∀s' t,q s' t->∀v H',SD K {M with H0:=H} s' H'->At K H' M.Ox t v->Q v H'
section
def fnG{st:Stmt}{N:ω}{k:Nat}{G:T->S2->(S2->T->Prop)->Prop}(F:Dr K x qual st f fd)(S:aI N ps (aq st))(hn:2=ps.length)(hN:2<=N.length)(fA:∀(bP:Value) (A:Around) (outer:List Env) (s:Shared) (H:Hp) (E:XK) (M:MG),M.C=C->M.hb=true->bA k (A.deeper (envOfC qual (aq st) 8 f bP))->∀l s0 q,G l s0 q ->
    ∃g,Fe (j_ iP P w K mg base N qual (aq st) f bP A outer s H E).C4 M (cn st) g/\g {nx:=λ_ _=>False,rt:=q} (some (l,false)::some (.ob M.a,false)::List.replicate (N.length-2) none) s0) :
  dz P w K mg base iP (k+1) f fd ps (Pp K C G):=by
 show F.ok S (λvs H Q E h=>?_) (λbP A outer s H vs Q E hr h=>?_);let(M,s,l,v0,q,_,rfl,_):=h;calc hn;let(M,s0,l,v0,q,(hC,hB),rfl,a0,sd,hG,kk):=h;let(g,hg,hq):=fA bP A outer s H E {M with H0:=H} hC hB hr l s0 q hG;show#[_,hg.h [],_,s0,_,#[#[List.replicate N.length none,fK _,?_],sd],hq,#[λ_ _ _ _ _ z=>z.elim,λs' H' t v sd' a z=>kk s' t z v H' sd' a,λ_ _ _ _ _ z=>z.elim,λ_ _ _ _ _ z=>z.elim]];have:=mn (ts:=[l,.ob M.a]) (vs:=[v0,.ref M.a]) (by simpa using hN) (λb hb=>by let(u,e,_):=sd.here b hb;rw[e];simp) (aB.cons a0 (aB.cons (by simp only[At]) aB.nil));calc this
end
end VT
variable{M:VT.MG}
namespace BS
open PySem PySem.Builtin PyProof.Rows
def ib(x:Int)(k:Nat):Bool:=decide (x / 2 ^ k % 2=1)
def two_pos(k:Nat):(0:Int)<2 ^ k:=Int.pow_pos 5
def gZ(k:Nat):((2 ^ k:Nat):Int)=2 ^ k:=by rw[Int.natCast_pow];rfl
def cP(n k:Nat):ib (n:Int) k=n.testBit k:=by
 unfold ib;rw[Nat.testBit_eq_decide_div_mod_eq,<- gZ];have:(n / ((2 ^ k:Nat):Int) % 2=1)↔(n / 2 ^ k % 2=1):=by rw[<- Int.natCast_ediv];lia
 calc decide_eq_decide.mpr this
def fQ(x:Int)(k:Nat):ib (bitNot x) k=!ib x k:=by
 unfold ib bitNot;have h:(-x-1) / 2 ^ k=-(x / 2 ^ k)-1:=by
  have hp:=two_pos k;have e1:=Int.mul_ediv_add_emod x (2 ^ k);show (Int.ediv_emod_unique hp (r:=2 ^ k-1-x % 2 ^ k)).mpr #[?_,?_,?_] |>.1
  have:2 ^ k * (-(x / 2 ^ k)-1)=-(2 ^ k * (x / 2 ^ k))-2 ^ k:=by rw[Int.mul_sub,Int.mul_neg,Int.mul_one]
  rw[this];lia;omega;omega
 by_cases q:x / 2 ^ k % 2=1;rw[ο q,ς ()];rfl;rw[ς q,ο ()];rfl
def Am{x y:Int}(h:∀k,ib x k=ib y k):x=y:=by
 have pos:∀(m n:Nat),(∀k,ib m k=ib n k)->m=n:=λm n q=>Nat.eq_of_testBit_eq λk=>by rw[<- cP,<- cP];exact q k
 have mix:∀(m:Nat) y,¬ 0<=y->¬ ∀k,ib m k=ib y k:=by intro m y hy q;have hn:=aaf.mpr hy;let(n,hn):=oq hn;have h1:=q (m+n);rw[<- aar y,fQ,hn,cP,cP] at h1;have a1:=Nat.testBit_lt_two_pow (YZ (Nat.le_add_right m n) Nat.lt_two_pow_self);have a2:=Nat.testBit_lt_two_pow (YZ (Nat.le_add_left n m) Nat.lt_two_pow_self);rw[a1,a2] at h1;cases h1
 by_cases hx:0<=x;let(m,rfl):=oq hx;by_cases hy:0<=y;let(n,rfl):=oq hy;calc fv _ (pos m n h);calc (mix m y hy h).elim;by_cases hy:0<=y;let(n,rfl):=oq hy;calc (mix n x hx λk=>(h k).symm).elim;have a:=aaf.mpr hx;have b:=aaf.mpr hy;let(m,hm):=oq a;let(n,hn):=oq b;have:=pos m n λk=>by rw[<- hm,<- hn,fQ,fQ,h k]
 rw[<- aar x,<- aar y,hm,hn,this]
def x5(x m:Nat):x-(x &&& m)=x ^^^ (x &&& m):=by
 have h:=nat_or_add_and (x ^^^ (x &&& m)) (x &&& m);have e1:(x ^^^ (x &&& m)) ||| (x &&& m)=x:=Nat.eq_of_testBit_eq λk=>by simp only[Nat.testBit_or,Nat.testBit_xor,Nat.testBit_and];cases x.testBit k<;>cases m.testBit k<;>rfl
 have e2:(x ^^^ (x &&& m)) &&& (x &&& m)=0:=Nat.eq_of_testBit_eq λk=>by simp only[Nat.testBit_xor,Nat.testBit_and,Nat.zero_testBit];cases x.testBit k<;>cases m.testBit k<;>rfl
 lia
def Ib(x y:Int)(k:Nat):ib (bitAnd x y) k=(ib x k && ib y k):=by
 have pn:∀(m:Nat) y,¬ 0<=y->ib (m-((m &&& (bitNot y).toNat:Nat):Int)) k=(ib m k && ib y k):=by
  intro m y hy;let(n,hn):=oq (aaf.mpr hy);have e:ib y k=!n.testBit k:=by rw[<- aar y,fQ,hn,cP]
  rw[hn,kA,<- Int.ofNat_sub Nat.and_le_left,x5,cP,cP,e];simp only[Nat.testBit_xor,Nat.testBit_and];cases m.testBit k<;>cases n.testBit k<;>rfl
 by_cases hx:0<=x;let(m,rfl):=oq hx;by_cases hy:0<=y;let(n,rfl):=oq hy;rw[bitAnd_pp hx hy,kA,kA,cP,cP,cP,Nat.testBit_and];rw[bitAnd_pn hx hy,kA];calc pn m y hy;by_cases hy:0<=y;let(n,rfl):=oq hy;rw[bitAnd_np hx hy,kA,pn n x hx,Bool.and_comm];let(m,hm):=oq (aaf.mpr hx);let(n,hn):=oq (aaf.mpr hy);rw[bitAnd_nn hx hy,hm,hn,kA,kA,fQ,cP,Nat.testBit_or,<- cP,<- cP,<- hm,<- hn,fQ,fQ];cases ib x k<;>cases ib y k<;>rfl
def sf(x y:Int)(k:Nat):ib (bitOr x y) k=(ib x k || ib y k):=by unfold bitOr;rw[fQ,Ib,fQ,fQ];cases ib x k<;>cases ib y k<;>rfl
def dI(k:Nat):ib 0 k=false:=by have:=cP 0 k;rw[Nat.zero_testBit] at this;calc this
def Ic(x:Int)(j k:Nat):ib (x / 2 ^ j) k=ib x (j+k):=by unfold ib;rw[Int.ediv_ediv_of_nonneg (Int.le_of_lt (two_pos j)),<- Int.pow_add]
def An(x:Int)(j k:Nat):ib (x % 2 ^ j) k=(decide (k<j) && ib x k):=by
 have pos:∀n:Nat,ib (n % 2 ^ j) k=(decide (k<j) && n.testBit k):=λn=>by rw[<- gZ,<- Int.natCast_emod,cP,Nat.testBit_mod_two_pow]
 by_cases hx:0<=x;let(m,rfl):=oq hx;rw[pos,cP];let(m,hm):=oq (aaf.mpr hx);have e:x=-m-1:=by unfold bitNot at hm;lia
 have hp:=two_pos j;have e2:x % 2 ^ j=2 ^ j-1-m % 2 ^ j:=by
  have e1:=Int.mul_ediv_add_emod m (2 ^ j);show (Int.ediv_emod_unique hp (q:=-(m / 2 ^ j)-1)).mpr #[?_,?_,?_] |>.2
  have:2 ^ j * (-(m / 2 ^ j)-1)=-(2 ^ j * ((m:Int) / 2 ^ j))-2 ^ j:=by rw[Int.mul_sub,Int.mul_neg,Int.mul_one]
  rw[this];lia;omega
  lia
 have e3:x % 2 ^ j=((2 ^ j-(m % 2 ^ j+1):Nat):Int):=by
  have dc:m % 2 ^ j<2 ^ j:=Nat.mod_lt _ (Nat.two_pow_pos j);have a1:(m:Int) % 2 ^ j=((m % 2 ^ j:Nat):Int):=by rw[Int.natCast_emod,gZ]
  have a2:=gZ j
  lia
 have hb:ib x k=!m.testBit k:=by rw[<- aar x,fQ,hm,cP]
 rw[e3,cP,Nat.testBit_two_pow_sub_succ (Nat.mod_lt _ (Nat.two_pow_pos j)),Nat.testBit_mod_two_pow,hb];by_cases q:k<j;rw[ο q,y4,y4,y4];rw[ς q,Km,Km]
def Sl(x:Int)(j k:Nat):ib (x * 2 ^ j) k=(decide (j<=k) && ib x (k-j)):=by by_cases h:j<=k;let(d,rfl):=Nat.exists_eq_add_of_le h;rw[ο h,y4,Nat.add_sub_cancel_left,<- Ic,Int.mul_ediv_cancel _ (Int.ne_of_gt (two_pos j))];rw[ς h,Km];have q:=An (x * 2 ^ j) j k;rw[Int.mul_emod_left,dI,ο (),y4] at q;calc q.symm
def uP(k:Nat):ib 1 k=decide (k=0):=by
 cases k with
 |zero=>decide
 |succ k=>have h:(1:Int) / 2 ^ (k+1)=0:=Int.ediv_eq_zero_of_lt 5 (by rw[Int.pow_succ];have:=two_pos k;lia);unfold ib;rw[h];rfl
def Ie(j k:Nat):ib (2 ^ j) k=decide (k=j):=by have h:=Sl 1 j k;rw[Int.one_mul,uP] at h;rw[h];by_cases e:k=j;subst e;simp;rw[ς e];by_cases l:j<=k;rw[ς (by lia:¬ k-j=0),UI];rw[ς l,Km]
def uQ(j k:Nat):ib (1 * 2 ^ j) k=decide (k=j):=by rw[Int.one_mul,Ie]
def Pq{x y:Int}(h:0<=x)(h':0<=y):0<=bitOr x y:=by unfold bitOr;rw[bitAnd_nn (λq=>(aaf.mp q) h) (λq=>(aaf.mp q) h'),aar];calc Uz _
theorem Nd(x:Int):bitAnd x 1=if ib x 0=true then 1 else 0:=Am λk=>by
 rw[Ib,uP];by_cases e:k=0;subst e;cases q:ib x 0 with
 |true=>rw[ι 9,uP];rfl
 |false=>rw[θ 5,dI];rfl
 rw[ς e,UI];split;rw[uP,ς e];rw[dI]
def Ao(x:Int)(k:Nat):bitAnd (x / 2 ^ k) 1=if ib x k=true then 1 else 0:=by rw[Nd,Ic,Nat.add_zero]
def sub(y x:Int):Prop:=∀k,ib y k=true->ib x k=true
def fR(x:Int):sub x x:=λ_ h=>h
def mz{x y z:Int}(h:sub x y)(h':sub y z):sub x z:=λk q=>h' k (h k q)
theorem eZ{x y:Int}(h:sub x y)(h':sub y x):x=y:=Am λk=>by
 cases q:ib x k with
 |true=>rw[h k q]
 |false=>
  cases r:ib y k with
  |false=>rfl
  |true=>rw[h' k r] at q;cases q
def gm(x y:Int):sub x (bitOr x y):=λk h=>by rw[sf,h];rfl
def e_(x y:Int):sub y (bitOr x y):=λk h=>by rw[sf,h,Bool.or_true]
def uR{x y z:Int}(h:sub x z)(h':sub y z):sub (bitOr x y) z:=λk q=>by rw[sf,UG] at q;calc q.elim (h k) (h' k)
def sub_zero(x:Int):sub 0 x:=λk h=>by rw[dI] at h;cases h
def below(m:Nat)(x:Int):Prop:=0<=x/\x<2 ^ m
def below.bit{x:Int}(h:below m x){k:Nat}(hk:ib x k=true):k<m:=by have e:=Int.emod_eq_of_lt h.1 h.2;rw[<- e,An,iO] at hk;calc χ hk.1
def x6{x:Int}(h0:0<=x)(h:∀k,ib x k=true->k<m):below m x:=by
 show#[h0,?_];have e:x=x % 2 ^ m:=Am λk=>by
  rw[An];cases q:ib x k with
  |false=>rw[UI]
  |true=>rw[ο (h k q)];rfl
 rw[e];calc y0 _ (two_pos m)
def lu{x y:Int}(h:below m x)(h':below m y):below m (bitOr x y):=x6 (Pq h.1 h'.1) λk hk=>by rw[sf,UG] at hk;calc hk.elim h.bit h'.bit
def iw(m:Nat):below m 0:=#[Int.le_refl _,two_pos m]
def Eg(h:j<m):below m (2 ^ j):=x6 (Int.le_of_lt (two_pos j)) λk hk=>by rw[Ie] at hk;rw[χ hk];calc h
def ki(h:j<m):below m (1 * 2 ^ j):=by rw[Int.one_mul];calc Eg h
def closed(net:qan)(x:Int):Prop:=∀(k:Nat)(y:Int),net[k]?\y->ib x k=true->sub y x
end BS
namespace x8
open PySem L2 VT BS
open PySem.Builtin (bitOr)
abbrev Ent:=(Int×Str)×Int
def kK(k:Int×Str):List Key:=[.inl k.1,.inr k.2]
def ix{a b:Int×Str}:kK a=kK b↔a=b:=by
 constructor;intro h;unfold kK at h;injection h with h1 h2
 injection h2 with h2 h3
 injection h1 with h1
 injection h2 with h2
 calc Prod.ext h1 h2;rintro rfl;rfl
def cu(E:List Ent):List (List Key):=E.map λe=>kK e.1
def cQ(E:List Ent):Φ:=E.map λe=>.int e.2
def hV(e:Ent):T:=.tup [.int e.1.1,.str e.1.2,.int e.2]
def g7(E:List Ent)(k:Int×Str):Bool:=E.any λe=>decide (e.1=k)
def dJ(E:List Ent)(k:Int×Str)(v:Int):List Ent:=if g7 E k=true then E.map (λe=>if e.1=k then (e.1,v) else e) else E++[(k,v)]
def Ig(E:List Ent)(k:Int×Str):lq (cu E) (kK k)=g7 E k:=by
 unfold lq cu g7;rw[List.any_map]
 congr 1
 funext e;calc decide_eq_decide.mpr ix
def uS(E:List Ent)(k:Int×Str)(v:Int):j1 (cu E) (kK k)=cu (dJ E k v):=by unfold j1 dJ;rw[Ig];by_cases h:g7 E k=true;rw[ι h,ι h];unfold cu;rw[rA];show Fn λe _=>?_;change kK e.1=kK (if e.1=k then (e.1,v) else e).1;split<;>rfl;rw[θ h,θ h];unfold cu;rw[qz];rfl
def eS(E:List Ent)(k:Int×Str)(v:Int):iM (cu E) (cQ E) (kK k) (.int v)=cQ (dJ E k v):=by
 unfold iM dJ;rw[Ig];by_cases h:g7 E k=true;rw[ι h,ι h];clear h;unfold cu cQ;induction E with
 |nil=>rfl
 |cons e E ih=>
  simp only[fj,Z4];rw[ih]
  congr 1
  by_cases z:e.1=k;rw[ι z,ι (ix.mpr z)];rw[θ z,θ (λq=>z (ix.mp q))]
 rw[θ h,θ h];unfold cQ;rw[qz];rfl
def B'(p:Int×Str->Bool)(b:Int)(e:Ent):Int:=if p e.1=true then bitOr b e.2 else b
def qF(p:Int×Str->Bool)(E:List Ent):Int:=E.foldl (B' p) 0
def dI(k:Nat):ib 0 k=false:=by have:ib ((0:Nat):Int) k=(0:Nat).testBit k:=cP 0 k;rw[Nat.zero_testBit] at this;calc this
theorem Ap(p:Int×Str->Bool)(k:Nat):∀(E:List Ent)(b:Int),ib (E.foldl (B' p) b) k=(ib b k || E.any λe=>p e.1 && ib e.2 k)
 |[],b=>by simp
 |e::E,b=>by
  rw[Fp,Ap p k E,CZ];unfold B';cases p e.1 with
  |true=>rw[ι 9,sf,y4,Bool.or_assoc]
  |false=>rw[θ jq,Km,P9]
def uT{p:Int×Str->Bool}{E:List Ent}{e:Ent}(h:E[i]?\e):qF p (E.take (i+1))=B' p (qF p (E.take i)) e:=by unfold qF;rw[P7,h,Ol];rfl
def uU{E:List Ent}(nd:(E.map (·.1)).Nodup){e:Ent}(h:e∈E):cx (cu E) (cQ E) (kK e.1)\.int e.2:=by
 induction E with
 |nil=>cases h
 |cons x E ih=>
  change (if kK x.1=kK e.1 then some (T.int x.2) else cx (cu E) (cQ E) (kK e.1))=_;rw[fj,ou] at nd;rcases cT.mp h with rfl|h
  rw[ι 9];rw[θ (λz=>nd.1 (by rw[ix.mp z];calc List.mem_map_of_mem h)),ih nd.2 h]
def g8(f:α->β):∀{zs ys:List β},zs.Perm ys->∀{E:List α},ys=E.map f->∃F:List α,F.Perm E/\zs=F.map f:=by
 intro zs ys p;induction p with
 |nil=>intro E e;cases E with
  |nil=>calc#[[],.nil,9]
  |cons a E=>cases e
 |cons x _ ih=>
  intro E e;cases E with
  |nil=>cases e
  |cons a E=>
   rw[fj] at e;injection e with e1 e2
   let(F,p,q):=ih e2;calc#[a::F,p.cons a,by rw[fj,q,e1]]
 |swap x y l=>
  intro E e;cases E with
  |nil=>cases e
  |cons a E=>cases E with
   |nil=>rw[fj,P_] at e;injection e with _ e;cases e
   |cons b E=>
    rw[fj,fj] at e;injection e with e1 e2
    injection e2 with e2 e3
    calc#[b::a::E,.swap _ _ _,by rw[fj,fj,e1,e2,e3]]
 |trans _ _ R5 R6=>intro E e;let(F,p,q):=R6 e;let(F',p',q'):=R5 q;calc#[F',p'.trans p,q']
end x8
variable{F:List x8.Ent}
namespace BS
open PySem PySem.Builtin PyProof.Rows
def mem(x:Int):qao:=(List.range (Builtin.Int.intBits x)).filter (ib x)
def Nf{x:Int}(h0:0<=x):x<2 ^ Builtin.Int.intBits x:=by
 unfold Builtin.Int.intBits;by_cases e:x=0;subst e;decide;rw[θ (by simpa using e)];let(n,rfl):=oq h0;have hn:n≠0:=by lia
 rw[Int.natAbs_natCast];have:=(Nat.log2_lt hn (k:=n.log2+1)).mp (Ba _);rw[<- gZ];calc Int.ofNat_lt.mpr this
def bits_le{x:Int}(h:below m x):Builtin.Int.intBits x<=m:=by
 unfold Builtin.Int.intBits;split;exact gJ _
 rename_i e
 let(n,rfl):=oq h.1;have hn:n≠0:=by intro z;subst z;exact e 9
 rw[Int.natAbs_natCast];have h2:=h.2;rw[<- gZ] at h2;have:=(Nat.log2_lt hn (k:=m)).mpr (Int.ofNat_lt.mp h2)
 lia
def Sn{x:Int}(h0:0<=x){k:Nat}(hk:ib x k=true):k<Builtin.Int.intBits x:=below.bit #[h0,Nf h0] hk
def mem_iff{x:Int}(h0:0<=x){k:Nat}:k∈mem x↔ib x k=true:=by unfold mem;rw[yT,nP];calc#[λh=>h.2,λh=>#[Sn h0 h,h]]
end BS
namespace TS
open PySem PyProof.Rows
end TS
namespace TS
open PySem PySem.Spec PyProof.Rows L2 VT
section
variable(L:α->α->Bool)
variable{L}
theorem filter_lt{p q:α->Bool}:∀{l:List α},(∀x∈l,p x=true->q x=true)->∀{y},y∈l->p y=false->q y=true->(l.filter p).length<(l.filter q).length
 |x::l,h,y,hy,h1,h2=>by
  have le:∀{l:List α},(∀x∈l,p x=true->q x=true)->(l.filter p).length<=(l.filter q).length:=by
   intro l;induction l with
   |nil=>intro _;calc cD _
   |cons x l ih=>
    intro h;have:=ih λz hz=>h z (fZ _ hz);rw[TQ,TQ];cases hp:p x with
    |true=>rw[h x 4 hp];simpa using this
    |false=>
     cases hq:q x with
     |true=>simp;lia
     |false=>simpa using this
  have hl:=λz hz=>h z (fZ x hz);rw[TQ,TQ];rcases cT.mp hy with rfl|hy
  rw[h1,h2];have:=le hl;simp;lia;have ih:=filter_lt hl hy h1 h2;cases hp:p x with
  |true=>rw[h x 4 hp];simpa using ih
  |false=>
   cases hq:q x with
   |true=>simp;lia
   |false=>simpa using ih
end
abbrev Tr:=Int×Str×Int
section
open Classical in
end
end TS
namespace SO
open PySem PyProof.Rows PyProof
variable{κ:SortKind}{lt:Kd->Kd->Bool}{G:Kd->Prop}
end SO
namespace TS
open PySem PySem.Spec PyProof.Rows L2 VT
end TS
namespace MK
open PySem L2 VT Gen BS K5 x8
open PySem.Builtin (bitOr)
def ba(E:List Ent)(k:Int×Str):Int:=match E with
 |[]=>0
 |e::E=>if e.1=k then e.2 else ba E k
theorem eM(k:Int×Str):∀E:List Ent,(cx (cu E) (cQ E) (kK k)).getD (.int 0)=.int (ba E k)
 |[]=>rfl
 |e::E=>by change (if kK e.1=kK k then some (T.int e.2) else cx (cu E) (cQ E) (kK k)).getD (.int 0)=.int (if e.1=k then e.2 else ba E k);by_cases z:e.1=k;rw[ι z,ι (ix.mpr z)];rfl;rw[θ z,θ (λq=>z (ix.mp q))];calc eM k E
theorem lx(h n:Int):∀E:List Ent,cx (cu E) (cQ E) [.inl h,.inl n]=none
 |[]=>rfl
 |e::E=>by change (if kK e.1=[.inl h,.inl n] then some (T.int e.2) else cx (cu E) (cQ E) [.inl h,.inl n])=none;rw[θ (λz=>by unfold kK at z;injection z with _ z;injection z with z _;cases z)];calc lx h n E
def x9(k k':Int×Str)(v:Int)(E:List Ent):ba (dJ E k v) k'=if k'=k then v else ba E k':=by
 unfold dJ;by_cases h:g7 E k=true;rw[ι h];induction E with
 |nil=>cases h
 |cons e E ih=>
  rw[fj];change (if (if e.1=k then (e.1,v) else e).1=k' then (if e.1=k then (e.1,v) else e).2 else ba (E.map _) k')=if k'=k then v else if e.1=k' then e.2 else ba E k'
  by_cases q:e.1=k;rw[ι q];by_cases q2:k'=k;rw[ι q2,ι (q.trans q2.symm)];rw[θ q2,θ (λz=>q2 (z.symm.trans q)),θ (λz=>q2 (z.symm.trans q))];by_cases h2:g7 E k=true;rw[ih h2,θ q2];have:∀l:List Ent,¬ g7 l k=true->(l.map λe=>if e.1=k then (e.1,v) else e)=l:=λl hl=>by
   conv=>rhs;rw[<- List.map_id l]
   show Fn λx hx=>?_;rw[θ λz=>hl (KL.mpr #[x,hx,ο z])];rfl
  rw[this E h2];rw[θ q];have h2:g7 E k=true:=by unfold g7 at h ⊢;rw[CZ,ς q,P9] at h;exact h
  rw[ih h2];by_cases q3:e.1=k';rw[ι q3,ι q3,θ (λz=>q (q3.trans z))];rw[θ q3,θ q3]
 rw[θ h];induction E with
 |nil=>
  change (if k=k' then v else 0)=if k'=k then v else 0
  by_cases q:k'=k;rw[ι q,ι q.symm];rw[θ q,θ (λz=>q z.symm)]
 |cons e E ih=>
  have h1:¬ e.1=k:=λz=>h (by unfold g7;rw[CZ,ο z];rfl);have h2:¬ g7 E k=true:=λz=>h (by unfold g7 at z ⊢;rw[CZ,z,Bool.or_true]);change (if e.1=k' then e.2 else ba (E++[(k,v)]) k')=if k'=k then v else if e.1=k' then e.2 else ba E k'
  rw[ih h2];by_cases q3:e.1=k';rw[ι q3,ι q3,θ (λz=>h1 (q3.trans z))];rw[θ q3,θ q3]
def Ng(k:Int×Str)(v:Int)(E:List Ent):cx (cu (dJ E k v)) (cQ (dJ E k v)) (kK k)\.int v:=by
 have h:g7 (dJ E k v) k=true:=by unfold dJ;by_cases h:g7 E k=true;rw[ι h];let(e,he,z):=KL.mp h;have z:e.1=k:=χ z;calc KL.mpr #[(e.1,v),gH.mpr #[e,he,by rw[ι z]],ο z];rw[θ h];exact KL.mpr #[(k,v),gE _ (f6.mpr 9),ο 9]
 have e1:=eM k (dJ E k v);rw[x9,ι 9] at e1;have:∀F:List Ent,g7 F k=true->∃t,cx (cu F) (cQ F) (kK k)\t:=λF=>by
  induction F with
  |nil=>intro z;cases z
  |cons e F ih=>intro z;change ∃t,(if kK e.1=kK k then some (T.int e.2) else cx (cu F) (cQ F) (kK k))\t;by_cases q:e.1=k;calc#[_,ι (ix.mpr q)];rw[θ (λx=>q (ix.mp x))];unfold g7 at z;rw[CZ,ς q,P9] at z;exact ih z
 let(t,ht):=this _ h;rw[ht] at e1 ⊢;calc fv some e1
def ly(k:Ky):Str:=match nY k with
 |.str x=>if nQ.fB x=true then x else "#"
 |_=>"#"
def gB(E:List Ent)(h:Nat):kx->Int
 |.nm y=>ba E ((h:Int),y)
 |.nu _=>0
def ZJ(F:List Ent)(x:Int)(c:Str):Int:=(mem x).foldl (λt (j:Nat)=>bitOr t (ba F ((j:Int),c))) 0
abbrev Wt:=Bool×(Int×Str)×Int
def wOf(E F:List Ent)(i h:Nat):Rw->List Wt
 |.new x=>[(true,((h:Int),x),1 * 2 ^ ((i:Int)).toNat)]
 |.put x o=>[(true,((h:Int),x),gB E h o)]
 |.get x y k=>[(true,((h:Int),x),ZJ F (ba E ((h:Int),y)) (ly k))]
 |.set y k o=>(mem (ba E ((h:Int),y))).map λ(j:Nat)=>(false,((j:Int),ly k),gB E h o)
 |_=>[]
def okR:Rw->Bool
 |.call _ _ _=>false
 |_=>true
def adS(a1 a2:Addr)(E F:List Ent)(b:Bool):T:=if b=true then .pin a1 (.dt (cu E) (cQ E)) else .pin a2 (.dt (cu F) (cQ F))
def wT(a1 a2:Addr)(E F:List Ent)(p:Wt):T:=.tup [adS a1 a2 E F p.1,.kt (kK p.2.1),.int p.2.2]
inductive Pl
 |nm (h:Nat) (x:Str)
 |cl (h:Nat) (x c:Str)
 |rw (i:Nat)
 |zr
abbrev Mv:=Pl×Pl
abbrev nk(h:Nat)(x:Str):Int×Str:=((h:Int),x)
def Ih(h:Nat):kx->Pl
 |.nm y=>.nm h y
 |.nu _=>.zr
def fnOf(rs:qal)(g:Str):Option (Nat×List Str×kx):=match qU (a_ rs 6) g with
 |some s=>match rs[s]?,endsAt 22 6 s with
  |some (.df _ ps),some e=>match rs[e]? with
   |some (.give o)=>some (s,ps,o)
   |_=>none
  |_,_=>none
 |none=>none
def wy(rs:qal)(i h:Nat):Rw->List Mv
 |.new x=>[(.nm h x,.rw i)]
 |.put x o=>[(.nm h x,Ih h o)]
 |.get x y k=>[(.nm h x,.cl h y (ly k))]
 |.set y k o=>[(.cl h y (ly k),Ih h o)]
 |.call x g as=>match fnOf rs g with
  |some (s,ps,o)=>(.nm h x,Ih s o)::(ps.zip as).map λz=>(.nm s z.1,Ih h z.2)
  |none=>[]
 |_=>[]
def Ff(rs:qal)(i:Nat):List Mv:=match rs[i]?,gG 22 i with
 |some r,some h=>wy rs i h r
 |_,_=>[]
def jC(rs:qal):List Mv:=(List.range 6).flatMap (Ff rs)
def isNm:Pl->Bool
 |.nm _ _=>true
 |_=>false
def jP(E F:List Ent):Pl->Int
 |.nm h y=>ba E (nk h y)
 |.cl h y c=>ZJ F (ba E (nk h y)) c
 |.rw i=>1 * 2 ^ ((i:Int)).toNat
 |.zr=>0
def Ik(E:List Ent):Pl->List (Int×Str)
 |.nm h x=>[nk h x]
 |.cl h y c=>(mem (ba E (nk h y))).map λ(j:Nat)=>((j:Int),c)
 |_=>[]
def wM(E F:List Ent)(m:Mv):List Wt:=(Ik E m.1).map λk=>(isNm m.1,k,jP E F m.2)
def wA(rs:qal)(E F:List Ent)(i:Nat):List Wt:=(Ff rs i).flatMap (wM E F)
structure Tb where
 E:List Ent
 F:List Ent
 b:Bool
def Tb.get(p:Tb)(w:Bool)(k:Int×Str):Int:=if w=true then ba p.E k else ba p.F k
def Tb.put(p:Tb)(w:Bool)(k:Int×Str)(v:Int):Tb:=if w=true then {p with E:=dJ p.E k v} else {p with F:=dJ p.F k v}
def iS(p:Tb)(w:Wt):Tb:={p.put w.1 w.2.1 (bitOr (p.get w.1 w.2.1) w.2.2) with b:=p.b || !decide (bitOr (p.get w.1 w.2.1) w.2.2=p.get w.1 w.2.1)}
def ZL(rs:qal)(p:Tb)(i:Nat):Tb:=(wA rs p.E p.F i).foldl iS p
def bM(rs:qal)(E F:List Ent)(n:Nat):Tb:=(List.range n).foldl (ZL rs) #[E,F,false]
def g9(rs:qal)(E F:List Ent)(n:Nat):bM rs E F (n+1)=ZL rs (bM rs E F n) n:=by unfold bM;rw[UE,Ol];rfl
def gp(p:Tb)(w:Wt)(b:Bool)(k:Int×Str):(iS p w).get b k=if b=w.1/\k=w.2.1 then bitOr (p.get w.1 w.2.1) w.2.2 else p.get b k:=by let(wb,wk,wv):=w;unfold iS Tb.put Tb.get;cases wb<;>cases b<;>simp[x9]
def So(n:Nat)(w:Bool)(m:Mv):List (Int×Str):=match w,m.1 with
 |true,.nm h x=>[nk h x]
 |false,.cl _ _ c=>(List.range n).map λ(j:Nat)=>((j:Int),c)
 |_,_=>[]
def iH(n:Nat)(M:List Mv)(w:Bool):List (Int×Str):=M.flatMap (So n w)
structure Iv(n:Nat)(M:List Mv)(p:Tb):Prop where
 nE:(p.E.map (·.1)).Nodup
 nF:(p.F.map (·.1)).Nodup
 kE:∀e∈p.E,e.1∈iH n M true
 kF:∀e∈p.F,e.1∈iH n M false
 bl:∀w k,below n (p.get w k)
def pU{E:List Ent}{k:Int×Str}{v:Int}(nd:(E.map (·.1)).Nodup):((dJ E k v).map (·.1)).Nodup/\∀e∈dJ E k v,e.1=k\/∃e'∈E,e'.1=e.1:=by
 unfold dJ;by_cases h:g7 E k=true;rw[ι h];have e:(E.map (λe=>if e.1=k then (e.1,v) else e)).map (·.1)=E.map (·.1):=by rw[rA];show Fn λe _=>?_;change (if e.1=k then (e.1,v) else e).1=e.1;split<;>rfl
 show#[by rw[e];calc nd,λx hx=>?_];let(y,hy,rfl):=gH.mp hx;calc .inr #[y,hy,by split<;>rfl];rw[θ h];show#[?_,λx hx=>?_];rw[qz,List.nodup_append];show#[nd,by simp,λa ha b hb e=>?_];have hb:b=k:=by simpa using hb
 subst e;subst hb;let(y,hy,e):=gH.mp ha;calc h (KL.mpr #[y,hy,ο e]);rcases fu.mp hx with z|z
 calc .inr #[x,z,9];rw[f6.mp z];calc .inl 9
theorem fS{α β:Type}{f:β->List α}{m:Nat}(h:∀i,(f i).length<=m):∀l:List β,(l.flatMap f).length<=l.length * m
 |[]=>by simp
 |i::l=>by
  have:=fS h l;have:=h i;rw[List.flatMap_cons,kq,wq,Nat.add_mul]
  lia
theorem sub_len{α:Type}[DecidableEq α]:∀{l U:List α},l.Nodup->(∀x∈l,x∈U)->l.length<=U.length
 |[],U,_,_=>gJ _
 |x::l,U,nd,h=>by
  rw[ou] at nd;have hx:=h x d_;have:=sub_len (U:=U.erase x) nd.2 λy hy=>(List.mem_erase_of_ne (λe=>nd.1 (by rw[<- e];calc hy))).mpr (h y (fZ _ hy));rw[List.length_erase_of_mem hx] at this;have:=List.length_pos_of_mem hx;rw[wq]
  lia
def Le(p p':Tb):Prop:=∀w k,sub (p.get w k) (p'.get w k)
def Le.refl(p:Tb):Le p p:=λ_ _=>fR _
def Le.trans{p q r:Tb}(h:Le p q)(g:Le q r):Le p r:=λw k=>mz (h w k) (g w k)
def Aq{l:qao}{f:Nat->Int}(h:∀j,below n (f j)):∀x,below n x->below n (l.foldl (λt j=>bitOr t (f j)) x):=by
 induction l with
 |nil=>calc λx h=>h
 |cons j l ih=>calc λx hx=>ih _ (lu hx (h j))
def uV(n:Nat)(m:Mv):Prop:=match m.2 with
 |.rw i=>i<n
 |_=>True
section
variable{M:List Mv}{p q r:Tb}{m:Mv}
theorem sg(w:Bool):(iH n M w).length<=M.length * (n+1):=fS (λm=>by unfold So;split;simp;rw[bN,sV];lia;simp) M
def Iv.Il(I:Iv n M p):p.E.length<=M.length * (n+1):=by
 have:=sub_len I.nE λk hk=>by let(e,he,rfl):=gH.mp hk;exact I.kE e he
 rw[bN] at this;calc jS this (sg true)
def Iv.Im(I:Iv n M p):p.F.length<=M.length * (n+1):=by
 have:=sub_len I.nF λk hk=>by let(e,he,rfl):=gH.mp hk;exact I.kF e he
 rw[bN] at this;calc jS this (sg false)
def Iv.bool(I:Iv n M p)(b:Bool):Iv n M {p with b:=b}:=#[I.nE,I.nF,I.kE,I.kF,I.bl]
def Iv.pos(I:Iv n M p):∀e∈p.F,0<=e.1.1:=λe he=>by
 let(m,_,h):=sW.mp (I.kF e he);unfold So at h;split at h
 rename_i z _;cases z
 let(j,_,z):=gH.mp h;rw[<- z];calc Uz j;cases h
def Iv.step(I:Iv n M p){w:Wt}(hk:w.2.1∈iH n M w.1)(hb:below n w.2.2):Iv n M (iS p w):=by
 have T5:∀b k,below n ((iS p w).get b k):=λb k=>by rw[gp];split;calc lu (I.bl _ _) hb;exact I.bl b k
 let(wb,wk,wv):=w;cases wb with
 |true=>let(h1,h2):=pU I.nE;calc#[h1,I.nF,λe he=>(h2 e he).elim (λz=>by rw[z];calc hk) λ#[e',Kz,z]=>by rw[<- z];calc I.kE e' Kz,I.kF,T5]
 |false=>let(h1,h2):=pU I.nF;calc#[I.nE,h1,I.kE,λe he=>(h2 e he).elim (λz=>by rw[z];calc hk) λ#[e',Kz,z]=>by rw[<- z];calc I.kF e' Kz,T5]
def mB(I:Iv n M p)(h:uV n m):below n (jP p.E p.F m.2):=by
 let(g,o):=m;cases o with
 |nm h y=>calc I.bl true _
 |cl h y c=>calc Aq (λj=>I.bl false _) 0 (iw _)
 |rw i=>change below n (1 * 2 ^ ((i:Int)).toNat);rw[kA];calc ki h
 |zr=>calc iw _
def oh(I:Iv n M p)(hm:m∈M){k:Int×Str}(hk:k∈Ik p.E m.1):k∈iH n M (isNm m.1):=by
 show sW.mpr #[m,hm,?_];let(g,o):=m;cases g with
 |nm h x=>calc hk
 |cl h y c=>let(j,hj,rfl):=gH.mp hk;have b:=I.bl true (nk h y);calc gH.mpr #[j,nP.mpr (b.bit ((mem_iff b.1).mp hj)),9]
 |_=>cases hk
def adT(I:Iv n M p)(hm:m∈M)(h:uV n m){w:Wt}(hw:w∈wM p.E p.F m):w.2.1∈iH n M w.1/\below n w.2.2:=by let(k,hk,rfl):=gH.mp hw;calc#[oh I hm hk,mB I h]
def Nw(n:Nat)(M:List Mv)(p p':Tb):Prop:=E3 λw k b=>k∈iH n M w/\b<n/\ib (p.get w k) b=false/\ib (p'.get w k) b=true
def Nw.le(h:Nw n M p q)(g:Le q r):Nw n M p r:=let #[w,k,b,h1,h2,h3,h4]:=h;#[w,k,b,h1,h2,h3,g w k b h4]
def Nw.ge(g:Le p q)(h:Nw n M q r):Nw n M p r:=by
 let(w,k,b,h1,h2,h3,h4):=h;show#[w,k,b,h1,h2,?_,h4];cases z:ib (p.get w k) b with
 |false=>rfl
 |true=>rw[g w k b z] at h3;cases h3
def Ar{w:Wt}:Le p (iS p w):=λb k=>by
 rw[gp];split
 rename_i h
 rw[h.1,h.2];calc gm _ _;calc fR _
def Io{w:Wt}(hk:w.2.1∈iH n M w.1)(hb:below n w.2.2)(h:(iS p w).b=true):p.b=true\/Nw n M p (iS p w):=by
 have h:(p.b || !decide (bitOr (p.get w.1 w.2.1) w.2.2=p.get w.1 w.2.1))=true:=h;cases hp:p.b with
 |true=>calc .inl 9
 |false=>
  rw[hp,P9] at h;have eV:bitOr (p.get w.1 w.2.1) w.2.2≠p.get w.1 w.2.1:=λz=>by rw[ο z] at h;cases h
  right
  have hs:=λz=>eV (eZ (uR (fR _) z) (gm _ _));obtain⟨b,h1,h2⟩:∃b,ib w.2.2 b=true/\¬ ib (p.get w.1 w.2.1) b=true:=YL λz=>hs λb hb=>YL λy=>z #[b,hb,y];show#[w.1,w.2.1,b,hk,hb.bit h1,by simpa using h2,?_];rw[gp,ι #[9,9]];calc e_ _ _ b h1
theorem uW:∀{l:List Wt}{p:Tb},Iv n M p->(∀w∈l,w.2.1∈iH n M w.1/\below n w.2.2)->Iv n M (l.foldl iS p)/\Le p (l.foldl iS p)/\((l.foldl iS p).b=true->p.b=true\/Nw n M p (l.foldl iS p))
 |[],p,I,_=>#[I,Le.refl p,.inl]
 |w::l,p,I,h=>by
  have h0:=h w d_;let(h1,h2,h3):=uW (I.step h0.1 h0.2) λv hv=>h v (fZ _ hv);show#[h1,Ar.trans h2,λhb=>?_];rcases h3 hb with z|z
  rcases Io h0.1 h0.2 z with z|z
  calc .inl z;calc .inr (z.le h2);calc .inr (z.ge Ar)
def Xx(n:Nat)(M:List Mv):List ((Bool×Int×Str)×Nat):=[true,false].flatMap λw=>(iH n M w).flatMap λk=>(List.range n).map λb=>((w,k),b)
def mu(n:Nat)(M:List Mv)(p:Tb):Nat:=((Xx n M).filter λx=>!ib (p.get x.1.1 x.1.2) x.2).length
def Pr(h:Le p q)(w:Nw n M p q):mu n M q<mu n M p:=by
 let(w,k,b,h1,h2,h3,h4):=w;show TS.filter_lt (λx _ z=>?_) (y:=((w,k),b)) ?_ (by rw[h4];rfl) (by rw[h3];rfl);cases q:ib (p.get x.1.1 x.1.2) x.2 with
 |false=>rfl
 |true=>rw[h _ _ _ q] at z;cases z
 calc sW.mpr #[w,by cases w<;>simp,sW.mpr #[k,h1,gH.mpr #[b,nP.mpr h2,9]]]
def Sq(n:Nat)(M:List Mv):Iv n M #[[],[],false]:=#[Kn,Kn,λe h=>(nomatch h),λe h=>(nomatch h),λw k=>by cases w<;>calc iw n]
end
abbrev Sf:=Bool->Int×Str->Int
def gS(S:Sf)(g:Pl)(w:Bool)(k:Int×Str):Prop:=match g with
 |.nm h x=>w=true/\k=nk h x
 |.cl h y c=>w=false/\∃j:Nat,ib (S true (nk h y)) j=true/\k=((j:Int),c)
 |_=>False
def hS(S:Sf)(o:Pl)(b:Nat):Prop:=match o with
 |.nm h y=>ib (S true (nk h y)) b=true
 |.cl h y c=>∃j:Nat,ib (S true (nk h y)) j=true/\ib (S false ((j:Int),c)) b=true
 |.rw i=>b=i
 |.zr=>False
def Fh(S:Sf)(m:Mv):Prop:=∀w k b,gS S m.1 w k->hS S m.2 b->ib (S w k) b=true
def Ls(M:List Mv)(p:Tb):Prop:=∀S,(∀m∈M,Fh S m)->∀w k,sub (p.get w k) (S w k)
def Iq{l:qao}{f:Nat->Int}{b:Nat}:∀{x:Int},ib (l.foldl (λt j=>bitOr t (f j)) x) b=true↔ib x b=true\/∃j∈l,ib (f j) b=true:=by
 induction l with
 |nil=>intro x;simp
 |cons j l ih=>intro x;rw[Fp,ih,sf,UG,or_assoc];simp
section
variable{M:List Mv}{p q:Tb}{m:Mv}
def mC(I:Iv n M p){g:Pl}{w:Bool}{k:Int×Str}:gS p.get g w k↔w=isNm g/\k∈Ik p.E g:=by
 cases g with
 |nm h x=>calc#[λh=>#[h.1,f6.mpr h.2],λh=>#[h.1,f6.mp h.2]]
 |cl h y c=>have b:=I.bl true (nk h y);show#[λ#[h1,j,h2,h3]=>#[h1,gH.mpr #[j,(mem_iff b.1).mpr h2,h3.symm]],λ#[h1,h2]=>#[h1,?_]];let(j,hj,e):=gH.mp h2;calc#[j,(mem_iff b.1).mp hj,e.symm]
 |rw i=>calc#[False.elim,λh=>nomatch h.2]
 |zr=>calc#[False.elim,λh=>nomatch h.2]
def uX(I:Iv n M p){o:Pl}{b:Nat}:hS p.get o b↔ib (jP p.E p.F o) b=true:=by
 cases o with
 |nm h y=>calc Iff.rfl
 |cl h y c=>
  have e:=I.bl true (nk h y);change _↔ib (List.foldl _ 0 _) b=true;rw[Iq,BS.dI];show#[λ#[j,h1,h2]=>.inr #[j,(mem_iff e.1).mpr h1,h2],λh=>?_];obtain h|⟨j,h1,h2⟩:=h
  cases h;calc#[j,(mem_iff e.1).mp h1,h2]
 |rw i=>change b=i↔ib (1 * 2 ^ ((i:Int)).toNat) b=true;rw[kA,uQ,aaj]
 |zr=>calc#[False.elim,λh=>by rw[show jP p.E p.F .zr=0 from 9,BS.dI] at h;cases h]
def uY{S S':Sf}(h:∀w k,sub (S w k) (S' w k)){g:Pl}{w:Bool}{k:Int×Str}(x:gS S g w k):gS S' g w k:=by
 cases g with
 |cl a y c=>let(h1,j,h2,h3):=x;calc#[h1,j,h _ _ _ h2,h3]
 |_=>calc x
def Nh{S S':Sf}(h:∀w k,sub (S w k) (S' w k)){o:Pl}{b:Nat}(x:hS S o b):hS S' o b:=by
 cases o with
 |nm a y=>calc h _ _ _ x
 |cl a y c=>let(j,h2,h3):=x;calc#[j,h _ _ _ h2,h _ _ _ h3]
 |_=>calc x
def pV(I:Iv n M p){S:Sf}(c:Fh S m)(hp:∀w k,sub (p.get w k) (S w k)){k:Int×Str}(hk:k∈Ik p.E m.1):sub (jP p.E p.F m.2) (S (isNm m.1) k):=λb hb=>
 c _ _ b (uY hp ((mC I).mpr #[9,hk])) (Nh hp ((uX I).mpr hb))
def Pt(I:Iv n M p)(h:∀k∈Ik p.E m.1,sub (jP p.E p.F m.2) (p.get (isNm m.1) k)):Fh p.get m:=λw k b x y=>by let(rfl,hk):=(mC I).mp x;calc h k hk b ((uX I).mp y)
def Xy{S:Sf}(h:m.2=.zr):Fh S m:=λw k b _ y=>by rw[h] at y;calc y.elim
theorem Ls.iS(h:Ls M p){w:Wt}(hw:∀S,(∀m∈M,Fh S m)->sub w.2.2 (S w.1 w.2.1)):Ls M (iS p w):=λS hS b k=>by
 rw[gp];split
 rename_i z
 rw[z.1,z.2];calc uR (h S hS _ _) (hw S hS);calc h S hS b k
theorem Ca:∀{l:List Wt}{p:Tb},Ls M p->(∀w∈l,∀S,(∀m∈M,Fh S m)->sub w.2.2 (S w.1 w.2.1))->Ls M (l.foldl MK.iS p)
 |[],p,L,_=>L
 |w::l,p,L,h=>Ca (l:=l) (L.iS λS hS=>h w d_ S hS) λv hv=>h v (fZ _ hv)
def Sr:Ls M #[[],[],false]:=λS hS w k=>by cases w<;>calc sub_zero _
theorem x_:∀{l:List Wt}{p:Tb},(l.foldl MK.iS p).b=false->p.b=false/\(∀b k,(l.foldl MK.iS p).get b k=p.get b k)/\∀w∈l,sub w.2.2 (p.get w.1 w.2.1)
 |[],p,h=>#[h,λ_ _=>rfl,λw h=>nomatch h]
 |w::l,p,h=>by
  let(h1,h2,h3):=x_ (l:=l) h;have h1:(p.b || !decide (bitOr (p.get w.1 w.2.1) w.2.2=p.get w.1 w.2.1))=false:=h1;rw[Bool.or_eq_false_iff] at h1;have e:=YL λz=>by have:=h1.2;rw[ς z] at this;cases this
  have g:∀b k,(MK.iS p w).get b k=p.get b k:=λb k=>by
   rw[gp];split
   rename_i z;rw[z.1,z.2];exact e
   rfl
  show#[h1.1,λb k=>(h2 b k).trans (g b k),λv hv=>?_];rcases cT.mp hv with rfl|hv
  rw[<- e];calc e_ _ _;rw[<- g];calc h3 v hv
end
section
theorem As:∀m∈jC rs,uV 6 m:=λm hm=>by
 let(i,hi,hm):=sW.mp hm;have hi:=nP.mp hi;unfold Ff at hm;have op:∀g a o,uV 6 (g,Ih a o):=λg a o=>by cases o<;>trivial
 split at hm
 rename_i r h _ _
 cases r with
 |new x=>rw[f6.mp hm];calc hi
 |put x o=>rw[f6.mp hm];calc op _ _ _
 |get x y k=>rw[f6.mp hm];trivial
 |set y k o=>rw[f6.mp hm];calc op _ _ _
 |call x g as=>
  simp only[wy] at hm;split at hm;rcases cT.mp hm with rfl|hm
  calc op _ _ _;let(z,_,rfl):=gH.mp hm;calc op _ _ _;cases hm
 |_=>cases hm
 cases hm
def Ir{M:List Mv}(hM:∀m∈jC rs,m∈M){p:Tb}(I:Iv 6 M p)(hi:i<6){w:Wt}(hw:w∈wA rs p.E p.F i):∃m∈jC rs,w∈wM p.E p.F m/\w.2.1∈iH 6 M w.1/\below 6 w.2.2:=by let(m,hm,hw):=sW.mp hw;have hm:=sW.mpr #[i,nP.mpr hi,hm];calc#[m,hm,hw,adT I (hM m hm) (As m hm) hw]
theorem lz{M:List Mv}(hM:∀m∈jC rs,m∈M){E F:List Ent}{b:Bool}(I:Iv 6 M #[E,F,b]):∀n≤rs.length,Iv 6 M (bM rs E F n)/\Le #[E,F,b] (bM rs E F n)/\((bM rs E F n).b=true->Nw 6 M #[E,F,b] (bM rs E F n))
 |0,_=>#[I.bool false,λ_ _=>fR _,λh=>nomatch h]
 |n+1,h=>by
  let(I',h1,h2):=lz hM I n ();rw[g9];let(g1,g2,g3):=uW (l:=wA rs (bM rs E F n).E (bM rs E F n).F n) I' λw hw=>(Ir hM I' () hw).choose_spec.2.2;show#[g1,h1.trans g2,λhb=>?_];rcases g3 hb with z|z
  calc (h2 z).le g2;calc z.ge h1
theorem Cb{E F:List Ent}{b:Bool}(I:Iv 6 (jC rs) #[E,F,b])(L:Ls (jC rs) #[E,F,b]):∀n≤rs.length,Ls (jC rs) (bM rs E F n)
 |0,_=>L
 |n+1,h=>by have L':=Cb I L n ();have I':=(lz (λ_ h=>h) I n ()).1;rw[g9];show Ca L' λw hw S hS=>?_;let(m,hm,hw,_):=Ir (λ_ h=>h) I' () hw;let(k,hk,rfl):=gH.mp hw;calc pV I' (hS m hm) (λw k=>L' S hS w k) hk
def qZ(rs:qal):Nat->Tb
 |0=>#[[],[],false]
 |m+1=>bM rs (qZ rs m).E (qZ rs m).F 6
theorem ya(rs:qal):∀m,Iv 6 (jC rs) (qZ rs m)/\Ls (jC rs) (qZ rs m)
 |0=>#[Sq _ _,Sr]
 |m+1=>by let(I,L):=ya rs m;calc#[(lz (λ_ h=>h) I 6 (cD _)).1,Cb I L 6 (cD _)]
def yb{p q:Tb}(h:∀b k,p.get b k=q.get b k)(m:Mv):wM p.E p.F m=wM q.E q.F m:=by
 have hE:∀k,ba p.E k=ba q.E k:=λk=>h true k;have hF:∀k,ba p.F k=ba q.F k:=λk=>h false k;let(g,o):=m;have e1:Ik p.E g=Ik q.E g:=by cases g<;>simp only[Ik,hE]
 have e2:jP p.E p.F o=jP q.E q.F o:=by cases o<;>simp only[jP,ZJ,hE,hF]
 unfold wM;rw[e1,e2]
theorem yc{E F:List Ent}:∀n,(bM rs E F n).b=false->(∀b k,(bM rs E F n).get b k=Tb.get #[E,F,false] b k)/\∀i<n,∀w∈wA rs E F i,sub w.2.2 (Tb.get #[E,F,false] w.1 w.2.1)
 |0,_=>#[λ_ _=>rfl,λi h=>absurd h (UH i)]
 |n+1,h=>by rw[g9] at h ⊢;let(h1,h2,h3):=x_ h;let(g1,g2):=yc n h1;show#[λb k=>(h2 b k).trans (g1 b k),λi hi w hw=>?_];by_cases z:i=n;subst z;have e:wA rs (bM rs E F i).E (bM rs E F i).F i=wA rs E F i:=fv (λf=>List.flatMap f (Ff rs i)) (funext λm=>yb g1 m);have:=h3 w (by rw[e];calc hw);rw[g1] at this;calc this;calc g2 i () w hw
theorem so:∀{l:List Wt}{p:Tb},(∀w∈l,sub w.2.2 (p.get w.1 w.2.1))->(l.foldl iS p).b=p.b/\∀b k,(l.foldl iS p).get b k=p.get b k
 |[],p,_=>#[9,λ_ _=>rfl]
 |w::l,p,h=>by
  have e:bitOr (p.get w.1 w.2.1) w.2.2=p.get w.1 w.2.1:=eZ (uR (fR _) (h w d_)) (gm _ _);have eb:(iS p w).b=p.b:=by change (p.b || !decide _)=p.b;rw[ο e];cases p.b<;>rfl
  have eg:∀b k,(iS p w).get b k=p.get b k:=λb k=>by
   rw[gp];split
   rename_i z;rw[e,z.1,z.2]
   rfl
  let(h1,h2):=so (l:=l) (p:=iS p w) λv hv=>by rw[eg];exact h v (fZ _ hv)
  calc#[h1.trans eb,λb k=>(h2 b k).trans (eg b k)]
theorem sr{M:List Mv}{E F:List Ent}(I:Iv 6 M #[E,F,false])(h:∀m∈jC rs,Fh (Tb.get #[E,F,false]) m):∀n≤rs.length,(bM rs E F n).b=false/\∀b k,(bM rs E F n).get b k=Tb.get #[E,F,false] b k
 |0,_=>#[9,λ_ _=>rfl]
 |n+1,hn=>by
  let(h1,h2):=sr I h n ();rw[g9];have e:wA rs (bM rs E F n).E (bM rs E F n).F n=wA rs E F n:=fv (λf=>List.flatMap f (Ff rs n)) (funext λm=>yb h2 m);let(g1,g2):=so (l:=wA rs (bM rs E F n).E (bM rs E F n).F n) (p:=bM rs E F n) λw hw=>by rw[e] at hw;rw[h2];let(m,hm,hw):=sW.mp hw;let(k,hk,rfl):=gH.mp hw;exact pV I (h m (sW.mpr #[n,nP.mpr (),hm])) (λw k=>fR _) hk
  calc#[g1.trans h1,λb k=>(g2 b k).trans (h2 b k)]
def yd{M:List Mv}{E:List Ent}(I:Iv 6 M #[E,F,false])(h:(bM rs E F 6).b=false):∀m∈jC rs,Fh (bM rs E F 6).get m:=by let(g1,g2):=yc 6 h;rw[show (bM rs E F rs.length).get=Tb.get #[E,F,false] from funext λb=>funext λk=>g1 b k];intro m hm;let(i,hi,hm'):=sW.mp hm;calc Pt I λk hk=>g2 i (nP.mp hi) (isNm m.1,k,jP E F m.2) (sW.mpr #[m,hm',gH.mpr #[k,hk,9]])
end
def pC(x:Int)(c:Str)(k:Int×Str):Bool:=decide (k.2=c) && ib x k.1.toNat
def jQ(E F:List Ent):Pl->Int
 |.rw i=>1 * 2 ^ ((i:Int)).toNat
 |.nm h y=>ba E (nk h y)
 |.cl h y c=>qF (pC (ba E (nk h y)) c) F
 |.zr=>0
def fU(E:List Ent):Pl->List (Int×Str)
 |.nm h x=>[nk h x]
 |.cl h y c=>((List.range 60).filter (ib (ba E (nk h y)))).map λ(j:Nat)=>((j:Int),c)
 |_=>[]
def bQ(E F:List Ent)(m:Mv):List (Int×Str):=(fU E m.1).filter λk=>!decide (bitOr (Tb.get #[E,F,false] (isNm m.1) k) (jQ E F m.2)=Tb.get #[E,F,false] (isNm m.1) k)
def stK(w:Bool)(o:Pl)(p:Tb)(k:Int×Str):Tb:={iS p (w,k,jQ p.E p.F o) with b:=true}
def mD(p:Tb)(m:Mv):Tb:=(bQ p.E p.F m).foldl (stK (isNm m.1) m.2) p
def get_mem{E:List Ent}(nd:(E.map (·.1)).Nodup){e:Ent}(h:e∈E):ba E e.1=e.2:=by have h1:=eM e.1 E;rw[uU nd h] at h1;injection h1 with h1;calc h1.symm
theorem d9{k:Int×Str}:∀F:List Ent,ba F k≠0->∃e∈F,e.1=k/\e.2=ba F k
 |[],z=>absurd 9 z
 |e::F,z=>by
  change ∃e'∈e::F,e'.1=_/\e'.2=if e.1=_ then e.2 else ba F _
  by_cases q:e.1=k;calc#[e,d_,q,by rw[ι q]];let(e',h1,h2,h3):=d9 F λy=>z (by change (if e.1=_ then e.2 else ba F _)=0;rw[θ q];calc y);calc#[e',fZ _ h1,h2,by rw[θ q];calc h3]
section
variable{M:List Mv}{p q:Tb}{m:Mv}
theorem uZ(I:Iv n M p)(o:Pl):jQ p.E p.F o=jP p.E p.F o:=by
 cases o with
 |cl h y c=>
  have key:∀b,ib (jQ p.E p.F (.cl h y c)) b=true↔ib (jP p.E p.F (.cl h y c)) b=true:=λb=>by
   rw[<- uX I];change ib (p.F.foldl (B' (pC (ba p.E (nk h y)) c)) 0) b=true↔_;rw[Ap,x8.dI,P9,KL];constructor;rintro⟨e,he,z⟩;rw[iO] at z;have z1:=z.1;unfold pC at z1;rw[iO] at z1;have e1:e.1=((e.1.1.toNat:Int),c):=Prod.ext (by have:=I.pos e he;lia) (χ z1.1);show#[e.1.1.toNat,z1.2,?_];rw[<- e1,show p.get false e.1=e.2 from get_mem I.nF he];calc z.2;rintro⟨j,hj,hb⟩;have hb:ib (ba p.F (j,c)) b=true:=hb;let(e,he,e1,e2):=d9 p.F λz=>by rw[z,BS.dI] at hb;cases hb
   show#[e,he,?_];rw[iO];show#[?_,by rw[e2];calc hb];unfold pC;rw[e1,iO];exact#[ο 9,by rw[kA];calc hj]
  calc eZ (λb=>(key b).mp) λb=>(key b).mpr
 |_=>rfl
def ye(I:Iv n M p)(hn:n<=60){g:Pl}{k:Int×Str}:k∈fU p.E g↔k∈Ik p.E g:=by
 cases g with
 |cl h y c=>
  have b:below n (ba p.E (nk h y)):=I.bl true (nk h y);have e:∀j,j∈(List.range 60).filter (ib (ba p.E (nk h y)))↔j∈mem (ba p.E (nk h y)):=λj=>by rw[mem_iff b.1,yT,nP];exact#[λh=>h.2,λh=>#[qH (b.bit h) hn,h]]
  change k∈List.map _ _↔k∈List.map _ _;rw[gH,gH];calc#[λ#[j,h1,h2]=>#[j,(e j).mp h1,h2],λ#[j,h1,h2]=>#[j,(e j).mpr h1,h2]]
 |_=>calc Iff.rfl
def Au{w:Bool}{o:Pl}{k:Int×Str}:Le p (stK w o p k):=Ar
theorem Cc(hm:m∈M)(ok:uV n m):∀{l:List (Int×Str)}{p:Tb},Iv n M p->(∀k∈l,k∈Ik p.E m.1)->Iv n M (l.foldl (stK (isNm m.1) m.2) p)/\(Ls M p->Ls M (l.foldl (stK (isNm m.1) m.2) p))/\Le p (l.foldl (stK (isNm m.1) m.2) p)
 |[],p,I,_=>#[I,id,Le.refl p]
 |k::l,p,I,h=>by
  have hk:=h k d_;have I1:Iv n M (stK (isNm m.1) m.2 p k):=(I.step (oh I hm hk) (by rw[uZ I];calc mB I ok)).bool true;have L1:Ls M p->Ls M (stK (isNm m.1) m.2 p k):=λL=>L.iS λS hS=>by rw[uZ I];exact pV I (hS m hm) (λw k=>L S hS w k) hk
  let(h1,h2,h3):=Cc hm ok I1 λv hv=>((mC I1).mp (uY (λw k=>Au w k) ((mC I).mpr #[9,h v (fZ _ hv)]))).2;calc#[h1,λL=>h2 (L1 L),Au.trans h3]
def yf(I:Iv n M p)(hn:n<=60):∀k∈bQ p.E p.F m,k∈Ik p.E m.1:=λk hk=>(ye I hn).mp (yT.mp hk).1
def Ss(I:Iv n M p)(hn:n<=60)(hm:m∈M)(ok:uV n m):Iv n M (mD p m)/\(Ls M p->Ls M (mD p m))/\Le p (mD p m)/\(bQ p.E p.F m≠[]->Nw n M p (mD p m)):=by
 have lk:=yf (m:=m) I hn;let(h1,h0,h2):=Cc hm ok I lk;show#[h1,h0,h2,λeV=>?_];unfold mD;cases hl:bQ p.E p.F m with
 |nil=>calc absurd hl eV
 |cons k l=>
  have hk:k∈bQ p.E p.F m:=by rw[hl];exact d_
  have hc:=(yT.mp hk).2;have hb:below n (jQ p.E p.F m.2):=by rw[uZ I];exact mB I ok
  rcases Io (p:=#[p.E,p.F,false]) (w:=(isNm m.1,k,jQ p.E p.F m.2)) (oh I hm (lk k hk)) hb (by change (false || _)=true;rw[P9];calc hc) with z|z
  cases z;let(w,k',b,n1,n2,n3,n4):=z;show#[w,k',b,n1,n2,n3,?_];have I1:=(I.step (w:=(isNm m.1,k,jQ p.E p.F m.2)) (oh I hm (lk k hk)) hb).bool true;show (Cc hm ok I1 λv hv=>((mC I1).mp (uY (λw k=>Au w k) ((mC I).mpr #[9,lk v (by rw[hl];calc fZ _ hv)]))).2).2.2 w k' b ?_;rw[gp] at n4;change ib ((iS p (isNm m.1,k,jQ p.E p.F m.2)).get w k') b=true;rw[gp];calc n4
theorem bK{w:Bool}{o:Pl}:∀{l:List (Int×Str)}{q:Tb},q.b=true->(l.foldl (stK w o) q).b=true
 |[],q,h=>h
 |k::l,q,_=>bK (l:=l) 9
theorem u7(hn:n<=60)(ok:∀m∈M,uV n m):∀{ms:List Mv}{p:Tb},(∀m∈ms,m∈M)->Iv n M p->Iv n M (ms.foldl mD p)/\(Ls M p->Ls M (ms.foldl mD p))/\Le p (ms.foldl mD p)/\((ms.foldl mD p).b=true->p.b=true\/Nw n M p (ms.foldl mD p))/\((ms.foldl mD p).b=false->ms.foldl mD p=p/\∀m∈ms,bQ p.E p.F m=[])
 |[],p,_,I=>#[I,id,Le.refl p,.inl,λ_=>#[9,λm h=>nomatch h]]
 |m::ms,p,hm,I=>by
  have hm0:=hm m d_;let(h1,h0,h2,h3):=Ss I hn hm0 (ok m hm0);let(g1,g0,g2,g3,g4):=u7 hn ok (λv hv=>hm v (fZ _ hv)) h1;have nl:bQ p.E p.F m=[]->mD p m=p:=λz=>by unfold mD;rw[z];rfl
  show#[g1,λL=>g0 (h0 L),h2.trans g2,λhb=>?_,λhb=>?_];by_cases z:bQ p.E p.F m=[];rcases g3 hb with q|q
  rw[nl z] at q;calc .inl q;calc .inr (q.ge h2);calc .inr ((h3 z).le g2);let(e1,e2):=g4 hb;have z:bQ p.E p.F m=[]:=by
   cases hl:bQ p.E p.F m with
   |nil=>rfl
   |cons k l=>
    rw[Fp,e1] at hb;have:(mD p m).b=true:=by unfold mD;rw[hl];exact bK (l:=l) 9
    rw[this] at hb;cases hb
  have e3:=nl z;rw[e3] at e1 e2;show#[by rw[Fp,e3];calc e1,λv hv=>?_];rcases cT.mp hv with rfl|hv
  calc z;calc e2 v hv
def Av(I:Iv n M p)(hn:n<=60)(hc:bQ p.E p.F m=[]):Fh p.get m:=Pt I λk hk=>by
 have nk:¬ k∈bQ p.E p.F m:=by rw[hc];exact eh
 have e:=YL λq=>nk (yT.mpr #[(ye I hn).mpr hk,by change (!decide (bitOr (p.get (isNm m.1) k) _=p.get (isNm m.1) k))=true;rw[ς q];rfl]);rw[<- uZ I,<- e];calc e_ _ _
end
def pW(g:Pl)(h:Nat):kx->List Mv
 |.nm y=>[(g,.nm h y)]
 |.nu _=>[]
def KA(rs:qal)(i h:Nat):Rw->List Mv
 |.new x=>[(.nm h x,.rw i)]
 |.put x o=>pW (.nm h x) h o
 |.get x y k=>[(.nm h x,.cl h y (ly k))]
 |.set y k o=>pW (.cl h y (ly k)) h o
 |.call x g as=>match fnOf rs g with
  |some (s,ps,o)=>(ps.zip as).flatMap (λz=>pW (.nm s z.1) h z.2)++pW (.nm h x) s o
  |none=>[]
 |_=>[]
def Iu(rs:qal)(i:Nat):List Mv:=match rs[i]?,gG 22 i with
 |some r,some h=>KA rs i h r
 |_,_=>[]
def jm(rs:qal)(n:Nat):List Mv:=(List.range n).flatMap (Iu rs)
def Iw(rs:qal)(n:Nat):jm rs (n+1)=jm rs n++Iu rs n:=by unfold jm;rw[UE,List.flatMap_append];simp
def yg{g:Pl}{h:Nat}{o:kx}{m:Mv}:m∈pW g h o↔m=(g,Ih h o)/\Ih h o≠.zr:=by
 cases o with
 |nm y=>calc#[λz=>#[f6.mp z,λq=>nomatch q],λz=>f6.mpr z.1]
 |nu _=>calc#[λz=>(nomatch z),λz=>(z.2 9).elim]
def Xz{h:Nat}{m:Mv}:m∈KA rs i h r↔m∈wy rs i h r/\m.2≠.zr:=by
 cases r with
 |new x=>calc#[λz=>#[z,by rw[f6.mp z];calc λq=>nomatch q],λz=>z.1]
 |get x y k=>calc#[λz=>#[z,by rw[f6.mp z];calc λq=>nomatch q],λz=>z.1]
 |put x o=>change m∈pW _ _ _↔m∈[_]/\_;rw[yg,f6];calc#[λz=>#[z.1,by rw[z.1];calc z.2],λz=>#[z.1,by have:=z.2;rw[z.1] at this;calc this]]
 |set y k o=>change m∈pW _ _ _↔m∈[_]/\_;rw[yg,f6];calc#[λz=>#[z.1,by rw[z.1];calc z.2],λz=>#[z.1,by have:=z.2;rw[z.1] at this;calc this]]
 |call x g as=>
  simp only[KA,wy];cases fnOf rs g with
  |none=>calc#[λz=>(nomatch z),λz=>nomatch z.1]
  |some a=>rw[fu,sW,cT,gH,yg];constructor;rintro (⟨z,hz,hm⟩|⟨rfl,hm⟩);let(rfl,h2):=yg.mp hm;calc#[.inr #[z,hz,9],h2];calc#[.inl 9,hm];rintro⟨rfl|⟨z,hz,rfl⟩,h2⟩;calc .inr #[9,h2];calc .inl #[z,hz,yg.mpr #[9,h2]]
 |_=>calc#[λz=>(nomatch z),λz=>nomatch z.1]
def Iy{m:Mv}:m∈Iu rs i↔m∈Ff rs i/\m.2≠.zr:=by
 unfold Ff Iu;cases rs[i]? with
 |none=>calc#[λz=>(nomatch z),λz=>nomatch z.1]
 |some r=>
  cases gG (bE rs) i with
  |none=>calc#[λz=>(nomatch z),λz=>nomatch z.1]
  |some h=>calc Xz
def u9{m:Mv}:m∈jm rs 6↔m∈jC rs/\m.2≠.zr:=by unfold jm jC;rw[sW,sW];calc#[λ#[i,hi,hm]=>#[#[i,hi,(Iy.mp hm).1],(Iy.mp hm).2],λ#[#[i,hi,hm],hz]=>#[i,hi,Iy.mpr #[hm,hz]]]
def XA{h:Nat}(hr:∀x g as,r=.call x g as->as.length<=04):(wy rs i h r).length<=05/\(KA rs i h r).length<=05:=by
 have l1:∀g h o,(pW g h o).length<=1:=λg h o=>by cases o<;>simp[pW]
 cases r with
 |put x o=>calc#[by simp[wy],jS (l1 _ _ _) 5]
 |set y k o=>calc#[by simp[wy],jS (l1 _ _ _) 5]
 |call x g as=>
  simp only[wy,KA];cases fnOf rs g with
  |none=>calc#[gJ _,gJ _]
  |some a=>
   let(s,ps,o):=a;have ha:=hr x g as 9;have z:(ps.zip as).length<=04:=by rw[CV];lia
   have f:=fS (f:=λz:Str×kx=>pW (.nm s z.1) h z.2) (λz=>l1 _ _ _) (ps.zip as);have:=l1 (.nm h x) s o;calc#[by rw[wq,bN];lia,by rw[kq];lia]
 |_=>calc#[by simp[wy],by simp[KA]]
def Su(hr:∀r∈rs,∀x g as,r=.call x g as->as.length<=04):(jC rs).length<=6 * 05/\∀n,(jm rs n).length<=n * 05:=by
 have h:∀i,(Ff rs i).length<=05/\(Iu rs i).length<=05:=λi=>by
  unfold Ff Iu;cases e:rs[i]? with
  |none=>calc#[gJ _,gJ _]
  |some r=>
   cases gG (bE rs) i with
   |none=>calc#[gJ _,gJ _]
   |some h=>exact XA (hr r (dX e))
 show#[?_,λn=>?_];have:=fS (λi=>(h i).1) (List.range 6)
 rwa [sV] at this
 have:=fS (λi=>(h i).2) (List.range n)
 rwa [sV] at this
end MK
namespace Lay
open PySem L2 VT Gen K5
def Ev(rs:qal)(k j:Nat):Prop:=∃k',k'<k/\rs[k']?\.zZ/\ur 22 k'\j
structure Al(rs:qal)(k:Nat)(s:ω):Prop where
 len:s.length=(st 22 k).length
 XB:∀i j:Nat,(st 22 k)[i]?\j->∃r,rs[j]?\r/\((¬ Ev rs k j/\s[i]?\wd r)\/(Ev rs k j/\s[i]?\("else":Str)/\wd r="if"))
 bot:∀(i:Nat)(x:Str),s[i]?\x->(x=("def":Str)↔i=0)
def Iz(h:wd r="def"):∃f ps,r=.df f ps:=by cases r<;>first|calc#[_,_,9]|calc absurd h (by simp only[wd];decide +kernel)
def Ev.succ{rs:qal}{k j:Nat}(h:Ev rs k j):Ev rs (k+1) j:=let #[k',a,b]:=h;#[k',Kl a,b]
def u_{k:Nat}(h:rs[k]?≠some .zZ):Ev rs (k+1) j↔Ev rs k j:=by show#[λ#[k',a,b,c]=>?_,Ev.succ];by_cases e:k'=k;subst e;calc absurd b h;calc#[k',(),b,c]
section
def Ni{k:Nat}{s:ω}(A:Al rs k s)(hs:st 22 (k+1)=st 22 k)(he:rs[k]?≠some .zZ):Al rs (k+1) s :=
 #[by rw[hs];calc A.len,λi j h=>by rw[hs] at h;let(r,h1,h2):=A.XB i j h;calc#[r,h1,by rw[u_ he];calc h2],A.bot]
def Cd{k:Nat}{s:ω}(A:Al rs k s)(hs:st 22 (k+1)=(st 22 k).dropLast)(he:rs[k]?≠some .zZ):Al rs (k+1) s.dropLast :=
 #[by rw[hs,yZ,yZ,A.len],λi j h=>by
  rw[hs] at h;have hi:=(dA.mp h).1;rw[yZ] at hi;rw[P4,ι hi] at h;let(r,h1,h2):=A.XB i j h;rw[P4,ι (by rw[A.len];calc hi)];exact#[r,h1,by rw[u_ he];calc h2],λi x h=>by
  have hi:=(dA.mp h).1;rw[yZ] at hi;rw[P4,ι hi] at h;calc A.bot i x h]
def va{k:Nat}{s:ω}(W:Pc rs)(hk:k<6)(A:Al rs k s)(hr:rs[k]?\r)(hs:st 22 (k+1)=st 22 k++[k])(he:r≠.zZ)(hb:wd r=("def":Str)↔s=[]):Al rs (k+1) (s++[wd r]):=by
 have Kz:rs[k]?≠some .zZ:=by rw[hr];intro z;exact he (Option.some.inj z)
 have nev:¬ Ev rs (k+1) k:=λ#[k',a,b,c]=>by
  have hm:=List.mem_of_getLast? c;have:=(jx k').2 k hm
  lia
 show#[by rw[hs,kq,kq,A.len];rfl,λi j h=>?_,λi x h=>?_];rw[hs] at h;by_cases hi:i<(st 22 k).length;rw[nN hi] at h;rw[nN (by rw[A.len];calc hi)];let(r',h1,h2):=A.XB i j h;calc#[r',h1,by rw[u_ Kz];calc h2];rw[sU ()] at h;have e:i-(st 22 k).length=0:=by
  cases q:i-(st (bE rs) k).length with
  |zero=>rfl
  |succ m=>rw[q] at h;simp at h
 rw[e] at h;simp at h;subst h;show#[r,hr,.inl #[nev,?_]];rw[sU (by rw[A.len];lia),A.len,e];rfl;by_cases hi:i<s.length;rw[nN hi] at h;calc A.bot i x h;rw[sU ()] at h;have e:i-s.length=0:=by
  cases q:i-s.length with
  |zero=>rfl
  |succ m=>rw[q] at h;simp at h
 rw[e] at h;simp at h;subst h;rw[hb];constructor;rintro rfl;simpa using e;rintro rfl;have:s.length=0:=by lia
 calc Of.mp this
def Nj{k:Nat}{s:ω}(A:Al rs k s)(hr:rs[k]?\.zZ)(hl:s.getLast?\("if":Str))(hs:st 22 (k+1)=st 22 k):Al rs (k+1) (s.dropLast++[("else":Str)]):=by
 have eV:s≠[]:=by rintro rfl;cases hl
 have adU:=Uy.mpr eV;have Ks:s[s.length-1]?\("if":Str):=by rw[<- Fj];exact hl
 show#[by rw[hs,kq,yZ,<- A.len];simp;lia,λi j h=>?_,λi x h=>?_];rw[hs] at h;have hi:i<s.length:=by rw[A.len];exact (dA.mp h).1
 let(r,h1,h2):=A.XB i j h;by_cases e:i=s.length-1;subst e;have hh:ur 22 k\j:=by unfold ur;rw[Fj,<- A.len];exact h
 show#[r,h1,.inr #[#[k,Ba _,hr,hh],?_,?_]];rw[sU (by rw[yZ];lia),yZ,Nat.sub_self];rfl;obtain⟨_,h2⟩|⟨_,h2,_⟩:=h2
 rw[Ks] at h2;calc (Option.some.inj h2).symm;rw[Ks] at h2;calc absurd (Option.some.inj h2) 17;have adV:¬ ur 22 k\j:=λz=>by
  unfold ur at z;rw[Fj,<- A.len] at z;have hw:=(jx (kd:=bE rs) k).1;let(a1,b1):=dA.mp h;let(a2,b2):=dA.mp z;have:=(YK.mp hw) i (s.length-1) a1 a2 ()
  lia
 have hev:Ev rs (k+1) j↔Ev rs k j:=by show#[λ#[k',a,b,c]=>?_,Ev.succ];by_cases e:k'=k;subst e;calc absurd c adV;exact#[k',(),b,c]
 show#[r,h1,?_];rw[hev,nN (by rw[yZ];lia),P4,ι ()];calc h2;by_cases hi:i<s.dropLast.length;rw[nN hi] at h;rw[yZ] at hi;rw[P4,ι hi] at h;calc A.bot i x h;rw[sU ()] at h;have e:i-s.dropLast.length=0:=by
  cases q:i-s.dropLast.length with
  |zero=>rfl
  |succ m=>rw[q] at h;simp at h
 rw[e] at h;simp at h;subst h;rw[yZ] at e hi;have ei:i=s.length-1:=by lia
 have hbo:=A.bot (s.length-1) _ Ks;constructor;intro z;calc absurd z 17;intro z;rw[ei] at z;calc absurd (hbo.mpr z) 17
def lC{s:ω}(h:gz s x=true)(e:s=[]):x="def"\/x="skip":=by subst e;have:E1 (.str x) ([("def":Str),"skip"].map T.str)=true:=h;rw[BL] at this;simpa using this
def jn{s:ω}{l:Str}(h:gz s x=true)(e:s.getLast?\l):(x="give"->l="def")/\(x="else"->l="if")/\(x="end"->l≠"def")/\x≠"def":=by unfold gz at h;rw[e] at h;dsimp only at h;by_cases h1:x="give";rw[ι h1] at h;subst h1;calc#[λ_=>χ h,λz=>absurd z 17,λz=>absurd z 17,by decide +kernel];rw[θ h1] at h;by_cases h2:x="else";rw[ι h2] at h;subst h2;calc#[λz=>absurd z h1,λ_=>χ h,λz=>absurd z 17,by decide +kernel];rw[θ h2] at h;by_cases h3:x="end";rw[ι h3] at h;subst h3;calc#[λz=>absurd z h1,λz=>absurd z h2,λ_=>by simpa using h,by decide +kernel];rw[θ h3] at h;calc#[λz=>absurd z h1,λz=>absurd z h2,λz=>absurd z h3,by simpa using h]
theorem IA(W:Pc rs)(hb:k0 (some []) rs=some []):∀k,k<=6->∃s,k0 (some []) (rs.take k)\s/\Al rs k s
 |0,_=>#[[],9,#[9,λi j h=>by simp[st] at h,λi x h=>by simp at h]]
 |k+1,hk=>by
  let(s,hs,A):=IA W hb k ();have dc:k<6:=by lia
  have hr:=gq dc;let(s',h1,h2,h3):=xu hb k hr;rw[hs] at h1;cases h1;show#[_,h3,?_];generalize rs[k]=r at hr h2;have kk:=c_ hr;have nil:=lC h2;have ne:s≠[]->∃l,s.getLast?\l:=λz=>by let(a,l,e):=nZ z;exact#[l,by rw[e,Uv]]
  cases r with
  |df f ps=>
   have e:s=[]:=by by_cases z:s=[];calc z;let(l,hl):=ne z;exact absurd 9 (jn h2 hl).2.2.2
   have:=va W dc A hr (iG (by rw[kk];rfl) (by rw[kk];rfl)) 4 #[λ_=>e,λ_=>rfl];rw[show wd (.df f ps)="def" from 9] at this ⊢;rw[BM];calc this
  |Kv a=>
   have e:s≠[]:=λz=>by rcases nil z with h|h<;>exact absurd h (by change ¬ (("if":Str)=_);decide +kernel)
   have:=va W dc A hr (iG (by rw[kk];rfl) (by rw[kk];rfl)) 4 #[λh=>absurd h (by change ¬ (("if":Str)=_);decide +kernel),λh=>absurd h e];rw[show wd (.Kv a)="if" from 9] at this ⊢;rw[G2];calc this
  |BJ a=>
   have e:s≠[]:=λz=>by rcases nil z with h|h<;>exact absurd h (by change ¬ (("while":Str)=_);decide +kernel)
   have:=va W dc A hr (iG (by rw[kk];rfl) (by rw[kk];rfl)) 4 #[λh=>absurd h (by change ¬ (("while":Str)=_);decide +kernel),λh=>absurd h e];rw[show wd (.BJ a)="while" from 9] at this ⊢;rw[mi];calc this
  |give a=>have:=Cd A (i_ (by rw[kk];rfl) (by rw[kk];rfl)) (by rw[hr];simp);rw[show wd (.give a)="give" from 9,G3];calc this
  |fin=>have:=Cd A (i_ (by rw[kk];rfl) (by rw[kk];rfl)) (by rw[hr];simp);rw[show wd .fin="end" from 9,uj];calc this
  |zZ=>
   have e:s≠[]:=λz=>by rcases nil z with h|h<;>exact absurd h 17
   let(l,hl):=ne e;have hl2:=(jn h2 hl).2.1 9;rw[hl2] at hl;have:=Nj A hr hl (fJ (by rw[kk];rfl) (by rw[kk];rfl));rw[show wd .zZ="else" from 9,xv];calc this
  |_=>calc Ni A (fJ (by rw[kk];rfl) (by rw[kk];rfl)) (by rw[hr];simp)
end
structure Bl(rs:qal):Prop where
 W:Pc rs
 b:k0 (some []) rs=some []
section
theorem Bl.at(B:Bl rs){k:Nat}(hr:rs[k]?\r):∃s,Al rs k s/\gz s (wd r)=true:=by have hk:=(dA.mp hr).1;let(s,hs,A):=IA B.W B.b k ();let(s',h1,h2,h3):=xu B.b k hr;rw[hs] at h1;cases h1;calc#[s,A,h2]
def Al.h7{k:Nat}{s:ω}(A:Al rs k s):s=[]↔st 22 k=[]:=by rw[<- Of,<- Of,A.len]
def Al.last{k:Nat}{s:ω}(A:Al rs k s){l:Str}(h:s.getLast?\l):∃o r,ur 22 k\o/\rs[o]?\r/\((¬ Ev rs k o/\l=wd r)\/(Ev rs k o/\l="else"/\wd r="if")):=by
 rw[Fj] at h;have hi:=(dA.mp h).1;have hj:(st 22 k)[s.length-1]?\((st 22 k)[s.length-1]'(by rw[<- A.len];calc hi)):=gq _;let(r,h1,h2):=A.XB _ _ hj;have hh:ur 22 k=(st 22 k)[s.length-1]?:=by unfold ur;rw[Fj,<- A.len]
 show#[_,r,hh.trans hj,h1,?_];rw[h] at h2;obtain⟨a,b⟩|⟨a,b,c⟩:=h2
 calc .inl #[a,Option.some.inj b];calc .inr #[a,Option.some.inj b,c]
def lastOf{s:ω}(z:s≠[]):∃l,s.getLast?\l:=by let(a,l,e):=nZ z;calc#[l,by rw[e,Uv]]
def Bl.df(B:Bl rs){k:Nat}{f ps}(hr:rs[k]?\.df f ps):st 22 k=[]:=by let(s,A,m):=B.at hr;rw[<- A.h7];by_cases z:s=[];calc z;let(l,hl):=lastOf z;calc absurd 9 (jn m hl).2.2.2
def Bl.Uc(B:Bl rs){k:Nat}(hr:rs[k]?\r)(h1:wd r≠"def")(h2:wd r≠"skip"):st 22 k≠[]:=by
 let(s,A,m):=B.at hr;rw[Ne,<- A.h7];intro z;rcases lC m z with h|h
 calc h1 h;calc h2 h
theorem Bl.give(B:Bl rs){k:Nat}{a}(hr:rs[k]?\.give a):(st 22 k).length=1:=by
 let(s,A,m):=B.at hr;have z:s≠[]:=λz=>by rcases lC m z with h|h<;>exact absurd h (by change ¬ (("give":Str)=_);decide +kernel)
 let(l,hl):=lastOf z;have hd:=(jn m hl).1 9;rw[Fj,hd] at hl;have:=(A.bot _ _ hl).mp 9;have:=Uy.mpr z;rw[<- A.len]
 lia
def Bl.fin(B:Bl rs){k:Nat}(hr:rs[k]?\.fin):2<=dp 22 k/\∃o r,ur 22 k\o/\rs[o]?\r/\wd r≠"def":=by
 let(s,A,m):=B.at hr;have z:s≠[]:=λz=>by rcases lC m z with h|h<;>exact absurd h 17
 let(l,hl):=lastOf z;have hd:=(jn m hl).2.2.1 9;let(o,r,h1,h2,h3):=A.last hl;show#[?_,o,r,h1,h2,?_];rw[Fj] at hl;have h0:¬ s.length-1=0:=λq=>hd ((A.bot _ _ hl).mpr q);unfold dp;rw[<- A.len]
 lia
 obtain⟨_,q⟩|⟨_,_,q⟩:=h3
 rw[<- q];calc hd;rw[q];decide +kernel
def Bl.head(B:Bl rs){k:Nat}(hr:rs[k]?\r):(st 22 (k+1)).head?=if wd r="give" then none else gG 22 k:=by
 have kk:=c_ hr;have keep:∀{l:qao}{x:Nat},l≠[]->(l++[x]).head?=l.head?:=λ{l x} h=>by cases l with
  |nil=>calc absurd 9 h
  |cons a l=>rfl
 unfold gG;rw[kk];cases r with
 |df f ps=>rw[iG (by rw[kk];rfl) (by rw[kk];rfl),B.df hr,θ (by change ¬ (("def":Str)=_);decide +kernel),ι (show (aX (.df f ps)).df=true from 9)];rfl
 |give a=>
  rw[i_ (by rw[kk];rfl) (by rw[kk];rfl),ι (show wd (.give a)="give" from 9)];have:=B.give hr
  match q:st 22 k,this with
  |[x],_=>rfl
 |fin=>
  rw[i_ (by rw[kk];rfl) (by rw[kk];rfl),θ 17,θ (by simp[aX])];have:=(B.fin hr).1;unfold dp at this
  match q:st 22 k,this with
  |x::y::l,_=>rfl
 |Kv a=>rw[iG (by rw[kk];rfl) (by rw[kk];rfl),θ (by change ¬ (("if":Str)=_);decide +kernel),θ (by simp[aX])];calc keep (B.Uc hr (by change ¬ (("if":Str)=_);decide +kernel) (by change ¬ (("if":Str)=_);decide +kernel))
 |BJ a=>rw[iG (by rw[kk];rfl) (by rw[kk];rfl),θ (by change ¬ (("while":Str)=_);decide +kernel),θ (by simp[aX])];calc keep (B.Uc hr (by change ¬ (("while":Str)=_);decide +kernel) (by change ¬ (("while":Str)=_);decide +kernel))
 |put x a=>rw[fJ (by rw[kk];rfl) (by rw[kk];rfl),θ (by change ¬ (("put":Str)=_);decide +kernel),θ (by simp[aX])]
 |DH x a o b=>rw[fJ (by rw[kk];rfl) (by rw[kk];rfl),θ (by change ¬ (("do":Str)=_);decide +kernel),θ (by simp[aX])]
 |new x=>rw[fJ (by rw[kk];rfl) (by rw[kk];rfl),θ (by change ¬ (("new":Str)=_);decide +kernel),θ (by simp[aX])]
 |get x a b=>rw[fJ (by rw[kk];rfl) (by rw[kk];rfl),θ (by change ¬ (("get":Str)=_);decide +kernel),θ (by simp[aX])]
 |set x a b=>rw[fJ (by rw[kk];rfl) (by rw[kk];rfl),θ (by change ¬ (("set":Str)=_);decide +kernel),θ (by simp[aX])]
 |call x f as=>rw[fJ (by rw[kk];rfl) (by rw[kk];rfl),θ (by change ¬ (("call":Str)=_);decide +kernel),θ (by simp[aX])]
 |fail x=>rw[fJ (by rw[kk];rfl) (by rw[kk];rfl),θ (by change ¬ (("fail":Str)=_);decide +kernel),θ (by simp[aX])]
 |_=>rw[fJ (by rw[kk];rfl) (by rw[kk];rfl),θ 17,θ (by simp[aX])]
end
end Lay
namespace MK
open PySem L2 VT Gen BS K5 x8 Lay
open PySem.Builtin (bitOr)
def Ce(E F:List Ent)(h:Nat)(o:kx):jP E F (Ih h o)=gB E h o:=by cases o<;>rfl
def w_eq(rs:qal)(E F:List Ent)(i h:Nat)(hr:okR r=true):(wy rs i h r).flatMap (wM E F)=wOf E F i h r:=by
 cases r with
 |new x=>rfl
 |get x y k=>rfl
 |put x o=>change [(true,_,jP E F (Ih h o))]++[]=[(true,_,gB E h o)];rw[Ce];rfl
 |set y k o=>change List.map _ (List.map _ _)++[]=List.map _ _;rw[Bb,rA,Ce];rfl
 |call x g as=>cases hr
 |_=>rfl
theorem w_call{g:Str}{s:Nat}{o:kx}(e:fnOf rs g\(s,ps,o))(E F:List Ent)(i h:Nat)(x:Str)(as:List kx) :
  (wy rs i h (.call x g as)).flatMap (wM E F)=(true,nk h x,gB E s o)::(ps.zip as).map λz=>(true,nk s z.1,gB E h z.2):=by
 simp only[wy,e];rw[List.flatMap_cons,List.flatMap_map];change (true,nk h x,jP E F (Ih s o))::([]++_)=_;rw[Ce,List.nil_append]
 congr 1
 induction ps.zip as with
 |nil=>rfl
 |cons z l ih=>rw[List.flatMap_cons,ih];change (true,nk s z.1,jP E F (Ih h z.2))::_=_;rw[Ce];rfl
def Cf{g:Str}{s:Nat}{o:kx}(h:fnOf rs g\(s,ps,o)):∃f e,qU (a_ rs 6) g\s/\rs[s]?\.df f ps/\endsAt 22 6 s\e/\rs[e]?\.give o:=by
 unfold fnOf at h;cases h1:qU (a_ rs rs.length) g with
 |none=>rw[h1] at h;cases h
 |some s'=>
  rw[h1] at h;dsimp only at h;cases h2:rs[s']? with
  |none=>rw[h2] at h;cases h
  |some r=>
   rw[h2] at h;cases r with
   |df f XC=>
    cases h3:endsAt (bE rs) rs.length s' with
    |none=>rw[h3] at h;cases h
    |some e=>
     rw[h3] at h;dsimp only at h;cases h4:rs[e]? with
     |none=>rw[h4] at h;cases h
     |some r=>
      rw[h4] at h;cases r with
      |give o'=>cases h;calc#[f,e,9,h2,h3,h4]
      |_=>cases h
   |_=>cases h
def Cg(B:Bl rs){s:Nat}{f:Str}(hs:rs[s]?\.df f ps):∃e o,endsAt 22 6 s\e/\rs[e]?\.give o/\s<e/\∀m,s<=m->m<e->∀o,rs[m]?≠some (.give o):=by
 have hsl:=(dA.mp hs).1;have ZM:(bE rs s).op=true:=by rw[c_ hs];rfl
 have d0:dp 22 s=0:=by unfold dp;rw[B.df hs];rfl
 let(e,h1,h2,h3,h4,h5):=end_is B.W hsl ZM;have he:endsAt 22 6 s\e:=by unfold endsAt;rw[ι ZM];exact h1
 have oK:=(um B.W h3 he hsl).1;have XD:rs[e]?\rs[e]:=gq h3;have hd:=xy B.W h3 oK;have hg:∃o,rs[e]=.give o:=by
  rw[c_ XD] at oK;generalize rs[e]=r at XD oK;cases r with
  |give o=>calc#[o,9]
  |fin=>have:=(B.fin XD).1;lia
  |_=>cases oK
 let(o,ho):=hg;rw[ho] at XD;show#[e,o,he,XD,h2,λm a b o' hm=>?_];by_cases z:m=s;subst z;rw[hs] at hm;cases hm;have BZ:m<6:=by lia
 have:=xy B.W BZ (by rw[c_ hm];rfl);have g:=B.give hm;have n:=h5 m () b;unfold dp at *
 lia
def FQ(B:Bl rs){g:Str}(hi:rs[i]?\.df g ps):∃a,fnOf rs g\a:=by let(j,hj):=mj hi 6 (dA.mp hi).1;let(_,qs,hq):=o_ 6 hj;let(e,o,h1,h2,_):=Cg B hq;show#[(j,qs,o),?_];unfold fnOf;simp only[hj,hq,h1,h2]
end MK
namespace VT
open PySem PySem.Spec PyProof.Rows L2
theorem kj{α:Type}{f u:α->T}{h:FG}{fe:FE}{ρ:En}:∀{xs:List α}{Q:Φ->Prop},(∀x∈xs,∀r:T->Prop,r (u x)->h (f x) ρ λρ2=>fe ρ2 r)->Q (xs.map u)->dh h LV fe ρ (xs.map f) Q
 |[],Q,_,hq=>hq
 |x::xs,Q,step,hq=>by simp only[fj,dh];calc step x d_ (λy=>dh h LV fe ρ (xs.map f) λus=>Q (y::us)) (kj (Q:=λus=>Q (u x::us)) (λy hy=>step y (fZ _ hy)) hq)
theorem c7{α:Type}{f u:α->T}{p:α->Bool}{h:FG}{fc:FB}{fe:FE}{ρ:En}:∀{xs:List α}{Q:Φ->Prop},(∀x∈xs,∀r s:Prop,(if p x=true then ∀k:T->Prop,(k (u x)->r)->r else s)->True)->(∀x∈xs,∀(k:T->Prop)(s:Prop),(if p x=true then k (u x) else s)->h (f x) ρ λρ2=>fc ρ2 λb=>if b=true then fe ρ2 k else s)->Q ((xs.filter p).map u)->dh h fc fe ρ (xs.map f) Q
 |[],Q,_,_,hq=>hq
 |x::xs,Q,t0,step,hq=>by simp only[fj,dh];show step x d_ _ _ ?_;by_cases hp:p x=true;rw[ι hp];rw[Z1 hp] at hq;calc c7 (Q:=λus=>Q (u x::us)) (λ_ _ _ _ _=>trivial) (λy hy=>step y (fZ _ hy)) hq;rw[θ hp];rw[Z2 hp] at hq;calc c7 (λ_ _ _ _ _=>trivial) (λy hy=>step y (fZ _ hy)) hq
def Sv{f g:FB}{K:Bool->Prop}{P:Prop}(h:∀k:Bool->Prop,(¬ P->k true)->(P->k false)->fOr f g ρ k)(h1:¬ P->K true)(h2:P->K false):fOr f g ρ K:=h K h1 h2
end VT
namespace cV
open PySem L2 VT Gen K5 Lay BS x8 MK
open PySem.Builtin (bitOr bitAnd)
def top(i:Nat):Stmt:=PySem.Challenge.pw_slicewise_k25_the_least_closed_table.main.body.getD i (.Pass #[0,0,0,0])
abbrev IB:Stmt:=top 1
abbrev mE:Stmt:=top 2
abbrev km:Stmt:=top 08
abbrev pX:Stmt:=top 018
abbrev pY:Stmt:=top 019
abbrev vb:Stmt:=top 20
abbrev vd:Stmt:=top 21
abbrev mF:Stmt:=top 022
abbrev mG:Stmt:=top 023
abbrev vf:Stmt:=top 024
abbrev vg:Stmt:=top 25
abbrev iy:Stmt:=top 26
abbrev iz:Stmt:=top 027
abbrev pZ:Stmt:=inClass (top 017) 0
structure XE(mg:qae):Prop where
 enumerate:mg "enumerate"=none
 sorted:mg "sorted"=none
 range:mg "range"=none
 zip:mg "zip"=none
structure Ud(K:qaf)(C:Addr):Prop where
 cl:FL K C
 vh:cK K C "names"
 oj:cK K C "cells"
def bH(h:n<=1000):n<=sizeLine:=Gen.small h
def jo:bootBuiltins "sorted"\.builtin "sorted":=by decide +kernel
abbrev Ci(l:qao):Φ:=l.map λ(k:Nat)=>T.int (k:Int)
def lq(ts:Φ)(q:qam):Prop:=E2 λ(x:Int) (k:Nat)=>ts=[.int x,.int (k:Int)]/\q (.vw (.bl (ib x k)))
def p6(ts:Φ)(q:qam):Prop:=∃x:Int,ts=[.int x]/\Builtin.Int.intBits x<=64/\q (.fr (.lst (Ci (mem x))))
def IC:T->Str
 |.str x=>if nQ.fB x=true then x else "#"
 |_=>"#"
def mH(ts:Φ)(q:qam):Prop:=∃t,ts=[t]/\Nm.Hu t/\q (.vw (.str (IC t)))
def ID(C:Addr)(ts:Φ)(q:T->Prop):Prop:=E2 λt1 t2=>ts=[t1,t2]/\q (.ins C fN [t1,t2])
def p7(CS a1 a2:Addr)(E F:List Ent):T:=.ins CS fN [.pin a1 (.dt (cu E) (cQ E)),.pin a2 (.dt (cu F) (cQ F))]
def Pu(CS:Addr)(ts:Φ)(q:qam):Prop:=E6 λ(a1 a2:Addr) (E F:List Ent) (x:Int) (c:Str)=>ts=[p7 CS a1 a2 E F,.int x,.str c]/\Builtin.Int.intBits x<=64/\q (.vw (.int (ZJ F x c)))
def XF:Rw->Prop
 |.get _ _ k=>Nm.Hu (nY k)
 |.set _ k _=>Nm.Hu (nY k)
 |_=>True
def XG(rs:qal):Rw->Prop
 |.call _ g as=>as.length<=04/\∃a,fnOf rs g\a
 |_=>True
def wN(a1:Addr)(E:List Ent)(p:(Int×Str)×Int):T:=.tup [.pin a1 (.dt (cu E) (cQ E)),.kt (kK p.1),.int p.2]
def IE(C:Addr)(ts:Φ)(q:qam):Prop:=E11 λ(rs:qal) (a1:Addr) (E:List Ent) (i:Nat) (x g:Str) (as:List kx) (h s:Nat) (ps:ω) (o:kx)=>ts=[iL C rs,.pin a1 (.dt (cu E) (cQ E)),.int (i:Int)]/\rs[i]?\.call x g as/\as.length<=04/\gG 22 i\h/\fnOf rs g\(s,ps,o)/\q (.fr (.lst (wN a1 E (nk h x,gB E s o)::(ps.zip as).map λz=>wN a1 E (nk s z.1,gB E h z.2))))
def Aw(C CS:Addr)(ts:Φ)(q:qam):Prop:=E8 λ(rs:qal) (a1 a2:Addr) (E F:List Ent) (i:Nat) (r:Rw) (h:Nat)=>ts=[iL C rs,p7 CS a1 a2 E F,.int (i:Int)]/\rs[i]?\r/\XG rs r/\XF r/\gG 22 i\h/\i<=1000/\(∀k,Builtin.Int.intBits (ba E k)<=64)/\q (.fr (.lst (((wy rs i h r).flatMap (wM E F)).map (wT a1 a2 E F))))
def nzE(E:List Ent):List Ent:=E.filter λe=>!decide (e.2=0)
def g8{f:α->β}:∀{l:List α}{zs:List β},zs.Perm (l.map f)->∃bs:List α,bs.Perm l/\zs=bs.map f:=by
 intro l zs p;generalize e:l.map f=m at p;induction p generalizing l with
 |nil=>calc#[[],by cases l<;>simp_all,9]
 |cons x _ ih=>
  cases l with
  |nil=>cases e
  |cons a l=>cases e;let(bs,h,rfl):=ih 9;calc#[a::bs,h.cons a,9]
 |swap x y l'=>
  cases l with
  |nil=>cases e
  |cons a l=>cases l with
   |nil=>cases e
   |cons b l=>cases e;calc#[b::a::l,.swap _ _ _,9]
 |trans _ _ R5 R6=>let(bs,h1,rfl):=R6 e;let(cs,h2,rfl):=R5 9;calc#[cs,h2.trans h1,9]
def Cj(ts:Φ)(q:qam):Prop:=E2 λ(E:List Ent) (o:Obj)=>ts=[.df o (cu E) (cQ E)]/\E.length<=100000/\∀bs:List Ent,bs.Perm (nzE E)->q (.fr (.lst (bs.map hV)))
def XH(C:Addr)(q:qam):FS:=λd ρ=>E12 λ(rs:qal) (a1:Addr) (E:List Ent) (i:Nat) (x g:Str) (as:List kx) (h s:Nat) (ps:ω) (o:kx) (f:Str)=>ρ=[aJ (iL C rs),aJ (.pin a1 (.dt (cu E) (cQ E))),aJ (.int (i:Int)),aJ (aV (.call x g as)),aJ (.int (h:Int)),aJ (.int (s:Int)),aJ (qD o),some (.lst [wN a1 E (nk h x,gB E s o)],true),none,none] /\
 rs[s]?\.df f ps/\as.length<=04/\q (.fr (.lst (wN a1 E (nk h x,gB E s o)::(ps.zip as).map λz=>wN a1 E (nk s z.1,gB E h z.2))))/\∀ρ r,q r->d.rt ρ r
def zip_map(f:α->T)(g:β->T)(l:List α)(m:List β):ue (l.map f) (m.map g)=(l.zip m).map λz=>.tup [f z.1,g z.2]:=by unfold ue;rw[List.zipWith_map,List.zip,List.map_zipWith]
def Sw(x:Int)(k:Nat):decide (bitAnd (x / 2 ^ ((k:Int)).toNat) 1=1)=ib x k:=by rw[kA,Ao];cases ib x k<;>decide
def Sx(x:Int):((rangeT 0 (Builtin.Int.intBits x)).filter λt=>match t with | .int i=>ib x i.toNat|_=>false).map (λt=>t)=Ci (mem x):=by
 unfold rangeT mem;rw[List.map_id',List.filter_map];have e:((λt:T=>match t with | .int i=>ib x i.toNat|_=>false) ∘ λ(i:Nat)=>T.int (0+i))=ib x:=by funext i;change ib x (0+(i:Int)).toNat=ib x i;rw[Fq,kA]
 rw[e];show Fn λi _=>?_;rw[Fq]
def IF(k:Ky):IC (nY k)=ly k:=by unfold ly IC;cases nY k<;>rfl
section
variable{aR cv:Addr}
abbrev XI:ω:=qay
def IG:aI XI qay (aq IB):=L2.gL
theorem Sy(D:Df K mg "has" IB qay f fd):cp P w K mg base "has" qay 1 (cH K 2 lq):=by show D.gQ (jJ D.F IG 9 λbP A outer s H E Ox hr ts q hG=>?_);have nd:=IG.nd;have hu:=bA.dG hr;show#[_,(ak (aL (v9 (Gu hu (ν (LQ (ν (zI (ae 0) (ae 1))) 14)) 14)))),λ_=>?_];let(x,k,rfl,hq):=hG;show#[(),?_];change q (.vw (.bl (decide (bitAnd (x / 2 ^ ((k:Int)).toNat) 1=1))));rw[Sw];calc hq
abbrev su:ω:=["rows"]
def p8:aI su ["rows"] (aq mE):=L2.gL
def q8:(su++(["row"]:ω)).Nodup:=by decide +kernel
theorem Ax(D:Df K mg "members" mE ["rows"] f fd)(M:XE mg)(IH:cp P w K mg base "has" qay 1 (cH K 2 lq)):cp P w K mg base "members" ["rows"] 2 (cH K 1 p6):=by show D.gQ (jJ D.F p8 9 λbP A outer s H E Ox hr ts q hG=>?_);have nd:=p8.nd;have np:∀{i:Nat},aZ #[H,[],Ox] i:=gR;show#[_,(ak (aL (v9 (eC (ts:=["row"]) 9 18 (dw 18 M.range (ν (D' (ae 0)))) (λ_ _ _ _ _ _=>(ay (i:=1) q8 9 7 np)) (λ_ _ _ _ _ _=>(gf (dY (aN IH hr (aa (ai 0) (aa (ai 1) aj)))))) (λ_ _ _ _ _ _=>(ai 1)))))),λ_=>?_];let(x,rfl,hb,hq):=hG;show#[9,(),(),?_,?_];rw[ig];calc bH ();show jr (λt=>match t with | .int i=>ib x i.toNat|_=>false) (λt=>t) (λt ht k r h=>?_) ?_;let(i,hi):=Kj.mp ht;let(_,rfl):=ij hi;have e:0+i=(i:Int):=Fq _;rw[e] at h ⊢;calc#[9,x,i,9,h];change q (.fr (.lst (((rangeT 0 (Builtin.Int.intBits x)).filter λt=>match t with | .int i=>ib x i.toNat|_=>false).map (λt=>t))));rw[Sx];calc hq
abbrev Ay:ω:=["key"]
def m6:aI Ay ["key"] (aq km):=L2.gL
def yh(D:Df K mg "class_of" km ["key"] f fd)(Az:cp P w K mg base "is_field" qax 2 (cH K 1 Nm.Hh)):cp P w K mg base "class_of" ["key"] 03 (cH K 1 mH):=by
 show D.gQ (jJ D.F m6 9 λbP A outer s H E Ox hr ts q hG=>?_);have nd:=m6.nd;show#[_,(ak (aL (v9 (OE (dY (aN Az hr (aa (ai 0) aj))) (VE.vp (ai 0)) ax)))),λ_=>?_];let(t,rfl,ht,hq):=hG;show#[9,t,9,ht,?_];obtain⟨x,rfl,_⟩|⟨i,rfl⟩:=ht
 have hq:q (.vw (.str (if nQ.fB x=true then x else "#"))):=hq;change if nQ.fB x=true then _ else _
 by_cases z:nQ.fB x=true;rw[ι z] at hq ⊢;calc hq;rw[θ z] at hq ⊢;calc hq;calc hq
abbrev Sz:ω:=qaz
def Ck:aI Sz qaz (aq pZ):=L2.gL
def Nk(D:Dc K mg "Sets" "Sets.__init__" pZ qaz cv f fd)(M:Ud K cv):Ac P w K mg base "Sets" cv qaz 1 2 (ID cv):=by
 show D.gQ (fnI D.F Ck 9 λbP A outer s H E as Ox hr us q hl hG=>?_);have nd:=Ck.nd;have cY:=M;show#[_,(ah (il 0 cY.cl cY.vh (ai 1))
  (ak (il 0 cY.cl cY.oj (ai 2)))),?_]
 let(t1,t2,rfl,hq):=hG;calc#[9,by decide,9,by change 1<1000;decide,hq]
abbrev vi:ω:=["sets","rows","kind","told","row"]
def j3:aI vi qaA (aq iy):=L2.gL
def q9(D:Df K mg "read_cells" iy qaA f fd)(M:Ud K cv)(mJ:cp P w K mg base "members" ["rows"] 2 (cH K 1 p6)):cp P w K mg base "read_cells" qaA 03 (cH K 03 (Pu cv)):=by
 show D.gQ (jJ D.F j3 9 λbP A outer s H E Ox hr ts q hG=>?_);have nd:=j3.nd;have hu:=bA.dG hr;have np:∀{i:Nat},aZ #[H,[],Ox] i:=gR;have cY:=M;have hJ:=je hu;show#[_,(ah (aF (i:=03) nd 9 7 (v9 af) np)
  (ah (cg kr 9 (dq (υ (aN mJ hr (aa (ai 1) aj)))) (ay (i:=04) nd 9 7 np)
   (ak (tR (i:=03) nd 9 7 (ν (d8 hJ (ν (dH cY.cl cY.oj (ae 0))) (υ (cq (aa (ai 04) (aa (ai 2) aj)))) (υ af) #[9,9,9,9])) zd nT np)))
  (ak (aL (v9 (VE.vp (ai 03))))))),λ_=>?_]
 let(a1,a2,E,F,x,c,rfl,hb,hq):=hG;show#[9,x,9,hb,cF (λn ρ=>E2 λv b4=>ρ=[aJ (p7 cv a1 a2 E F),aJ (.int x),aJ (.str c),aJ (.int v),b4]/\v=((mem x).take n).foldl (λt (j:Nat)=>bitOr t (ba F (j,c))) 0) #[_,none,9,9] ?_ ?_];rintro n j ρ hj ⟨v,b4,rfl,hv⟩;show#[9,_,9,bH 4,?_];change tP (.int v) ((cx (cu F) (cQ F) (kK (j,c))).getD (.int 0)) (λr=>E2 λv b4=>[aJ (p7 cv a1 a2 E F),aJ (.int x),aJ (.str c),aJ r.t,aJ (.int j)]=[aJ (p7 cv a1 a2 E F),aJ (.int x),aJ (.str c),aJ (.int v),b4]/\v=((mem x).take (n+1)).foldl (λt (j:Nat)=>bitOr t (ba F (j,c))) 0);rw[eM];show#[_,_,9,?_];rw[P7,hj,Ol,<- hv];rfl;rintro ρ ⟨_,b4,rfl,rfl⟩;rw[Fo];calc hq
abbrev sx:ω:=["held"]
def p9:aI sx ["held"] (aq mG):=L2.gL
def j4:(sx++(["key","told"]:ω)).Nodup:=by decide +kernel
theorem AA(D:Df K mg "list_of" mG ["held"] f fd)(M:XE mg):cp P w K mg base "list_of" ["held"] 1 (cH K 1 Cj):=by
 show D.gQ (jJ D.F p9 9 λbP A outer s H E Ox hr ts q hG=>?_);have nd:=p9.nd;have hu:=bA.dG hr;have np:∀{i:Nat},aZ #[H,[],Ox] i:=gR;show#[_,(ak (aL (v9 (aU (TP.iq false) (TP.ji false) 18 M.sorted jo (aK (ν (eC (ts:=["key","told"]) 9 18 (HV (ai 0)) (λ_ _ _ _ _ _=>(cX (n:=2) 9 (aH (ay (i:=1) j4 9 7 np) (aH (ay (i:=2) j4 9 7 np) b_)))) (λ_ _ _ _ _ _=>(gf (i4 hu (ae 2) 14))) (λ_ _ _ _ _ _=>(υ (aT (aa (υ (ar (ae 1) 14)) (aa (υ (ar (ae 1) 14)) (aa (ai 2) aj)))))))) aS))))),λ_=>?_];let(E,o,rfl,hlen,hq):=hG;have ez:((cu E).zip (cQ E)).map ZG=E.map λe=>.tup [HH (kK e.1),.int e.2]:=by unfold cu cQ;rw[List.zip_map',rA];rfl
 show#[9,by unfold cu cQ;rw[bN,bN],?_];rw[ez];show#[by rw[bN,π];lia,c7 (u:=hV) (p:=λe=>!decide (e.2=0)) (λ_ _ _ _ _=>trivial) (λe he k s hk=>?_) ?_];show#[9,9,?_];change if (!decide (e.2=0))=true then _ else _
 by_cases z:(!decide (e.2=0))=true;rw[ι z] at hk ⊢;calc#[_,ag 9,_,ag 9,bH 4,hk];rw[θ z] at hk ⊢;calc hk;have hl:=TK (λe:Ent=>!decide (e.2=0)) E;show#[_,9,by rw[bN];lia,λt ht=>?_,λzs p=>?_];let(e,_,rfl):=gH.mp ht;calc#[_,_,_,9,_,9];let(bs,p1,rfl):=g8 p;calc hq bs p1
abbrev vj:ω:=["layout","names","place","row","home","start","given","told","name","operand"]
def j5:aI vj qaB (aq iz):=L2.gL
theorem q_(D:Df K mg "call_wants" iz qaB f fd)(M:XE mg)(M1:RY K aR):cp P w K mg base "call_wants" qaB 1 (cH K 03 (IE aR)):=by
 show D.gQ (jJ D.F j5 9 λbP A outer s H E Ox hr ts q hG=>?_);have nd:=j5.nd;have hu:=bA.dG hr;have np:∀{i:Nat},aZ #[H,[],Ox] i:=gR;have aE:=M1;have hJ:=je hu;show#[_,(ah (aF (i:=03) nd 9 7 (v9 (ar (ν (dH aE.cl aE.d5 (ae 0))) (ae 2))) np)
  (ah (aF (i:=04) nd 9 7 (v9 (ar (ν (dH aE.cl aE.jy (ae 0))) (ae 2))) np)
  (ah (aF (i:=05) nd 9 7 (v9 (RU hJ (ν (dH aE.cl aE.uF (ae 0))) (ν (ar (ae 03) 14)))) np)
  (ah (aF (i:=06) nd 9 7 (v9 (ar (ν (ar (ν (dH aE.cl aE.d5 (ae 0))) (ν (ar (ν (dH aE.cl aE.Hr (ae 0))) (ae 05))))) 14)) np)
  (ah (cN (i:=07) nd 9 7 (v9 (bD (aa (υ (aT (aa (ai 1) (aa 40 (aa (υ (d8 hJ (ae 1) (υ (cq (aa (ai 05) (aa (ai 06) aj)))) (υ af) #[9,9,9,9])) aj))))) aj))) np)
  (iQ.weak (u:=(XH aR q)) (ah (cg kr 9 (GV 18 M.zip (υ (ar (ν (ar (ν (dH aE.cl aE.d5 (ae 0))) (ae 05))) 14)) (υ (ar (ae 03) 14))) (cX (n:=2) 9 (aH (ay (i:=08) nd 9 7 np) (aH (ay (i:=09) nd 9 7 np) b_)))
   (ak (br (cR 07 ni nq aW aQ (aa (υ (aT (aa (ai 1) (aa (υ (cq (aa (ai 05) (aa (ai 08) aj)))) (aa (υ (d8 hJ (ae 1) (υ (cq (aa (ai 04) (aa (ai 09) aj)))) (υ af) #[9,9,9,9])) aj))))) aj)))))
  (ak (aL (gc 07 np)))) ?w1)))))),λ_=>?main]
 case w1=>
  rintro d ρ ⟨rs,a1,E,i,x,g,as,h,st,ps,o,f',rfl,h2,ha,hq,fin⟩;show#[9,_,9,_,eU h2,_,aaN,_,aaO,?_];change iF (ue (ps.map T.str) (as.map qD)) _ _ _ _;rw[zip_map];show cF (λn ρ=>E3 λts b8 b9=>ρ=[aJ (iL aR rs),aJ (.pin a1 (.dt (cu E) (cQ E))),aJ (.int (i:Int)),aJ (aV (.call x g as)),aJ (.int (h:Int)),aJ (.int (st:Int)),aJ (qD o),some (.lst ts,true),b8,b9]/\ts=wN a1 E (nk h x,gB E st o)::((ps.zip as).take n).map λz=>wN a1 E (nk st z.1,gB E h z.2)) #[_,none,none,9,9] ?_ ?_;rintro n z ρ hz ⟨ts,b8,b9,rfl,Cm⟩;have hn:=(dA.mp hz).1;have hs:19<sizeLine:=by
   rw[Cm,wq,bN,Om,π];rw[CV] at hn
   lia
  have es:ts++[wN a1 E (nk st z.1,gB E h z.2)]=wN a1 E (nk h x,gB E st o)::((ps.zip as).take (n+1)).map λz=>wN a1 E (nk st z.1,gB E h z.2):=by rw[Cm,P7,hz,qz];rfl
  let(z1,z2):=z;have fin2:∀v:T,v=.int (gB E h z2)->E3 λhU b8 b9=>[aJ (iL aR rs),aJ (T.pin a1 (.dt (cu E) (cQ E))),aJ (.int (i:Int)),aJ (aV (.call x g as)),aJ (.int (h:Int)),aJ (.int (st:Int)),aJ (qD o),some (.lst (ts++[.tup [.pin a1 (.dt (cu E) (cQ E)),.kt (kK (nk st z1)),v]]),true),aJ (.str z1),aJ (qD z2)]=[aJ (iL aR rs),aJ (.pin a1 (.dt (cu E) (cQ E))),aJ (.int (i:Int)),aJ (aV (.call x g as)),aJ (.int (h:Int)),aJ (.int (st:Int)),aJ (qD o),some (.lst hU,true),b8,b9]/\hU=wN a1 E (nk h x,gB E st o)::((ps.zip as).take (n+1)).map λz=>wN a1 E (nk st z.1,gB E h z.2):=λv e=>by subst e;exact#[_,_,_,9,es]
  show#[9,9,bH 4,?_];cases z2 with
  |nm y=>calc#[bH 4,bH 4,hs,fin2 _ (eM ((h:Int),y) E)]
  |nu m=>exact#[bH 4,bH 4,hs,fin2 _ (by rw[lx];rfl)]
  rintro ρ ⟨ts,b8,b9,rfl,rfl⟩;rw[Fo];exact fin _ _ hq
 case main=>
  let(rs,a1,E,i,x,g,as,h,st,ps,o,rfl,cw,ha,hh,hf,hq):=hG;let(f',e,h1,h2,h3,h4):=Cf hf;have XJ:i<6:=(dA.mp cw).1;have C5:st<6:=(dA.mp h2).1;have hdg:jM ((a_ rs 6).map λp=>(Sum.inr p.1:Key)) ((a_ rs 6).map λp=>T.int (p.2:Int)) (Sum.inr g)\.int (st:Int):=by rw[Hi,h1];rfl
  show#[9,_,9,_,eU cw,9,_,9,.int (h:Int),(pF XJ).trans (by rw[hh];rfl),9,_,9,_,aaN,_,hdg,9,_,9,9,_,9,.int (e:Int),(Mx C5).trans (by rw[h3];rfl),_,eU h4,_,aaM,_,aaM,bH 4,?_];cases o with
  |nm y=>show#[bH 4,bH 4,bH 4,?_];change XH aR q _ [aJ (iL aR rs),aJ (.pin a1 (.dt (cu E) (cQ E))),aJ (.int (i:Int)),aJ (aV (.call x g as)),aJ (.int (h:Int)),aJ (.int (st:Int)),aJ (qD (.nm y)),some (.lst [.tup [.pin a1 (.dt (cu E) (cQ E)),.kt (kK (nk h x)),(cx (cu E) (cQ E) (kK (nk st y))).getD (.int 0)]],true),none,none];rw[eM];calc#[rs,a1,E,i,x,g,as,h,st,ps,.nm y,f',9,h2,ha,hq,λ_ _ h=>h]
  |nu n=>show#[bH 4,bH 4,bH 4,?_];rw[lx];calc#[rs,a1,E,i,x,g,as,h,st,ps,.nu n,f',9,h2,ha,hq,λ_ _ h=>h]
abbrev Cn:ω:=["layout","sets","place","row","home","names","given"]
def yi:aI Cn qaC (aq vg):=L2.gL
def yj:(Cn++(["one"]:ω)).Nodup:=by decide +kernel
theorem II(D:Df K mg "wants" vg qaC f fd)(M:RY K aR)(M1:Ud K cv)(vk:cp P w K mg base "read_cells" qaA 03 (cH K 03 (Pu cv)))(p_:cp P w K mg base "class_of" ["key"] 03 (cH K 1 mH))(mJ:cp P w K mg base "members" ["rows"] 2 (cH K 1 p6))(vm:cp P w K mg base "call_wants" qaB 1 (cH K 03 (IE aR))):cp P w K mg base "wants" qaC 04 (cH K 03 (Aw aR cv)):=by
 show D.gQ (jJ D.F yi 9 λbP A outer s H E Ox hr ts q hG=>?_);have nd:=yi.nd;have hu:=bA.dG hr;have np:∀{i:Nat},aZ #[H,[],Ox] i:=gR;have aE:=M;have cY:=M1;have hJ:=je hu;show#[_,(ah (aF (i:=03) nd 9 (.inr 9) (v9 (ar (ν (dH aE.cl aE.d5 (ae 0))) (ae 2))) np)
  (ah (aF (i:=04) nd 9 7 (v9 (ar (ν (dH aE.cl aE.jy (ae 0))) (ae 2))) np)
  (ah (aF (i:=05) nd 9 7 (v9 (dH cY.cl cY.vh (ae 1))) np)
  (ah (bb (bt hu (ν (ar (ae 03) 14)) (ν ax))
   (ak (aL (v9 (bD (aa (υ (aT (aa (ai 05) (aa 40 (aa (υ (oS 14 (ae 2))) aj))))) aj)))))
   aM)
  (ah (bb (bt hu (ν (ar (ae 03) 14)) (ν ax))
   (ak (aL (v9 (bD (aa (υ (aT (aa (ai 05) (aa 40 (aa (υ (d8 hJ (ae 05) 40 (υ af) #[9,9,9,9])) aj))))) aj)))))
   aM)
  (ah (bb (bt hu (ν (ar (ae 03) 14)) (ν ax))
   (ak (aL (v9 (bD (aa (υ (aT (aa (ai 05) (aa 40 (aa (υ (aN vk hr (aa (ai 1) (aa (υ (d8 hJ (ae 05) 40 (υ af) #[9,9,9,9])) (aa (υ (aN p_ hr (aa (υ (ar (ae 03) 14)) aj))) aj))))) aj))))) aj)))))
   aM)
  (ah (bb (bt hu (ν (ar (ae 03) 14)) (ν ax))
   (ah (aF (i:=06) nd 9 (.inr 9) (v9 (d8 hJ (ae 05) 40 (υ af) #[9,9,9,9])) np)
   (ak (aL (v9 (eC (ts:=["one"]) 9 18 (dq (υ (aN mJ hr (aa (υ (d8 hJ (ae 05) 40 (υ af) #[9,9,9,9])) aj)))) (λ_ _ _ _ _ _=>(ay (i:=07) yj 9 7 np)) (λ_ _ _ _ _ _=>nU) (λ_ _ _ _ _ _=>(υ (aT (aa (υ (dH cY.cl cY.oj (ae 1))) (aa (υ (cq (aa (ai 07) (aa (υ (aN p_ hr (aa (υ (ar (ae 03) 14)) aj))) aj)))) (aa (ai 06) aj)))))))))))
   aM)
  (ah (bb (bt hu (ν (ar (ae 03) 14)) (ν ax))
   (ak (aL (v9 (aN vm hr (aa (ai 0) (aa (ai 05) (aa (ai 2) aj)))))))
   aM)
  (ak (aL (v9 (bD aj)))))))))))),λ_=>?_]
 let(rs,a1,a2,E,F,i,r,h,rfl,cw,bB,hkr,hh,hi,ZN,hq):=hG;have XJ:i<6:=(dA.mp cw).1;show#[9,_,9,_,eU cw,9,_,9,.int (h:Int),(pF XJ).trans (by rw[hh];rfl),9,_,9,?_];have sh:(0:Int)<=(i:Int)/\(i:Int)<=1000000/\(1:Int).natAbs<2 ^ 64:=#[(),(),by decide];have hq0:=hq;have hq:=λz=>by rw[w_eq rs E F i h z] at hq;exact hq
 cases r with
 |new x=>
  replace hq:=hq 9
  calc#[_,aaL,_,aaM,bH 4,sh,bH 4,bH 4,hq]
 |put x o=>
  replace hq:=hq 9
  show#[_,aaL,_,aaL,_,aaM,bH 4,_,aaN,?_];cases o with
  |nm y=>show#[bH 4,bH 4,bH 4,?_];change q (.fr (.lst [.tup [.pin a1 (.dt (cu E) (cQ E)),.kt (kK ((h:Int),x)),(cx (cu E) (cQ E) (kK ((h:Int),y))).getD (.int 0)]]));rw[eM];calc hq
  |nu n=>show#[bH 4,bH 4,bH 4,?_];rw[lx];calc hq
 |get x y k=>
  replace hq:=hq 9
  show#[_,aaL,_,aaL,_,aaL,_,aaM,bH 4,?_];show#[_,aaN,bH 4,_,aaO,9,_,9,hkr,9,a1,a2,E,F,ba E ((h:Int),y),ly k,?_,ZN _,bH 4,bH 4,hq];change [p7 cv a1 a2 E F,(cx (cu E) (cQ E) (kK ((h:Int),y))).getD (.int 0),.str (IC (nY k))]=_;rw[eM,IF]
 |set y k a=>
  replace hq:=hq 9
  show#[_,aaL,_,aaL,_,aaL,_,aaL,_,aaO,?_];have fin:∀g:T,g=.int (gB E h a)->dh (hName 07) LV (fT (V3 (cJ (fT (WZ cv "cells" (dS 1))) (cJ (fT (Po (cJ (dP 07) (cJ (fT (i6 1 (cJ (fT (f2 (dS 03) (fT (fC (.int 2))) T8)) l7) mH)) l7)))) (cJ (dP 06) l7))))) [aJ (iL aR rs),aJ (p7 cv a1 a2 E F),aJ (.int (i:Int)),aJ (aV (.set y k a)),aJ (.int (h:Int)),aJ (.pin a1 (.dt (cu E) (cQ E))),aJ g,none] (Ci (mem (ba E ((h:Int),y)))) λus=>q (.fr (.lst us)):=λg eg=>by subst eg;show kj (f:=λ(j:Nat)=>T.int (j:Int)) (λj hj r hr=>?_) (by have OX:=hq;unfold wOf at OX;rw[rA] at OX;calc OX);show#[9,_,9,_,aaN,9,_,9,hkr,?_];show#[bH 4,bH 4,?_];change r (.tup [.pin a2 (.dt (cu F) (cQ F)),.kt [.inl (j:Int),.inr (IC (nY k))],.int (gB E h a)]);rw[IF];exact hr
  have BZ:(Ci (mem (ba E ((h:Int),y)))).length<=sizeLine:=by rw[bN];have h1:=TK (ib (ba E ((h:Int),y))) (List.range (Builtin.Int.intBits (ba E ((h:Int),y))));rw[sV] at h1;have:=ZN ((h:Int),y);exact bH (by change (List.filter _ _).length<=_;lia)
  have e1:[(cx (cu E) (cQ E) (kK ((h:Int),y))).getD (.int 0)]=[.int (ba E ((h:Int),y))]:=by rw[eM]
  cases a with
  |nm z=>calc#[bH 4,9,_,aaM,bH 4,9,ba E ((h:Int),y),e1,ZN _,BZ,fin _ (eM ((h:Int),z) E)]
  |nu n=>calc#[bH 4,9,_,aaM,bH 4,9,ba E ((h:Int),y),e1,ZN _,BZ,fin ((cx (cu E) (cQ E) [.inl (h:Int),.inl n]).getD (.int 0)) (by rw[lx];rfl)]
 |call x g as=>let(ha,(st,ps,o),hf):=bB;rw[w_call hf] at hq0;show#[_,aaL,_,aaL,_,aaL,_,aaL,_,aaL,9,rs,a1,E,i,x,g,as,h,st,ps,o,9,cw,ha,hh,hf,?_];rw[fj,rA] at hq0;calc hq0
 |_=>calc#[_,aaL,_,aaL,_,aaL,_,aaL,_,aaL,gJ _,hq 9]
end
end cV
namespace VT
open PySem PySem.Spec PyProof.Rows L2
section
variable{A:zm}
def At.frame{t:T}(here:∀b∈A,∃u,H b\u/\nG u=true)(fr:∀b o,H b\o->b∉A->H' b\o)(h:At K H A t v):At K H' A t v:=by
 have rd:∀{a:Addr}{u:HO},a∉A->Rd H a u->Rd H' a u:=λn q=>q.elim (λz=>.inl (fr _ _ z n)) λ#[o,z]=>.inr #[o,fr _ _ z n];show At.map (H:=H) (H':=H') (λa vs q=>q.elim (λz=>.inl #[rd z.2 z.1,z.2]) .inr) (λa vs q=>q.elim (λz=>.inl (rd (λm=>?_) z)) .inr) (λa u q=>#[fr _ _ q.1 q.2,q.2]) (λa vs q=>fr _ _ q λm=>by let(u,e,mu):=here a m;rw[e] at q;cases q;cases mu) h
 let(u,e,mu):=here a m;obtain z|⟨o,z⟩:=z
 rw[e] at z;cases z;cases mu;rw[e] at z;cases z;cases mu
end
def XM:S2:=#[[],[],[],[]]
def gMk(i j:Nat)(Gg:T->S2->(S2->T->Prop)->Prop)(SA:Φ->(qam)->Prop):Pa:=λ_ dp ρ=>i<ρ.length/\match ρ[j]? with
 |some (some (l,false))=>∃W:Nat->S2->Prop,(∃m,W m XM)/\∀m s,W m s->Gg l s λs' t=>∃b,t=.bl b/\if b=true then ∃m',m'<m/\W m' s' else
  ∀o1 o2,SA [.df o1 s'.k1 s'.t1] λr1=>∃XN,r1=.fr (.lst XN)/\jH XN=true/\SA [.df o2 s'.k2 s'.t2] λr2=>∃XO,r2=.fr (.lst XO)/\jH XO=true/\dp [.lst XN,.lst XO]
 |_=>False
section
variable{Gg:T->S2->(S2->T->Prop)->Prop}{SA:Φ->(qam)->Prop}
def AB(K:qaf)(H:Hp):az K #[H,[],[]] [] [] [] [] H:=#[9,9,λi e h=>by simp at h,Kn,λa h=>absurd h eh,λp hp=>absurd hp eh,λa h=>absurd h eh,λb o e _=>e,λp hp=>absurd hp eh]
def sy{t:T}{q:Φ->Prop}{Q:VK}(a:At X.K H [] t v)(hG:SA [t] λr=>∃ts,r=.fr (.lst ts)/\jH ts=true/\q ts)(k:∀ts,q ts->jH ts=true->∀l vs H',aO H H'->H l=none->H' l\.lst vs->(∀A,aB X.K H' A ts vs)->Q (.ref l) H'):cH X.K 1 SA ([v]++[]) H Q E0 :=
 BC (AB X.K H) (aB.cons a aB.nil) 9 hG λr #[ts,er,hi,hq] w H' sm z=>by subst er;let(l,rfl,_,(vs,e,av),n,_):=z;calc k ts hq hi l vs H' sm n e λA=>aB.qB hi av
def SE(hB:M.hb=true){s:S2}{H0:Hp}{Ox:zm}{o1 o2:Obj}{kn jl:qak}{dp:Φ->Prop}(sd:SD K M s H)(l1:s.k1.length=kn.length)(e1:H M.a1\.dT (s.k1.zip kn))(q1:aB K H M.Ox s.t1 kn)(l2:s.k2.length=jl.length)(e2:H M.a2\.dT (s.k2.zip jl))(q2:aB K H M.Ox s.t2 jl):∃H2,H2=upd (upd H M.a1 (.f7 o1 (.dT (s.k1.zip kn)))) M.a2 (.f7 o2 (.dT (s.k2.zip jl))) /\
  At K H2 [] (.df o1 s.k1 s.t1) (.ref M.a1)/\At K H2 [] (.df o2 s.k2 s.t2) (.ref M.a2)/\H2 M.a\.ins M.C M.dx (fN.zip [.ref M.a1,.ref M.a2])/\∀b o,H b\o->b∉M.Ox->H2 b\o:=by
 have m1:=M.m1;have m2:=M.m2;have Dt:upd H M.a1 (.f7 o1 (.dT (s.k1.zip kn))) M.a2\.dT (s.k2.zip jl):=by rw[au (Ne.symm M.n3)];exact e2
 show#[_,9,?_,?_,?_,λb o e n=>?_];simp only[At];calc#[M.a1,kn,9,l1,#[by rw[au M.n3,aA],λz=>nomatch z],((q1.wrote m1 e1 9).wrote m2 Dt 9).bq λb hb=>nomatch hb];simp only[At];calc#[M.a2,jl,9,l2,#[aA,λz=>nomatch z],((q2.wrote m1 e1 9).wrote m2 Dt 9).bq λb hb=>nomatch hb];rw[au M.n2,au M.n1];calc sd.ins hB;rw[au (λz=>n (by rw[z];calc m2)),au (λz=>n (by rw[z];calc m1))];calc e
structure Made(C:Addr)(H H3:Hp)(a dx p1 p2:Addr):Prop where
 same:aO H H3
 na:H a=none
 n1:H p1=none
 n2:H p2=none
 ne:p1≠p2
 ea:H3 a\.ins C dx (fN.zip [.ref p1,.ref p2])
 d1:H3 p1\.dT []
 d2:H3 p2\.dT []
def XQ(C:Addr):TE:=λσ H Q=>∀a dx p1 p2 H3,Made C H H3 a dx p1 p2->Q (.ref a) H3
def Nl{xC:Str}{kC:Nat}{fI:Addr}{Pw:FuncData}{Px:ω}{GI:Φ->(T->Prop)->Prop}{pC Py Co pc:Pos}(MI:Mk X.K C fI)(FI:dz 34 X.w X.K X.mg X.base iP kC fI Pw Px (Mu X.K C 2 GI))(XR:∀t1 t2 q,q (.ins C fN [t1,t2])->GI [t1,t2] q)(rI:bA (kC+1) X.A)(gI:Gl X xC)(mI:X.mg xC\.ref C)(bI:Binds X.K Pw Px [])(XS:fY xC:=by decide)(s1:starEach [.Dict [] [] Py,.Dict [] [] Co] 3=(false,eval (.Dict [] [] Py) 3)::starEach [.Dict [] [] Co] 3:=by rfl)(s2:starEach [.Dict [] [] Co] 3=(false,eval (.Dict [] [] Co) 3)::starEach [] 3:=by rfl)(s3:(backTo pc (starEach [.Dict [] [] Co] 3)).any (·.1)=false:=by rfl):PE X (.Call (.Name xC pC) [.Dict [] [] Py,.Dict [] [] Co] [] pc) (XQ C) :=
 PE.weak (tw MI FI rI gI mI bI .nil jV (bw ph (bw ph cW s2) s1) XS s1 s3) λσ H Q h=>by
  intro p1 OZ p2 zR;have sa:aO H (upd H p1 (.dT [])):=aG OZ;have sb:aO (upd H p1 (.dT [])) (upd (upd H p1 (.dT [])) p2 (.dT [])):=aG zR;have AD:p1≠p2:=λz=>by rw[<- z,aA] at zR;cases zR
  have SF:H p2=none:=by rw[au (Ne.symm AD)] at zR;exact zR
  have d1:=sb _ _ aA;have d2:upd (upd H p1 (.dT [])) p2 (.dT []) p2\.dT []:=aA;show uz (q:=λr=>r=.fr (.ins C fN [.pin p1 (.dt [] []),.pin p2 (.dt [] [])])) (AB X.K _) (aB.cons ?_ (aB.cons ?_ aB.nil)) 9 (XR _ _ (λu=>Rt.fr u=.fr (.ins C fN [.pin p1 (.dt [] []),.pin p2 (.dt [] [])])) 9) (λr er v H3 sm z=>?_);calc#[9,#[p1,[],9,9,#[d1,λm=>nomatch m],aB.nil]];calc#[9,#[p2,[],9,9,#[d2,λm=>nomatch m],aB.nil]];subst er;let(a,rfl,_,(dx,vs,hl,ea,hv),n0,_):=z;let(_,_,rfl,h1,_,_,rfl,h2,rfl):=hv;let(rfl,_):=h1;let(rfl,_):=h2;show h a dx p1 p2 H3 #[(sa.trans sb).trans sm,?_,OZ,SF,AD,ea,sm _ _ d1,sm _ _ d2];cases z:H a with
  |none=>rfl
  |some o=>have:=sb _ _ (sa _ _ z);rw[show upd (upd H p1 (.dT [])) p2 (.dT []) a=none from n0] at this;cases this
def AE{xC xg xl:Str}{kC kg kl:Nat}{fI fg fl:Addr}{Pw XT fdl:FuncData}{Px XU psl:ω}{GI:Φ->(T->Prop)->Prop}{px pC p1 Py Co pc pg XW Pz SH pw pp PB KC XY SI pl1 XZ Nn Eh pt pr:Pos}{kt}(hP:Z.P=[])(T6:i≠j)(hN:X.N.Nodup)(hi:X.N[i]?\x)(hj:X.N[j]?\y)(hx:Loc 29 x)(vx:lN 29 x)(vy:lN 29 y)(hp:PassesOwn 16 X.A 3 X.xe)(MI:Mk X.K C fI)(FI:dz 34 X.w X.K X.mg X.base iP kC fI Pw Px (Mu X.K C 2 GI))(XR:∀t1 t2 q,q (.ins C fN [t1,t2])->GI [t1,t2] q)(rI:bA (kC+1) X.A)(gI:Gl X xC)(mI:X.mg xC\.ref C)(bI:Binds X.K Pw Px [])(Fg:dz 34 X.w X.K X.mg X.base iP kg fg XT XU (Pp X.K C Gg))(rg:bA kg X.A)(gg:Gl X xg)(mg:X.mg xg\.ref fg)(kgk:W.keepIn X.K (.ref fg)=true)(bg:Binds X.K XT XU [])(Fl:dz 34 X.w X.K X.mg X.base iP kl fl fdl psl (cH X.K 1 SA))(rl:bA kl X.A)(gl:Gl X xl)(ml:X.mg xl\.ref fl)(klk:W.keepIn X.K (.ref fl)=true)(bl:Binds X.K fdl psl [])(cl:FL X.K C)(n1:cK X.K C "names")(n2:cK X.K C "cells")(hd:fY x:=by decide)(f9:qy x:=by decide)(hd2:fY y:=by decide)(qY:qy y:=by decide)(XS:fY xC:=by decide)(db2:fY xg:=by decide)(db3:fY xl:=by decide)(s1:starEach [.Dict [] [] Py,.Dict [] [] Co] 3=(false,eval (.Dict [] [] Py) 3)::starEach [.Dict [] [] Co] 3:=by rfl)(s2:starEach [.Dict [] [] Co] 3=(false,eval (.Dict [] [] Co) 3)::starEach [] 3:=by rfl)(s3:(backTo pc (starEach [.Dict [] [] Co] 3)).any (·.1)=false:=by rfl)(g1:starEach [.Name y XW,.Name x Pz] 3=(false,eval (.Name y XW) 3)::starEach [.Name x Pz] 3:=by rfl)(g2:starEach [.Name x Pz] 3=(false,eval (.Name x Pz) 3)::starEach [] 3:=by rfl)(g3:(backTo SH (starEach [.Name x Pz] 3)).any (·.1)=false:=by rfl)(he:∀whole,isTrue (.Call (.Name xg pg) [.Name y XW,.Name x Pz] [] SH) 3 whole=(do let v <- whole;standAt (Expr.pos (.Call (.Name xg pg) [.Name y XW,.Name x Pz] [] SH));holding [v] (truthy v)):=by intro _;rfl)(b1:attributeBase (.Name x PB) "names" 3 (eval (.Name x PB) 3)=eval (.Name x PB) 3:=by rfl)(b2:attributeBase (.Name x KC) "cells" 3 (eval (.Name x KC) 3)=eval (.Name x KC) 3:=by rfl)(a1:starEach [.Attribute (.Name x PB) "names" XY] 3=(false,eval (.Attribute (.Name x PB) "names" XY) 3)::starEach [] 3:=by rfl)(a2:starEach [.Attribute (.Name x KC) "cells" SI] 3=(false,eval (.Attribute (.Name x KC) "cells" SI) 3)::starEach [] 3:=by rfl)(a3:(backTo Nn (starEach [] 3)).any (·.1)=false:=by rfl)(a4:(backTo Eh (starEach [] 3)).any (·.1)=false:=by rfl)(t1:starEach [.Call (.Name xl pl1) [.Attribute (.Name x PB) "names" XY] [] Nn,.Call (.Name xl XZ) [.Attribute (.Name x KC) "cells" SI] [] Eh] 3=(false,eval (.Call (.Name xl pl1) [.Attribute (.Name x PB) "names" XY] [] Nn) 3)::starEach [.Call (.Name xl XZ) [.Attribute (.Name x KC) "cells" SI] [] Eh] 3:=by rfl)(t2:starEach [.Call (.Name xl XZ) [.Attribute (.Name x KC) "cells" SI] [] Eh] 3=(false,eval (.Call (.Name xl XZ) [.Attribute (.Name x KC) "cells" SI] [] Eh) 3)::starEach [] 3:=by rfl)(hs:swapsWith (.Call (.Name xC pC) [.Dict [] [] Py,.Dict [] [] Co] [] pc) (some (.Name x px)) p1.line 3=pure false:=by rfl)(hf:X.fn x=true\/X.env.scope.names.lookup x\.local:=by first|calc .inl rfl|calc .inr rfl|assumption) :
  DR X Z [.Assign [.Name x px] (.Call (.Name xC pC) [.Dict [] [] Py,.Dict [] [] Co] [] pc) p1,.While (.Call (.Name xg pg) [.Name y XW,.Name x Pz] [] SH) [.Pass pp] [] pw,
   .Return (some (.Tuple [.Call (.Name xl pl1) [.Attribute (.Name x PB) "names" XY] [] Nn,.Call (.Name xl XZ) [.Attribute (.Name x KC) "cells" SI] [] Eh] kt pt)) pr] (gMk i j Gg SA):=.mk λtm=>
 jT.kN (iT (tf hN hi hx (Nl MI FI XR rI gI mI bI XS s1 s2 s3) hs hf)
  (iT (oC hp (Fw (hY Fg rg gg mg kgk bg .nil jV (bw (cc hj vy hd2 qY) (bw (cc hi vx hd f9) cW g2) g1) db2 g1 g3) he) (kH K0))
    (uM (uM (kH (y8 (j8 (bw (hY Fl rl gl ml klk bl .nil jV (bw (zj (cc hi vx hd f9) b1) cW a1) db3 a1 a3) (bw (hY Fl rl gl ml klk bl .nil jV (bw (zj (cc hi vx hd f9) b2) cW a2) db3 a2 a4) cW t2) t1)))))))) λD σ H #[ρ,O,d,dp,I,q,F]=>by
  let(hil,q):=q;split at q
  rename_i l el
  let(W,w0,step):=q;intro a dx p1 p2 H3 #[sH,na,OZ,SF,AD,ea,d1',d2']
  let M:MG:=#[a,dx,p1,p2,C,H3,(λz=>by rw[z,d1'] at ea;cases ea),(λz=>by rw[z,d2'] at ea;cases ea),AD,true]
  have nO:∀b∈M.Ox,H b=none:=λb hb=>by
   rcases M.mem hb with⟨_,rfl⟩|rfl|rfl
   calc na;calc OZ;exact SF
  have X0:=λb o e=>I.keep b o e (by rw[hP];calc λz=>nomatch z);have sd0:SD X.K M XM H3:=#[λ_=>ea,#[[],9,d1',aB.nil],#[[],9,d2',aB.nil],λb o e _=>e];let(_,_,o1,o2,rfl,v0,rfl,av0):=I.sl j _ el;have at0:=(av0.more λb hb=>.inr (nO b hb)).same sH;have sj:(σ.set i (some (.ref a)))[j]?\some v0:=by rw[wm T6];exact o2
  have si:(σ.set i (some (.ref a)))[i]?\some (.ref a):=EU (by rw[I.lσ];calc hil);show#[λm σ' H'=>σ'=σ.set i (some (.ref a))/\∃s,W m s/\SD X.K M s H'/\At X.K H' M.Ox l v0,?_,?_];let(m,hm):=w0;calc#[m,9,_,hm,sd0,at0];rintro m _ H4 ⟨rfl,s,hw,sd,at4⟩;show#[v0,sj,.ref a,si,#[M,s,l,v0,_,#[9,9],9,at4,#[sd.ins,sd.d1,sd.d2,λb o e _=>e],step m s hw,λs' t ht v H5 SJ a5=>?_]];let(b,rfl,hb):=ht;show#[b,a5,?_];have X1:SD X.K M s' H5:=#[SJ.ins,SJ.d1,SJ.d2,λb o e n=>SJ.fr b o (sd.fr b o e n) n];cases b with
  |true=>
    change if true=true then _ else _
    let(m',lt,hw'):=hb;calc#[λσ' H'=>σ'=σ.set i (some (.ref a))/\∃s,W m' s/\SD X.K M s H'/\At X.K H' M.Ox l v0,λσ' H' h=>#[m',lt,h],9,s',hw',X1,at4.frame sd.here λb o e n=>SJ.fr b o e n]
  |false=>
    change if false=true then _ else _
    let(kn,l1,e1,q1):=X1.d1;let(jl,l2,e2,q2):=X1.d2;show#[p1,_,e1,λo1=>#[p2,_,(by rw[au (Ne.symm AD)];calc e2),λo2=>?_]];let(H6,eH,A1,A2,ea6,fr6):=SE (hB:=rfl) (H0:=H) (Ox:=[]) (dp:=dp) X1 l1 e1 q1 l2 e2 q2;have fr:=λb o e=>by
     have e':=X0 b o e;have n:b∉M.Ox:=λz=>by rw[nO b z] at e';cases e'
     exact fr6 b o (X1.fr b o (sH _ _ e') n) n
    rw[<- show _=_ from eH];show#[.ref a,si,a,C,dx,_,.ref p1,9,ea6,cl,n1,9,sy A1 (hb o1 o2) λXN h1 i1 b1 us1 H7 s7 n7 e7 at7=>#[.ref a,si,a,C,dx,_,.ref p2,9,s7 _ _ ea6,cl,n2,9,sy (A2.same s7) h1 λXO h2 i2 b2 us2 H8 s8 n8 e8 at8=>#[by rw[π];simp,λp hp=>?_]]];have sp:aO H8 (upd H8 p (.tup [.ref b1,.ref b2])):=aG hp;have ne:b1≠b2:=λz=>by rw[<- z,e7] at n8;cases n8
    show F.dp [.lst XN,.lst XO] h2 p [b1,b2] _ #[λb o e=>sp _ _ (s8 _ _ (s7 _ _ (fr b o e))),aA,?_,?_,?_];simp[ne];intro b Zx;simp only[cT,eh,Ψ] at Zx;cases z:Z.H0 b with
    |none=>rfl
    |some o=>
      exfalso;have e6:=fr b o z;obtain rfl|rfl:=Zx
      rw[n7] at e6;cases e6;rw[s7 _ _ e6] at n8;cases n8
    show .cons #[us1,sp _ _ (s8 _ _ e7),((at7 _).same s8).same sp] (.cons #[us2,sp _ _ e8,(at8 _).same sp] .nil)
  calc q.elim
end
section
variable{st:Stmt}{g u:kz}{pos:Pos}
def S2.put2(s:S2)(k:List Key)(t:T):S2:={s with k2:=j1 s.k2 k,t2:=iM s.k2 s.t2 k t}
def PC(M:MG)(n m:Nat)(f:FE):kz:=λd ρ s=>f (ρ.map (m5 M s)) λt=>lr t/\ρ[n]?\some (.ob M.a2,false)/\s.t2.length<16777216/\∃k,ρ[m]?\some (.kt k,false)/\d.nx ρ (s.put2 k t)
theorem sA{tm:qab}{s:S2}{H1:Hp}{A:zm}{D:Ends}{d:Fd}{t:T}{k:List Key}(S1:SG X.K M tm ρ s σ H1)(F:HW X.K M tm d D)(Kx:lr t)(a:At X.K H' A t v)(hn:ρ[n]?\some (.ob M.a2,false))(hlen:s.t2.length<16777216)(hk:ρ[m]?\some (.kt k,false))(hq:d.nx ρ (s.put2 k t)) :
  Fv n σ H1 λx H2=>Fv m σ H2 λy H3=>∃a H4,x=.ref a/\qV H3 a y v H4/\D.nx σ H4:=by
 let(O1,se,I1):=S1.env;let(_,_,_,z1,_,v1,rfl,b1):=I1.sl n _ hn;let(_,_,_,z2,_,v2,rfl,b2):=I1.sl m _ hk;subst b1;let(b,rfl,hb,_):=b2;let(vs,hl,h1,h2):=S1.sd.d2;have hz:(s.k2.zip vs).length<sizeLine:=by
  rw[π,CV,hl,Kq,h2.length]
  lia
 have pq:=x4 s.k2 vs k v hl;show#[.ref M.a2,z1,.ref b,z2,M.a2,_,9,qV.t h1 hb hz,?_];rw[pq.1];have MX:=M.m2;have wr:∀{t:T}{v':V},At X.K H1 M.Ox t v'->At X.K (upd H1 M.a2 (.dT ((j1 s.k2 k).zip (iM s.k2 vs k v)))) M.Ox t v':=λq=>At.wrote MX h1 9 q;have Xw:∀{t:Φ}{v':qak},aB X.K H1 M.Ox t v'->aB X.K (upd H1 M.a2 (.dT ((j1 s.k2 k).zip (iM s.k2 vs k v)))) M.Ox t v':=λq=>aB.wrote MX h1 9 q;have na:=M.n2;show F.nx ρ (s.put2 k t) σ _ #[#[O1,se,I1.lσ,I1.lO,λi e he=>?_,I1.nd,λb hb=>(by rw[se] at hb;calc absurd hb eh),λp hp=>absurd hp eh,λb hb=>?_,λb o e _=>e,λp hp=>?_],?_,?_,?_,λb o e n=>(by rw[au (λz=>n (by rw[z];calc MX))];calc S1.sd.fr b o e n)] hq;let(o,sv,g1,g2,g3):=I1.sl i e he;show#[o,sv,g1,g2,?_];rw[eI se] at g3 ⊢;show g3.map (λt v z=>wr z) λb t' eo _=>?_;subst eo;have:=aC.mpr (dX g1);rw[se] at this;calc absurd this eh;by_cases e:b=M.a2;rw[e,aA];simp;rw[au e];let(u,eu,_):=S1.sd.here b hb;rw[eu];simp;have:=I1.ku p hp;rw[eI se] at this ⊢;calc wr this;exact λz=>by rw[au na];exact S1.sd.ins z
 let(jl,l2,e2,q2):=S1.sd.d1;calc#[jl,l2,by rw[au M.n3];calc e2,Xw q2];calc#[_,pq.2,aA,Xw (pP h2 (pT Kx a))]
def Np(n m:Nat){f:FE}(hu:X.A.units+1<cLine)(he:∀H0 Ox,VE X #[H0,[],Ox] e f)(hN:X.N[n]?\x:=by rfl)(hv:lN 29 x:=by calc jvv 9)(hd:fY x:=by decide)(f9:qy x:=by decide)(Pm:X.N[m]?\y:=by rfl)(Pn:lN 29 y:=by calc jvv 9)(hd2:fY y:=by decide)(qY:qy y:=by decide)(hs:swapsWith e (some (.Subscript 51 (.Name y p2) dj)) pos.line 3=pure false:=by rfl):GS X M (.Assign [.Subscript 51 (.Name y p2) dj] e pos) (PC M n m f):=.mk λtm ε s' σ H D J #[ρ,s,d,S,hg,F]=>by let(O2,yY,I2):=S.up;show k8 hu (cc hN hv hd f9) (cc Pm Pn hd2 qY) (he H [] tm) hs ε s' σ H D J #[_,O2,_,I2,hg,λt ht v H1 sm a=>?_];let(Kx,hn,hlen,k,hk,hq):=ht;calc sA (S.d7 sm) F Kx a hn hlen hk hq
def X2(M:MG)(n m:Nat)(f:FE):kz:=λd ρ s=>Pk M n m f d ρ s\/PC M n m f d ρ s
def GS.or{g u:kz}{st:Stmt}(h1:GS X M st g)(h2:GS X M st u):GS X M st (λd ρ s=>g d ρ s\/u d ρ s):=.mk λtm ε s' σ H D J #[ρ,s,d,S,hg,F]=>by
 obtain hg|hg:=hg
 calc h1.h tm ε s' σ H D J #[ρ,s,d,S,hg,F];calc h2.h tm ε s' σ H D J #[ρ,s,d,S,hg,F]
def SK(n m:Nat){f:FE}(hu:X.A.units+1<cLine)(he:∀H0 Ox,VE X #[H0,[],Ox] e f)(hN:X.N[n]?\x:=by rfl)(hv:lN 29 x:=by calc jvv 9)(hd:fY x:=by decide)(f9:qy x:=by decide)(Pm:X.N[m]?\y:=by rfl)(Pn:lN 29 y:=by calc jvv 9)(hd2:fY y:=by decide)(qY:qy y:=by decide)(hs:swapsWith e (some (.Subscript 51 (.Name y p2) dj)) pos.line 3=pure false:=by rfl):GS X M (.Assign [.Subscript 51 (.Name y p2) dj] e pos) (X2 M n m f) :=
 GS.or (M' n m hu he hN hv hd f9 Pm Pn hd2 qY hs) (Np n m hu he hN hv hd f9 Pm Pn hd2 qY hs)
def adW(M:MG)(s:S2):m5 M s (some (.ob M.a2,false))\(.dt s.k2 s.t2,false):=by change (if M.a2=M.a1 then _ else _)=_;rw[θ (Ne.symm M.n3),ι 9]
end
end VT
namespace cV
open PySem L2 VT Gen K5 Lay BS x8 MK
open PySem.Builtin (bitOr)
def sE(E F:List Ent):S2:=#[cu E,cQ E,cu F,cQ F]
def AF(C:Addr)(l:T)(s:S2)(q:S2->T->Prop):Prop:=E4 λ(rs:qal) (E F:List Ent) (N:List Mv)=>l=iL C rs/\s=sE E F/\(∀r∈rs,XG rs r/\XF r)/\6<=64/\N.length<=250000/\(∀m∈jC rs,m∈N)/\Iv 6 N #[E,F,false]/\q (sE (bM rs E F 6).E (bM rs E F 6).F) (.bl (bM rs E F 6).b)
abbrev rho(M:MG)(C:Addr)(rs:qal)(b:Bool)(b3 b4 b5 b6 b7 b8:Option T):En:=[aJ (iL C rs),aJ (.ob M.a),aJ (.bl b),iR b3,iR b4,iR b5,iR b6,iR b7,iR b8]
def IJ(rs:qal)(i:Nat){t:T}(h:(dF (iK rs))[i]?\t):i<6/\t=.tup [.int (i:Int),oT (gG 22 i)]:=by unfold dF iK at h;rw[Uu,dQ] at h;by_cases hi:i<6;rw[Og hi] at h;cases h;calc#[hi,9];rw[Oh (by rw[sV];lia)] at h;cases h
def IK(rs:qal):(dF (iK rs)).length=6:=by unfold dF iK;simp
def Nq{d:Fd}{s:S2}{ts:Φ}{k:List Key}(h5:(ρ.map (m5 M s))[n]?\some (.dt ks ts,false))(h6:(ρ.map (m5 M s))[m]?\some (.kt k,false))(hq:lr ((cx ks ts k).getD (.int 0))/\d.nx (ρ.set i (some ((cx ks ts k).getD (.int 0),false))) s):HX M i (fT (Ak (dS n) (dP m) (fT (fC (.int 0))))) d ρ s:=by unfold HX fT Ak dS;rw[h5];change dP m _ _;unfold dP;rw[h6];calc hq
theorem IL{n2 n8:Nat}{d:Fd}{s s0:S2}(es:s0=s){ts:Φ}{k:List Key}{b:Bool}{v before:Int}(h2:(ρ.map (m5 M s))[n2]?\some (.bl b,false))(h5:(ρ.map (m5 M s))[n]?\some (.dt ks ts,false))(h6:(ρ.map (m5 M s))[m]?\some (.kt k,false))(h8:(ρ.map (m5 M s))[n8]?\some (.int before,false))(hg:cx ks ts k\.int v)(hq:lr (.bl (b || !decide (v=before)))/\d.nx (ρ.set i (some (.bl (b || !decide (v=before)),false))) s) :
  HX M i (fT (Q0 (fV (dP n2)) (f2 (fT (Ia (dS n) (dP m))) (dS n8) OF))) d ρ s0:=by
 rw[es];unfold HX fT Q0 fV dP;rw[h2];cases b with
 |true=>calc hq
 |false=>change f2 _ _ _ _ _;unfold f2 Ia dS;dsimp only;rw[h5];change (match (ρ.map (m5 M s))[m]? with|some (some (t,false))=>_|_=>False);rw[h6];show#[_,hg,?_];change (match (ρ.map (m5 M s))[n8]? with|some (some (t,_))=>_|_=>False);rw[h8];calc hq
def IM{g u:kz}{d:Fd}{s:S2}{t:T}(h:ρ[n]?\some (t,false))(ht:BF t=false)(hg:g d ρ s):wIf (l6 (f2 (dS n) (fT (fC .bO)) t_)) g u d ρ s:=by
 unfold wIf l6 f2 dS;rw[h];change if (!BF t)=true then g d ρ s else u d ρ s
 rw[ht];calc hg
def wO(M:MG)(p:Wt):T:=.tup [.ob (if p.1=true then M.a1 else M.a2),.kt (kK p.2.1),.int p.2.2]
theorem PD(M:MG)(E F:List Ent):∀l:List Wt,Ef (l.map (wT M.a1 M.a2 E F))\l.map (wO M)
 |[]=>rfl
 |p::l=>by rw[fj,fj];let(b,k,v):=p;unfold Ef;rw[PD M E F l];cases b<;>rfl
def IP(p:Tb)(w:Bool)(k:Int×Str)(v:Int):(if w=true then (sE p.E p.F).Aj (kK k) (.int v) else (sE p.E p.F).put2 (kK k) (.int v))=sE (p.put w k v).E (p.put w k v).F:=by
 cases w with
 |true=>change S2.Aj _ _ _=_;unfold S2.Aj sE Tb.put;dsimp only;rw[uS p.E k v,eS];rfl
 |false=>change S2.put2 _ _ _=_;unfold S2.put2 sE Tb.put;dsimp only;rw[uS p.F k v,eS];rfl
def dOf(p:Tb)(w:Bool):T:=if w=true then .dt (cu p.E) (cQ p.E) else .dt (cu p.F) (cQ p.F)
def X3(M:MG)(p:Tb)(w:Bool):m5 M (sE p.E p.F) (some (.ob (if w=true then M.a1 else M.a2),false))\(dOf p w,false):=by
 cases w with
 |true=>calc adQ M _
 |false=>calc adW M _
def X4{f:FE}{d:Fd}{p:Tb}{ub:Bool}{k:Int×Str}{v:Int}(hf:∀Q:T->Prop,Q (.int v)->f (ρ.map (m5 M (sE p.E p.F))) Q)(h5:ρ[n]?\some (.ob (if ub=true then M.a1 else M.a2),false))(h6:ρ[m]?\some (.kt (kK k),false))(l1:p.E.length<16777216)(l2:p.F.length<16777216)(hq:d.nx ρ (sE (p.put ub k v).E (p.put ub k v).F)):X2 M n m f d ρ (sE p.E p.F):=by
 rw[<- IP] at hq;cases ub with
 |true=>calc .inl (hf _ #[.inl #[_,9],h5,by change (cQ p.E).length<_;unfold cQ;rw[bN];calc l1,kK k,h6,hq])
 |false=>calc .inr (hf _ #[.inl #[_,9],h5,by change (cQ p.F).length<_;unfold cQ;rw[bN];calc l2,kK k,h6,hq])
def adX(p:Tb)(ub:Bool):∃EE:List Ent,dOf p ub=.dt (cu EE) (cQ EE)/\(∀k,p.get ub k=ba EE k)/\∀k v,dOf (p.put ub k v) ub=.dt (cu (dJ EE k v)) (cQ (dJ EE k v)):=by
 cases ub with
 |true=>calc#[p.E,9,λ_=>rfl,λ_ _=>rfl]
 |false=>calc#[p.F,9,λ_=>rfl,λ_ _=>rfl]
section
variable{aR cv:Addr}
abbrev Nr:ω:=["layout","sets","lacking","place","home","held","key","wanted","before"]
def yk:aI Nr qaD (aq vf):=L2.gL
theorem IQ(D:Df K mg "grown" vf qaD f fd)(aE:RY K aR)(Mg:XE mg)(Nt:cp P w K mg base "wants" qaC 04 (cH K 03 (Aw aR cv))):cp P w K mg base "grown" qaD (04+1) (Pp K cv (AF aR)):=by
 show D.gQ (fnG D.F yk 9 5 λbP A outer s H E M hC hB hr l s0 q hG=>?_);have nd:=yk.nd;have hu:=bA.dG hr;have hJ:=je hu;subst hC;show#[_,(eJ (gY λ_ _=>aF (i:=2) nd 9 7 (v9 iE) gR)
  (eJ (HZ kr 9 (λ_ _=>ie 18 Mg.enumerate (υ (dH aE.cl aE.jy (ae 0)))) (λ_ _=>cX (n:=2) 9 (aH (ay (i:=03) nd 9 7 gR) (aH (ay (i:=04) nd 9 7 gR) b_)))
   (gk (Xv (λ_ _=>GJ (ae 04) (ν iZ))
    (gk (Na kr 9 (λ_ _=>υ (aN Nt hr (aa (ai 0) (aa (ai 1) (aa (ai 03) aj))))) (λ_ _=>cX (n:=03) 9 (aH (ay (i:=05) nd 9 7 gR) (aH (ay (i:=06) nd 9 7 gR) (aH (ay (i:=07) nd 9 7 gR) b_))))
     (eJ (HY (i:=08) nd 9 7 (λ_ _=>υ (d8 hJ (ae 05) (ai 06) (υ af) #[9,9,9,9])))
     (eJ (SK 05 06 hJ (λ_ _=>υ (i0 (ae 08) (ae 07))))
     (gk (HY (i:=2) nd 9 7 (λ_ _=>υ (V2 (VE.vp (ai 2)) (Gh (V6 hu (ν (Nc hJ (ae 05) (ai 06))) (ae 08)))))))))))
    M_)))
  (gk (gY λ_ _=>aL (v9 (VE.vp (ai 2))))))),?_]
 let(rs,E0,F0,N,rfl,rfl,bB,hn,BZ,hN,I0,hq):=hG;show#[9,9,_,9,?_];show#[λi ρ s=>E6 λb3 b4 b5 b6 b7 b8=>ρ=rho M aR rs (bM rs E0 F0 i).b b3 b4 b5 b6 b7 b8/\s=sE (bM rs E0 F0 i).E (bM rs E0 F0 i).F,#[none,none,none,none,none,none,9,9],?_,?_];rintro i t ρ s ht ⟨b3,b4,b5,b6,b7,b8,rfl,rfl⟩;let(hi,rfl):=IJ rs i ht;obtain⟨r,cw⟩:∃r,rs[i]?\r:=#[_,gq hi];have I:=(lz hN I0 i ()).1;have gs:=g9 rs E0 F0 i;generalize hp:bM rs E0 F0 i=p at I gs ⊢;show#[9,9,(by change iu [aJ (iL aR rs),aJ (.ob M.a),aJ (.bl p.b),aJ (.int (i:Int)),aJ (oT _),iR b5,iR b6,iR b7,iR b8]=true;simp only[pS,pR,jk]),?_];cases hh:gG (bE rs) i with
 |none=>
  have wn:wA rs p.E p.F i=[]:=by unfold wA Ff;rw[cw,hh];rfl
  have gs:bM rs E0 F0 (i+1)=p:=by rw[gs];unfold ZL;rw[wn];rfl
  calc#[some (.int (i:Int)),some .bO,b5,b6,b7,b8,by rw[gs];rfl,by rw[gs]]
 |some h=>
  have wa:wA rs p.E p.F i=(wy rs i h r).flatMap (wM p.E p.F):=by unfold wA Ff;rw[cw,hh]
  have gs:bM rs E0 F0 (i+1)=((wy rs i h r).flatMap (wM p.E p.F)).foldl iS p:=by rw[gs];unfold ZL;rw[wa]
  show IM (t:=.int (h:Int)) 9 9 ?_;change H_ M _ _ _ _ [aJ (iL aR rs),aJ (.ob M.a),aJ (.bl p.b),aJ (.int (i:Int)),aJ (.int (h:Int)),iR b5,iR b6,iR b7,iR b8] (sE p.E p.F);unfold H_;change (fT (i6 03 (cJ (dP 0) (cJ (dP 1) (cJ (dP 03) l7))) (Aw aR M.C))) [some (iL aR rs,false),m5 M (sE p.E p.F) (some (.ob M.a,false)),some (.bl p.b,false),some (.int (i:Int),false),some (.int (h:Int),false),m5 M (sE p.E p.F) (iR b5),m5 M (sE p.E p.F) (iR b6),m5 M (sE p.E p.F) (iR b7),m5 M (sE p.E p.F) (iR b8)] _;rw[adP _ _ hB];have hro:=bB r (dX cw);show#[9,rs,M.a1,M.a2,p.E,p.F,i,r,h,9,cw,hro.1,hro.2,hh,(),λk=>jS (bits_le (I.bl true k)) hn,?_];have hwk:∀w∈(wy rs i h r).flatMap (wM p.E p.F),w.2.1∈iH 6 N w.1/\below 6 w.2.2:=λw hw=>(Ir hN I hi (by rw[wa];calc hw)).choose_spec.2.2;generalize (wy rs i h r).flatMap (wM p.E p.F)=L at gs hwk;show#[L.map (wO M),PD M p.E p.F L,λj ρ s=>E4 λb5 b6 b7 b8=>ρ=rho M aR rs ((L.take j).foldl iS p).b (some (.int (i:Int))) (some (.int (h:Int))) b5 b6 b7 b8/\s=sE ((L.take j).foldl iS p).E ((L.take j).foldl iS p).F,#[b5,b6,b7,b8,9,9],?_,?_];rintro j t ρ s hj ⟨b5,b6,b7,b8,rfl,rfl⟩;rw[dQ] at hj;let(u,hw,rfl):=KG.mp hj;have es:(L.take (j+1)).foldl iS p=iS ((L.take j).foldl iS p) u:=by rw[P7,hw,Ol];rfl
  have Ij:Iv 6 N ((L.take j).foldl iS p):=(uW I λv hv=>hwk v (YU hv)).1;have l1:=Ij.Il;have l2:=Ij.Im;have l3:N.length * (6+1)<=250000 * 65:=UJ BZ ();generalize (L.take j).foldl iS p=pj at es Ij l1 l2 ⊢;let(ub,uk,uv):=u;let(EE,hd,hg,adY):=adX pj ub;show#[9,9,(by change iu [aJ (iL aR rs),aJ (.ob M.a),aJ (.bl pj.b),aJ (.int (i:Int)),aJ (.int (h:Int)),aJ (.ob _),aJ (.kt (kK uk)),aJ (.int uv),iR b8]=true;simp only[pS,pR,jk]),?_];show Nq (ks:=cu EE) (ts:=cQ EE) (k:=kK uk) (by change some (m5 M (sE pj.E pj.F) (some (.ob (if ub=true then M.a1 else M.a2),false)))=_;rw[X3,hd]) 9 ?_;rw[eM,<- hg];show#[.inl #[_,9],X4 (v:=bitOr (pj.get ub uk) uv) (k:=uk) (ub:=ub) (λQ hQ=>hQ) 9 9 () () ?_];show IL (M:=M) (i:=2) (n:=05) (m:=06) (n2:=2) (n8:=08) (ρ:=[some (iL aR rs,false),some (.ob M.a,false),some (.bl pj.b,false),some (.int (i:Int),false),some (.int (h:Int),false),some (.ob (if ub=true then M.a1 else M.a2),false),some (.kt (kK uk),false),some (.int uv,false),some (.int (pj.get ub uk),false)]) 9 (ks:=cu (dJ EE uk (bitOr (pj.get ub uk) uv))) (ts:=cQ (dJ EE uk (bitOr (pj.get ub uk) uv))) (k:=kK uk) (b:=pj.b) (v:=bitOr (pj.get ub uk) uv) (before:=pj.get ub uk) 9 (by change some (m5 M (sE (pj.put ub uk (bitOr (pj.get ub uk) uv)).E (pj.put ub uk (bitOr (pj.get ub uk) uv)).F) (some (.ob (if ub=true then M.a1 else M.a2),false)))=_;rw[X3,adY]) 9 9 (Ng uk _ EE) ?_;calc#[.inr #[_,9],some (.ob (if ub=true then M.a1 else M.a2)),some (.kt (kK uk)),some (.int uv),some (.int (pj.get ub uk)),by rw[es];rfl,by rw[es];rfl];rintro ρ s ⟨b5',b6',b7',b8',rfl,rfl⟩;rw[bN,Fo];exact#[_,_,_,_,_,_,by rw[gs],by rw[gs]]
 rintro ρ s ⟨b3,b4,b5,b6,b7,b8,rfl,rfl⟩;rw[IK] at *;show#[(by change iu [aJ (iL aR rs),aJ (.ob M.a),aJ (.bl _),iR b3,iR b4,iR b5,iR b6,iR b7,iR b8]=true;simp only[pS,pR,jk]),hq]
end
def Cq(ts:Φ)(q:Φ->Prop):Prop:=∃rs:qal,ts=[.lst 50]/\Pc rs/\6<=64/\(jC rs).length<=400/\(∀r∈rs,XG rs r/\XF r) /\
 ∀m,(∀j<m,(qZ rs (j+1)).b=true)->(qZ rs (m+1)).b=false->∀bs cs:List Ent,bs.Perm (nzE (qZ rs (m+1)).E)->cs.Perm (nzE (qZ rs (m+1)).F)->q [.lst (bs.map hV),.lst (cs.map hV)]
theorem vn:∀bs:List Ent,jH (bs.map hV)=true
 |[]=>rfl
 |b::bs=>by rw[fj,jH,vn bs];rfl
section
variable{aR cv:Addr}
abbrev IS:ω:=["program","layout","sets"]
def sC:aI IS qav (aq pX):=L2.gL
theorem Ei(D:Df K mg "makers" pX qav f fd)(M:RY K aR)(M1:Ud K cv)(qa:Ac P w K mg base "Layout" aR qaw 2 1 (uG aR))(AG:Ac P w K mg base "Sets" cv qaz 1 2 (ID cv))(vo:cp P w K mg base "grown" qaD 05 (Pp K cv (AF aR)))(Ej:cp P w K mg base "list_of" ["held"] 1 (cH K 1 Cj)):cp P w K mg base "makers" qav 06 (Mm K 1 Cq):=by
 let(IT,Ek,qb,qc,qd,qe):=qa;let(SM,Nu,AH,AI,AJ,AK):=AG;let(Nv,IU,vq,vt,vv,vz):=vo;let(Ue,SN,El,Em,Eo,Ep):=Ej;show D.gQ (fnD D.F sC 9 5 λbP A outer s H E Ox hr ts q hG=>?_);have nd:=sC.nd;have np:∀{i:Nat},aZ #[H,[],Ox] i:=gR;show#[_,cS (aF (i:=1) nd 9 7 (v9 (BX qb qe 23 18 qc qd (aa (ai 0) aj))) np)
  (AE (i:=2) (j:=1) 9 5 nd 9 9 7 7 7 kr AH AK (λt1 t2 q hq=>#[t1,t2,9,hq]) 23 18 AI AJ vz 23 18 vq vt vv Ep 23 18 El Em Eo M1.cl M1.vh M1.oj),λ_=>?_]
 let(rs,rfl,W,hn,BZ,bB,hq):=hG;show#[9,rs,9,W,(),?_];show#[by change 2<03;decide,?_];show#[λm s=>∃j,s=sE (qZ rs j).E (qZ rs j).F/\(∀i<j,(qZ rs (i+1)).b=true)/\m=mu 6 (jC rs) (qZ rs j),#[_,0,9,λi hi=>absurd hi (UH i),9],?_];rintro m s ⟨j,rfl,hb,rfl⟩;have I:=(ya rs j).1;have I':=(ya rs (j+1)).1;have l1:=I'.Il;have l2:=I'.Im;have l3:(jC rs).length * (6+1)<=400 * 65:=UJ BZ ();show#[rs,(qZ rs j).E,(qZ rs j).F,jC rs,9,9,bB,hn,(),λ_ h=>h,I.bool false,_,9,?_];split
 rename_i z
 have z:(qZ rs (j+1)).b=true:=z;have gn:=(lz (λ_ h=>h) (b:=(qZ rs j).b) I 6 (cD _)).2;exact#[_,Pr gn.1 (gn.2 z),j+1,9,λi hi=>by by_cases e:i=j;rw[e];calc z;calc hb i (),9]
 rename_i z
 have z:(qZ rs (j+1)).b=false:=by
  cases h:(qZ rs (j+1)).b with
  |false=>rfl
  |true=>exact absurd h z
 intro o1 o2;show#[(qZ rs (j+1)).E,o1,9,(),λbs p=>#[_,9,vn bs,?_]];show#[(qZ rs (j+1)).F,o2,9,(),λcs p2=>#[_,9,vn cs,?_]];calc hq j hb z bs cs p p2
end
end cV
namespace DU
open PySem PySem.Spec PyProof.Rows
theorem qf:entryFor table "dict.update.loop"\Builtin.«dict.update.loop»:=entryFor_of_tree (by kernel_rfl)
def iA:plainId "dict.update.loop"=true:=by decide +kernel
section
variable{K:Type}[DecidableEq K]
def Fi(ks:Nat->K)(m7:Nat->Addr)(vs:Nat->Value):Nat->List (K×Addr×Value)
 |0=>[]
 |i+1=>storedH (Fi ks m7 vs i) (ks i) (m7 i) (vs i)
theorem vA(ks:Nat->K)(m7:Nat->Addr)(vs:Nat->Value):∀i,∀x∈Fi ks m7 vs i,∃j,j<i/\x.1=ks j/\x.2.1=m7 j
 |0,x,h=>nomatch h
 |i+1,x,h=>by
  have ih:=vA ks m7 vs i;simp only[Fi,storedH] at h;split at h;let(y,hy,rfl):=gH.mp h;let(j,h1,h2,h3):=ih y hy;unfold putAt;split;calc#[j,(),h2,h3];calc#[j,(),h2,h3];rcases fu.mp h with z|z
  let(j,h1,h2):=ih x z;calc#[j,(),h2];rw[f6.mp z];calc#[i,(),9,9]
theorem vB(ks:Nat->K)(m7:Nat->Addr)(vs:Nat->Value):∀i,(Fi ks m7 vs i).length<=i
 |0=>cD _
 |i+1=>by have ih:=vB ks m7 vs i;simp only[Fi,storedH];split;rw[bN];lia;rw[kq,YQ];lia
end
section
variable{R:Result->Shared->Prop}{I:Addr}{wr:zm}{G:Array GenState->Array GenState->Prop}{P:Nat->Value->Prop}{St:Nat->Shared->Prop}
variable{K:Type}[DecidableEq K]{knd:PySem.HeapKind prog w K}
def ym{S:Addr}{xs:List (K×Addr×Value)}(d:h.DictOfH knd S xs)(e:∀o,h.get? S\o->h'.get? S\o)(ik:∀x∈xs,knd.is h' x.1 x.2.1):h'.DictOfH knd S xs:=by let(o,es,ep,h1,h2,h3,h4,_,h6):=d;calc#[o,es,ep,e o h1,h2,h3,h4,ik,h6]
theorem AL(W:WalksS prog w A.in1 I fp wr G n P St)(S:Addr)(ZO:S∉fp)(IV:knd.room A.in1)(ks:Nat->K)(m7 bs:Nat->Addr)(vs:Nat->Value)(hP:∀i v,P i v->v=.ref (bs i))(hn:n<=sizeLine)(res:Value)(Ok:Heap->Prop)(IW:∀h,Ok h->∀i,i<n->∃o c,h.get? (bs i)\o/\o.cls=.type "tuple"/\o.data=.seq ([.ref (m7 i),vs i].toArray) c)(jF:∀h,Ok h->∀i,i<n->knd.is h (ks i) (m7 i))(IX:∀h h',Ok h->(∀b o,b∉S::wr->h.get? b\o->h'.get? b\o)->Ok h') :
  ∀(k i:Nat)(s:Shared)(tok:Tok),n-i=k->i<=n->St i s->Ok 42->s.heap.DictOfH knd S (Fi ks m7 vs i) ->
   (∀s',Moved (S::wr) G s s'->s'.heap.DictOfH knd S (Fi ks m7 vs n)->R (.ok (.ret res)) s') ->
   codeAny 15 A (.builtin "dict.update.loop" #[[.ref S,.ref I,.int (i:Int) tok,res],[]]) R s:=by
 have hSw:S∉wr:=λh=>ZO (W.sub _ h);have zS:∀b∈wr,b∈S::wr:=λb hb=>fZ _ hb;intro k;induction k with
 |zero=>
   intro i s tok hk hi C5 bB hS hR;have XJ:i=n:=by lia
   subst XJ;show aas qf ?_;rw[YV iA _];change wpAny _ A.in1 (pyNext (.ref I) >>= _) _ _ s;show ζ (W.done s _ _ C5 λs' hm=>?_);change wpAny _ A.in1 (Builtin.Dict.addKeywords S [] >>= _) _ _ s';show ζ (ζ (η (η ?_)));calc η (hR s' (hm.mono zS) (ym hS (λo e=>hm.heap S o hSw e) λx hx=>by let(j,h1,h2,h3):=vA ks m7 vs i x hx;rw[h2,h3];calc jF _ (IX _ _ bB λb o hb e=>hm.heap b o (λz=>hb (zS b z)) e) j h1))
 |succ k ih=>
   intro i s tok hk hi C5 bB hS hR;have dc:i<n:=by lia
   show aas qf ?_;rw[YV iA _];change wpAny _ A.in1 (pyNext (.ref I) >>= _) _ _ s;show ζ (W.item i s _ _ dc C5 λv s' hPv adZ hm=>?_);cases hP i v hPv;have Dq:Ok s'.heap:=IX _ _ bB λb o hb e=>hm.heap b o (λz=>hb (zS b z)) e;have Nx:s'.heap.DictOfH knd S (Fi ks m7 vs i):=ym hS (λo e=>hm.heap S o hSw e) λx hx=>by let(j,h1,h2,h3):=vA ks m7 vs i x hx;rw[h2,h3];exact jF _ Dq j ()
   let(o,c,ho,Qi,ad0):=IW _ Dq i dc;change wpAny _ A.in1 (holding [.ref (bs i)] _ >>= _) _ _ s';show ζ (rk ?_);show ζ (wpAny_tryCatch ?_);unfold Builtin.Dict.pairItems;show ζ (aam (T:="tuple") #[o,ho,Qi] ?_);have h1:((Value.type "tuple"==Value.type "list") || (Value.type "tuple"==Value.type "tuple"))=true:=by decide
   rw[ι h1];show ζ (aad ho ad0 (η ?_));change wpAny _ A.in1 (holding [.ref (m7 i),vs i] (dictSet S (.ref (m7 i)) (vs i))) _ _ s';show rk ?_;show wpAny_dictSet_heap (hsz:=by have:=vB ks m7 vs i;lia) IV (jF _ Dq i dc) Nx λh' hd hsb=>?_;have kp:∀b o,b≠S->s'.heap.get? b\o->h'.get? b\o:=λb o hb e=>by rw[hsb.2 b hb];exact e
   show η #[aaI iA _,?_];show ih (i+1) _ _ () dc (W.frame _ s' _ _ adZ (Nat.le_add_right _ _) λb hb o e=>kp b o (λz=>ZO (z▸hb)) e) (IX _ _ Dq λb o hb e=>kp b o (λz=>hb (z▸d_)) e) hd λTZ ad1 ad2=>?_;calc hR TZ (Moved.trans W.gtrans ((hm.mono zS).then_heap (Nat.le_add_right _ _) λb o hb e=>kp b o (λz=>hb (z▸d_)) e) ad1) ad2
end
section
theorem Ny:typeLookup (.type "list") (Str.ofString "__getattribute__")=pure (some (.builtin "list.__getattribute__")):=by rw[typeLookup_type];kernel_rfl
theorem Er:typeLookup (.type "list") (Str.ofString "keys")=pure none:=by rw[typeLookup_type];kernel_rfl
theorem Es:typeLookup (.type "list") (Str.ofString "__getattr__")=pure none:=by rw[typeLookup_type];kernel_rfl
def R0(s:Shared)(a:Addr)(r:Result)(s':Shared):Prop:=E3 λ(h':Heap) (tk:Nat) (e:Addr)=>r=.error (.ref e)/\s'={s with heap:=h',toks:=tk}/\s.heap.NewAttrErr h' e (.ref a) (Str.ofString "keys")
theorem yn:isSubtype (.type "AttributeError") (.type "AttributeError")=pure true:=by rw[isSubtype_type];kernel_rfl
def Et{xs:Array Value}{k:Nat}{Q:(Option Value)->Shared->Prop}(ho:s.heap.get? a\o)(hc:o.cls=.type "list")(hdt:o.data=.seq xs k)(hd:o.dict=none)(hh:A.handled=none)(h:∀(h':Heap) (tk:Nat),(∀b o,s.heap.get? b\o->h'.get? b\o)->Q none {s with heap:=h',toks:=tk}) :
  wpAny 15 A (getAttr? (.ref a) (Str.ofString "keys")) Q E s:=by
 unfold getAttr? mkText getAttrBy? getAttrBy
 wp_walk
 rw[hc];show aaA Ny ?_;change wpAny _ A (getAttrByItsOwn _ _ _ _ _ _) _ _ _;unfold getAttrByItsOwn hookBefore callGetattribute
 wp_walk
 show aaA (ZW.bind _) ?_;change wpAny _ A (call (.builtin "list.__getattribute__") [.ref a,.str (Str.ofString "keys") s.toks]) _ _ _;show wpAny_call (aaq (codeAny_call_builtin (R:=R0 s a) ZW.plain PySem.F.entry_list_ga (ZW.check _ _ _ _ _ _ _ _ #[o,ho,hc] (PySem.F.args_list_getattribute_2 _ _) ?_)) λr s' hr=>?_);let(ad3,X5,X6,Dj):=o;cases hc;cases hdt;cases hd;show meets_getattribute_miss_list a xs k Dj (Str.ofString "keys") s.toks Er 17 (by rw[π];decide +kernel) prog w A (R0 s a) _ ?_;calc#[ho,hh,λh' tk e hx=>#[h',tk,e,9,9,hx]];let(h',tk,e,rfl,rfl,hx):=hr;let(t,u,he):=hx.there;change wpAny _ A (getattributeRaised _ _ _ _ _ _ _) _ _ _;have hT:Shared.TypeIs {s with heap:=h',toks:=tk} (.ref e) "AttributeError":=#[_,he,9];unfold getattributeRaised;show ζ (aaz (T:="AttributeError") (b:=true) hT yn ?_);unfold hookBehind;show ζ (aaA Es ?_);have zS:=yn;unfold hookOrError attributeErrorLeaves
 wp_walk
 calc h h' tk hx.keeps
end
section
variable{K:Type}[DecidableEq K]{knd:PySem.HeapKind prog w K}
abbrev m8:Obj:={cls:=.type "dict",data:=.dict ([].toArray)}
def AN(hg:h.get? a\m8):h.DictOfH knd a []:=#[_,([].toArray),_,hg,#[9,9,9],9,9,λ_ hx=>(nomatch hx),.nil]
theorem nL{l:Addr}{items:Array Value}{nl:Nat}{sl:Array (Option Value)}(ks:Nat->K)(m7 bs:Nat->Addr)(vs:Nat->Value)(hh:A.handled=none)(IV:knd.room A.in1.in1)(hl:s.heap.get? l=some {cls:=.type "list",dict:=none,data:=.seq items nl,slots:=sl})(hi:∀(i:Nat) (v:Value),items[i]?\v->v=.ref (bs i))(hn:items.size<=sizeLine)(Ok:Heap->Prop)(bB:Ok 42)(IW:∀h,Ok h->∀i,i<items.size->∃o c,h.get? (bs i)\o/\o.cls=.type "tuple"/\o.data=.seq ([.ref (m7 i),vs i].toArray) c)(jF:∀h,Ok h->∀i,i<items.size->knd.is h (ks i) (m7 i))(IX:∀h h',Ok h->(∀b o,b<8->h.get? b\o->h'.get? b\o)->Ok h')(h:∀(h':Heap) (tk:Nat),h'.DictOfH knd 8 (Fi ks m7 vs items.size)->(∀b o,b<8->s.heap.get? b\o->h'.get? b\o)->8<h'.objs.size->Q 24 {s with heap:=h',toks:=tk}) :
  wpAny 15 A (call (.type "dict") [.ref l]) Q E s:=by
 let(c,tl,aep):=KN.mro;have aek:=KN.made;have zS:=KN.sub;show wpAny_call (codeAny_of_tree ?_);change wpAny _ _ (callAny (.type "dict") _) _ _ _;show η #[Code.quiet_builtin _ 17,aas PySem.F.entry_type_call ?_];rw[Around.under_plain (weight_type_call_type "dict" [.ref l] []) 9];have h1:=KN.notType;have h2:=KN.canCreate;have hct:=F.kt_typeCall_dict_1 (.ref l)
 repeat (any_goals (first|assumption|wp_step))
 show aaq (kt_code_dict_new (.ref l) (E:=E) (Q₁:=λobj s₁=>obj=.ref 8/\s₁={s with heap:=s.heap.push m8}) #[9,9]) λr s₁ hr=>?_;cases r with
 |error e=>calc hr
 |ok fl=>
   cases fl with
   |ret obj=>
     let(rfl,rfl):=hr;have hS:(s.heap.push m8).get? 8\m8:=hW _ 9;have hT:Shared.TypeIs {s with heap:=s.heap.push m8} 24 "dict":=#[_,hS,9];have hli:=KN.init.lookup;have VU:=KN.init.bind 24
     repeat (any_goals (first|assumption|wp_step))
     show aaq (codeAny_call_builtin (R:=wants (λr s₂=>r=.none/\∃h' tk,s₂={s with heap:=h',toks:=tk} /\
       h'.DictOfH knd 8 (Fi ks m7 vs items.size) /\
       (∀b o,b<8->s.heap.get? b\o->h'.get? b\o)) E) KN.init.plain PySem.F.entry_dict_init (KN.init.check _ _ _ _ _ _ _ _ hT (PySem.F.args_dict_init_2 _ _) ?_)) λr₂ s₂ hr₂=>?_
     . unfold Builtin.«dict.__init__» Builtin.Dict.selfAndRest Builtin.Dict.notOrdered;unfold Builtin.Dict.updateCommon Builtin.Dict.updateFrom;have X7:(s.heap.push m8).get? l=some {cls:=.type "list",dict:=none,data:=.seq items nl,slots:=sl}:=de _ hl;have hTl:Shared.TypeIs {s with heap:=s.heap.push m8} (.ref l) "list":=#[_,X7,9];generalize hPI:pyIter=PI;generalize hGA:getAttr?=GA;rw[ι 5];show ζ (ζ (ζ (aam hT ?_)));rw[θ 5];show η (ζ (η (η ?_)));show ζ (aam hTl ?_);rw[ι 5];subst hGA;have hh2:A.in1.in1.handled=none:=by simp[hh]
       show ζ (Et X7 9 9 9 hh2 λh3 tk3 k3=>?_);rw[ι (show (none:Option Value).isNone=true from 9)];show ζ (aag ?_);subst hPI;have hl3:h3.get? l=some {cls:=.type "list",dict:=none,data:=.seq items nl,slots:=sl}:=k3 _ _ X7;have X8:h3.get? 8\m8:=k3 _ _ hS;have hlI:h3.IsList l items:=#[_,hl3,9,nl,9];have hlS:l<8:=dB hl;have hSz:8<h3.objs.size:=dB X8;show ζ (aav hlI ?_);show η #[aaI iA _,?_];have ad4:l≠h3.objs.size:=gr (TV hlS hSz);have ZO:8∉[h3.objs.size,l]:=by simp only[cT,f6,eh,Ψ,not_or];exact#[gr hSz,C0 hlS]
       have up:∀b o,b<8->s.heap.get? b\o->(h3.push {cls:=.type "list_iterator",data:=.fields ([.ref l,.int 0 0].toArray)}).get? b\o:=λb o hb e=>de _ (k3 _ _ (de _ e));have X9:∀b,b<8->b∉[8,h3.objs.size]:=λb hb=>by simp only[cT,f6,eh,Ψ,not_or];exact#[gr hb,gr (TV hb hSz)]
       show AL (A:=A.in1) ((Walks.list hh2 _ l ad4 items).toS) 8 ZO IV ks m7 bs vs hi hn .none Ok IW jF (λg g' hg k=>IX g g' hg λb o hb e=>k b o ?_ e) (items.size-0) 0 _ _ () (gJ _) #[#[_,hW _ 9,9,9],(hlI.push _)] (IX _ _ bB up) (AN (de _ X8)) ?hR;exact X9 b hb
       case hR=>
        intro s' hm Nx;let(h',g',d',tk',os'):=s';have eg:g'=s.gens:=hm.gens;have ed:d'=s.drawn:=hm.drawn;have eo:os'=s.os:=hm.os;subst eg;subst ed;subst eo;show#[9,h',tk',9,Nx,λb o hb e=>?_];exact hm.heap b o (X9 b hb) (up b o hb e)
     . cases r₂ with
       |error e=>calc hr₂
       |ok fl₂=>
         cases fl₂ with
         |ret r=>
           let(rfl,h',tk,rfl,Nx,Ma):=hr₂
           repeat (any_goals (first|assumption|wp_step))
           show h _ _ Nx Ma ?_;let(o,_,_,ho,_):=Nx;calc dB ho
         |_=>calc hr₂.elim
   |_=>calc hr.elim
end
end DU
namespace L2
open PySem PySem.Spec PyProof.Rows
abbrev SQ:=Addr×Addr×List Key×V
def putN(es:List SQ):List (List Key×V):=es.foldl (λm e=>putK m e.2.2.1 e.2.2.2) []
theorem mK(hc:X.calm=true)(hu:X.A.units+10<cLine):c5 X (.type "dict") (λxs H Q=>∃(p:Addr)(es:List SQ),xs=[.ref p]/\f_ X.K H p (es.map λe=>V.ref e.1) /\
  (∀e∈es,dO X.K H e.1 [.ref e.2.1,e.2.2.2]/\H e.2.1\.tup (e.2.2.1.map kV))/\∀a,H a=none->Q (.ref a) (upd H a (.dT (putN es)))):=by
 intro ε s σ H xs us Q I r h;let(p,es,rfl,hp,he,q):=h;let(u,rfl,ru):=vals1 r;cases ru;let(aP,rv,(o0,n,e0,c1,c2,c3),z):=I.list hp;let(ad3,X5,X6,Dj):=o0;cases c1;cases c2;cases c3;have hz:es.length<=sizeLine:=by rw[bN] at z;exact z
 have ei:aP=es.map λe=>Value.ref e.1:=by
  clear e0 hp he q z hz;revert aP;induction es with
  |nil=>intro aP rv;cases rv;rfl
  |cons e es ih=>
    intro aP rv;cases rv with
    |cons r0 rr=>cases r0;rw[ih _ rr];rfl
 subst ei;have vex:∀i:Nat,∃u:Value,∀e,es[i]?\e->RelV e.2.2.2 u/\∃o c,s.heap.get? e.1\o/\o.cls=.type "tuple"/\o.data=.seq ([.ref e.2.1,u].toArray) c:=λi=>by
  cases h1:es[i]? with
  |none=>calc#[.none,λe z=>nomatch z]
  |some e=>
    let(ht,_):=he e (dX h1);let(jI,r2,(o,g1,g2,c,g3),_):=I.tuple ht;cases r2 with
    |cons ra rb=>
      cases rb with
      |cons rc rd=>cases rd;cases ra;exact#[_,λe' z=>by cases z;calc#[rc,o,c,g1,g2,g3]]
 let(vs,ZP):=Classical.axiomOfChoice vex
 let d0:SQ:=(0,0,[],.bO)
 have gD:∀{i:Nat}{e:SQ},es[i]?\e->es.getD i d0=e:=λ{i e} h1=>by rw[TH,h1];rfl
 have gS:∀{i:Nat},i<es.length->∃e,es[i]?\e:=λh1=>#[_,gq h1];have sz:(es.map λe=>Value.ref e.1).toArray.size=es.length:=by simp
 show DU.nL (knd:=tupleKind (bR 34 X.w)) (λi=>(es.getD i d0).2.2.1) (λi=>(es.getD i d0).2.1) (λi=>(es.getD i d0).1) vs (I.ok.hd hc) (aau (by change X.A.units+1+1<cLine;lia)) e0 (λi v h1=>?_) (by rw[sz];calc hz) (λh=>∀b o,b<8->s.heap.get? b\o->h.get? b\o) (λ_ _ _ e=>e) (λh ok i h1=>?_) (λh ok i h1=>?_) (λg g' ok k b o hb e=>k b o hb (ok b o hb e)) (λh' tk hd hk dc=>?_);rw[List.getElem?_toArray,dQ] at h1;cases h2:es[i]? with
 |none=>rw[h2] at h1;cases h1
 |some e=>rw[h2] at h1;cases h1;change _=Value.ref (es.getD i d0).1;rw[gD h2]
 rw[sz] at h1;let(e,h2):=gS h1;let(_,o,c,g1,g2,g3):=ZP i e h2;rw[gD h2];calc#[o,c,ok _ _ (dB g1) g1,g2,g3];rw[sz] at h1;let(e,h2):=gS h1;rw[gD h2];let(o,a2,n2,g1,g2):=pf I.bB (he e (dX h2)).2;calc#[o,a2,n2,ok _ _ (dB g1) g1,g2];have kt:∀i,i<=es.length->KT H (putN (es.take i)) (DU.Fi (λi=>(es.getD i d0).2.2.1) (λi=>(es.getD i d0).2.1) vs i):=by
  intro i;induction i with
  |zero=>intro _;calc .nil
  |succ i ih=>
    intro h1;let(e,h2):=gS (i:=i) ();have e1:putN (es.take (i+1))=putK (putN (es.take i)) e.2.2.1 e.2.2.2:=by unfold putN;rw[List.take_succ,h2,Ol];rfl
    rw[e1];have:=(ih ()).put e.2.2.1 (he e (dX h2)).2 (ZP i e h2).1;simp only[DU.Fi];rw[gD h2];exact this
 have kt':=kt es.length (cD _);rw[Fo] at kt';rw[sz] at hd;have hlen:(putN es).length<=sizeLine:=by rw[Ko kt'];exact jS (DU.vB _ _ _ _) hz
 let(o,KU,ep,g1,g2,g3,g4,g5,g6):=hd;show#[.ref 8,_,I.laid (o:=.dT (putN es)) (λb o e=>hk b o (dB e) e) (cD _) #[hlen,?_,_,kt'.keeps λb ys hb=>?_,o,KU,ep,g1,g2,g3,g4,g6],9,q _ I.fresh];calc aaa.mpr (Ne.symm (gr I.big));rw[au (λz=>by rw[z,I.fresh] at hb;cases hb)];calc hb
end L2
namespace VT
open PySem PySem.Spec PyProof.Rows L2
def boot_dict:bootBuiltins "dict"\.type "dict":=by decide +kernel
def dN{α:Type}(ps:List (List Key×α)):List (List Key)×List α:=ps.foldl (λm p=>(j1 m.1 p.1,iM m.1 m.2 p.1 p.2)) ([],[])
def e2(e:SQ):List Key×V:=e.2.2
theorem IY:∀(es:List SQ)(m:List (List Key)×qak),m.1.length=m.2.length ->
  es.foldl (λm e=>L2.putK m e.2.2.1 e.2.2.2) (m.1.zip m.2)=((es.map e2).foldl (λm p=>(j1 m.1 p.1,iM m.1 m.2 p.1 p.2)) m).1.zip ((es.map e2).foldl (λm p=>(j1 m.1 p.1,iM m.1 m.2 p.1 p.2)) m).2/\((es.map e2).foldl (λm p=>(j1 m.1 p.1,iM m.1 m.2 p.1 p.2)) m).1.length=((es.map e2).foldl (λm p=>(j1 m.1 p.1,iM m.1 m.2 p.1 p.2)) m).2.length
 |[],m,h=>#[9,h]
 |e::es,m,h=>by have q:=x4 m.1 m.2 e.2.2.1 e.2.2.2 h;rw[Fp,fj,Fp,q.1];calc IY es (j1 m.1 e.2.2.1,iM m.1 m.2 e.2.2.1 e.2.2.2) q.2
section
variable{A:zm}
theorem PF:∀(ps:List (List Key×T))(es:List (List Key×V))(m:List (List Key)×Φ)(m':List (List Key)×qak),ps.map (·.1)=es.map (·.1)->aB K H A (ps.map (·.2)) (es.map (·.2))->m.1=m'.1->aB K H A m.2 m'.2 ->
  (ps.foldl (λm p=>(j1 m.1 p.1,iM m.1 m.2 p.1 p.2)) m).1=(es.foldl (λm p=>(j1 m.1 p.1,iM m.1 m.2 p.1 p.2)) m').1/\aB K H A (ps.foldl (λm p=>(j1 m.1 p.1,iM m.1 m.2 p.1 p.2)) m).2 (es.foldl (λm p=>(j1 m.1 p.1,iM m.1 m.2 p.1 p.2)) m').2
 |[],[],_,_,_,_,h1,h2=>#[h1,h2]
 |p::ps,e::es,m,m',hk,hv,h1,h2=>by rw[fj,fj] at hk;rw[fj,fj] at hv;simp only[aB] at hv;let(v,r,er,q1,q2):=hv;cases er;let(k1,k2):=List.cons.inj hk;rw[Fp,Fp];show PF ps es _ _ k2 q2 ?_ ?_;change j1 m.1 p.1=j1 m'.1 e.1;rw[h1,k1];change aB K H A (iM m.1 m.2 p.1 p.2) (iM m'.1 m'.2 e.1 e.2);rw[h1,k1];calc pP h2 q1
 |[],_::_,_,_,hk,_,_,_=>by simp at hk
 |_::_,[],_,_,hk,_,_,_=>by simp at hk
theorem pairs_at:∀(ps:List (List Key×T))(vs:qak),aB K H A (ps.map λp=>T.tup [.kt p.1,p.2]) vs ->
  ∃es:List SQ,vs=es.map (λe=>V.ref e.1)/\(∀e∈es,dO K H e.1 [.ref e.2.1,e.2.2.2]/\H e.2.1\.tup (e.2.2.1.map kV))/\ps.map (·.1)=(es.map e2).map (·.1)/\aB K H A (ps.map (·.2)) ((es.map e2).map (·.2))
 |[],vs,h=>by simp only[P_,aB] at h;subst h;calc#[[],9,λe he=>(nomatch he),9,aB.nil]
 |p::ps,vs,h=>by
   rw[fj] at h;simp only[aB] at h;let(v,r,rfl,q1,q2):=h;let(es,rfl,h1,h2,h3):=pairs_at ps r q2;simp only[At] at q1;let(b,us,rfl,sq,al):=q1;simp only[aB,At] at al;let(v1,r1,rfl,(kb,rfl,dk),v2,r2,rfl,a2,rfl):=al;show#[(b,kb,p.1,v2)::es,9,λe he=>?_,?_,?_];rcases cT.mp he with rfl|he
   calc#[sq,dk.1];calc h1 e he;rw[fj,fj,fj,h2];rfl;calc aB.cons a2 h3
end
section
variable{a:Expr}{p1 Aa:Pos}
def Nz(fa:FE):FP:=λρ Q=>fa ρ λx=>∃ps:List (List Key×T),x=.lst (ps.map λp=>T.tup [.kt p.1,p.2])/\Q (.fr (.dt (dN ps).1 (dN ps).2))
def Eu(hc:X.calm=true)(hu:X.A.units+10<cLine)(hg:Gl X "dict")(hm:X.mg "dict"=none)(ha:VE X Z a fa)(he:starEach [a] 3=(false,eval a 3)::starEach [] 3:=by rfl)(j9:(backTo Aa (starEach [] 3)).any (·.1)=false:=by rfl) :
  VP X Z (.Call (.Name "dict" p1) [a] [] Aa) (Nz fa):=.mk λtm=>
 PE.weak (rJ (mK hc hu) hg hm boot_dict (bw (ha tm) cW he) 5 5 he j9) λσ H Q #[ρ,O,q,I,hf,k] =>
  #[ρ,O,_,I,hf,λx hx v H1 s1 a1=>by let(ps,rfl,hq):=hx;simp only[At] at a1;let(p,us,rfl,sq,al):=a1;let(es,rfl,h1,h2,h3):=pairs_at ps us al;show#[p,es,9,sq.imp (λz=>z.1) id,h1,λb hb=>?_];show k _ hq _ _ (s1.trans (aG hb)) ?_;have q1:=IY es ([],[]) 9;have q2:=PF ps (es.map e2) ([],[]) ([],[]) h2 h3 9 aB.nil;let(n1,n2,n3):=(I.same s1).fresh hb;have e1:(dN ps).1=(dN (es.map e2)).1:=q2.1;show#[b,9,(I.same s1).new hb 9,#[(dN (es.map e2)).2,by rw[e1];calc q1.2,?_,(q2.2.more λc hc=>(cU c hc).imp id λe=>by rw[e];calc hb).same (aG hb)],n3,n2];rw[aA,e1];calc fv (λz=>some (HO.dT z)) q1.1]
end
end VT
namespace cV
open PySem L2 VT Gen K5 Lay BS x8 MK
structure MgD(mg:qae):Prop where
 dict:mg "dict"=none
def dkE(E:List Ent):T:=.dt (dN (E.map λe:Ent=>(kK e.1,T.int e.2))).1 (dN (E.map λe:Ent=>(kK e.1,T.int e.2))).2
def Cr(ts:Φ)(q:qam):Prop:=∃E:List Ent,ts=[.lst (E.map hV)]/\E.length<=1000000/\q (.fr (dkE E))
section
abbrev sD:ω:=["parts"]
def qg:aI sD ["parts"] (aq mF):=L2.gL
def rf:(sD++(["part"]:ω)).Nodup:=by decide +kernel
def AO(D:Df K mg "dict_of" mF ["parts"] f fd)(M:MgD mg):cp P w K mg base "dict_of" ["parts"] 1 (cH K 1 Cr):=by show D.gQ (jJ D.F qg 9 λbP A outer s H E Ox hr ts q hG=>?_);have nd:=qg.nd;have hu:=bA.dG hr;have np:∀{i:Nat},aZ #[H,[],Ox] i:=gR;show#[_,(ak (aL (v9 (Eu 9 (YZ (Nat.add_le_add_left 5 _) hu) 18 M.dict (υ (eC (ts:=["part"]) 9 18 (dq (ai 0)) (λ_ _ _ _ _ _=>(ay (i:=1) rf 9 7 np)) (λ_ _ _ _ _ _=>nU) (λ_ _ _ _ _ _=>(υ (aT (aa (υ (cq (aa (υ (ar (ae 1) 14)) (aa (υ (ar (ae 1) 14)) aj)))) (aa (υ (ar (ae 1) 14)) aj))))))))))),λ_=>?_];let(E,rfl,hl,hq):=hG;show#[9,?_];change (E.map hV).length<=sizeLine/\dh _ _ _ _ (E.map hV) _;show#[by rw[bN,π];lia,kj (u:=λe:Ent=>T.tup [.kt (kK e.1),.int e.2]) (λe _ r hr=>?_) ?_];calc#[_,aaL,_,aaM,by change 2<=sizeLine;rw[π];decide,_,aaN,by change 2<=sizeLine;rw[π];decide,hr];calc#[E.map λe:Ent=>(kK e.1,T.int e.2),by rw[rA];rfl,hq]
end
end cV
namespace VT
open PySem PySem.Spec PyProof.Rows L2
def ad5(fL:FE)(f1 f2:FP)(Gg:T->S2->(S2->T->Prop)->Prop):FP:=λρ Q=>iu ρ=true/\fL ρ λl=>f1 ρ λr1=>match r1 with
 |.fr (.dt k1 t1)=>jH t1=true/\f2 ρ λr2=>match r2 with
  |.fr (.dt k2 t2)=>jH t2=true/\Gg l #[k1,t1,k2,t2] λ_ t=>qB t=true/\Q (.vw t)
  |_=>False
 |_=>False
section
variable{Gg:T->S2->(S2->T->Prop)->Prop}
def Cs{f:FP}(h:∀H0 Ox,VP X #[H0,[],Ox] e f)(Ox:zm)(tm:qab):PE X e (λσ H Q=>lP X #[H,[],Ox] tm f σ H Q):=λε s σ H Q I q=>(h H Ox tm) ε s σ H Q I q
def SR{fL:FE}{f1 f2:FP}{xC xg:Str}{kC kg:Nat}{fI fg:Addr}{Pw XT:FuncData}{Px XU:ω}{GI:Φ->(T->Prop)->Prop}{pC pc pg SH:Pos}{eL e1 e2:Expr}(MI:Mk X.K C fI)(FI:dz 34 X.w X.K X.mg X.base iP kC fI Pw Px (Mu X.K C 2 GI))(XR:∀t1 t2 q,q (.ins C fN [t1,t2])->GI [t1,t2] q)(rI:bA (kC+1) X.A)(gI:Gl X xC)(mI:X.mg xC\.ref C)(bI:Binds X.K Pw Px [])(Fg:dz 34 X.w X.K X.mg X.base iP kg fg XT XU (Pp X.K C Gg))(rg:bA kg X.A)(gg:Gl X xg)(mg:X.mg xg\.ref fg)(kgk:W.keepIn X.K (.ref fg)=true)(bg:Binds X.K XT XU [])(hL:VE X Z eL fL)(h1:∀H0 Ox,VP X #[H0,[],Ox] e1 f1)(h2:∀H0 Ox,VP X #[H0,[],Ox] e2 f2)(XS:fY xC:=by decide)(db2:fY xg:=by decide)(s1:starEach [e1,e2] 3=(false,eval e1 3)::starEach [e2] 3:=by rfl)(s2:starEach [e2] 3=(false,eval e2 3)::starEach [] 3:=by rfl)(s3:(backTo pc (starEach [e2] 3)).any (·.1)=false:=by rfl)(g1:starEach [eL,.Call (.Name xC pC) [e1,e2] [] pc] 3=(false,eval eL 3)::starEach [.Call (.Name xC pC) [e1,e2] [] pc] 3:=by rfl)(g2:starEach [.Call (.Name xC pC) [e1,e2] [] pc] 3=(false,eval (.Call (.Name xC pC) [e1,e2] [] pc) 3)::starEach [] 3:=by rfl)(g3:(backTo SH (starEach [.Call (.Name xC pC) [e1,e2] [] pc] 3)).any (·.1)=false:=by rfl) :
  VP X Z (.Call (.Name xg pg) [eL,.Call (.Name xC pC) [e1,e2] [] pc] [] SH) (ad5 fL f1 f2 Gg):=.mk λtm=>
 PE.weak (hY Fg rg gg mg kgk bg .nil jV (bw (hL tm) (bw (tw MI FI rI gI mI bI .nil jV (bw (Cs h1 Z.Ox tm) (bw (Cs h2 Z.Ox tm) cW s2) s1) XS s1 s3) cW g2) g1) db2 g1 g3) λσ H Q #[ρ,O,q,I,hf,k]=>by
  let(hv,hf):=hf;have hr:=og I hv;show#[ρ,O,_,I,hf,λl hl v0 H1 sm1 a1=>?_];have I1:=I.same sm1;show#[ρ,O,_,I1.now hr,hl,λr1 se v1 H2 X_ R1=>?_];split at se
  rename_i k1 t1
  let(i1,se):=se;let(p1,rfl,_,(kn,l1,e1,q1),n1,_):=R1;have I2:=I1.same X_;show#[ρ,O,_,I2.now hr,se,λr2 yY v2 H3 Ug R2=>?_];split at yY
  rename_i k2 t2
  let(i2,hG):=yY;let(p2,rfl,_,(jl,l2,e2,q2),n2,_):=R2;have n1:H1 p1=none:=n1;have n2:H2 p2=none:=n2;have F6:=Ug _ _ e1;have AD:p1≠p2:=λz=>by rw[<- z,e1] at n2;cases n2
  change ∀x dx,H3 x=none->H3 dx=none->dx≠x->Mu X.K C 2 GI (V.ref x::([.ref p1,.ref p2]++[])) (upd (upd H3 dx (.own x)) x (.ins C dx [])) (λv H2=>v=.bO/\Pp X.K C Gg ([v0,.ref x]++[]) H2 Q E0) E0;show uz (Q:=λu H2=>Pp X.K C Gg ([v0,u]++[]) H2 Q E0) (q:=λr=>r=.fr (.ins C fN [.pin p1 (.dt k1 t1),.pin p2 (.dt k2 t2)])) (AB X.K _) (aB.cons ?_ (aB.cons ?_ aB.nil)) 9 (XR _ _ (λu=>Rt.fr u=.fr (.ins C fN [.pin p1 (.dt k1 t1),.pin p2 (.dt k2 t2)])) 9) (λr er v H4 Uh z=>?_);calc#[9,#[p1,kn,9,l1,#[F6,λm=>nomatch m],(q1.same Ug).bq λb hb=>nomatch hb]];calc#[9,#[p2,jl,9,l2,#[e2,λm=>nomatch m],q2.bq λb hb=>nomatch hb]];subst er;let(a,rfl,_,(dx,vs,hl,ea,ZP),n0,_):=z;let(_,_,rfl,z1,_,_,rfl,z2,rfl):=ZP;let(rfl,_):=z1;let(rfl,_):=z2;have n0:H3 a=none:=n0
  let M:MG:=#[a,dx,p1,p2,C,H4,(λz=>by rw[z,F6] at n0;cases n0),(λz=>by rw[z,e2] at n0;cases n0),AD,true]
  have no:∀b∈M.Ox,∀o,H1 b\o->False:=λb hb o e=>by
   rcases M.mem hb with⟨_,rfl⟩|rfl|rfl
   have:=Ug _ _ (X_ _ _ e);rw[show H3 M.a=none from n0] at this;cases this;rw[show H1 M.a1=none from n1] at e;cases e;have:=X_ _ _ e;rw[show H2 M.a2=none from n2] at this;cases this
  have bO:∀b∈M.Ox,H1 b=none:=λb hb=>by
   cases z:H1 b with
   |none=>rfl
   |some o=>exact (no b hb o z).elim
  show#[M,#[k1,t1,k2,t2],l,v0,_,#[9,9],9,(((a1.more λb hb=>.inr (bO b hb)).same X_).same Ug).same Uh,#[λ_=>ea,#[kn,l1,Uh _ _ F6,aB.qB i1 ((q1.same Ug).same Uh)],#[jl,l2,Uh _ _ e2,aB.qB i2 (q2.same Uh)],λb o e _=>e],hG,λs' t ht v H5 SJ a5=>?_];have sm:aO H H5:=λb o e=>SJ.fr b o (Uh _ _ (Ug _ _ (X_ _ _ (sm1 _ _ e)))) λz=>no b z o (sm1 _ _ e);calc k (.vw t) ht.2 v H5 sm #[I.same sm,At.qB ht.1 a5];calc yY.elim;calc se.elim
end
end VT
namespace cV
open PySem L2 VT Gen K5 Lay BS x8 MK
theorem IZ:∀(E A:List Ent),((A++E).map (·.1)).Nodup->(E.map λe:Ent=>(kK e.1,T.int e.2)).foldl (λm p=>(j1 m.1 p.1,iM m.1 m.2 p.1 p.2)) (cu A,cQ A)=(cu (A++E),cQ (A++E))
 |[],A,_=>by rw[Bb];rfl
 |e::E,A,h=>by
  have hn:g7 A e.1=false:=by
   cases z:g7 A e.1 with
   |false=>rfl
   |true=>let(x,hx,ex):=KL.mp z;rw[qz,List.nodup_append] at h;exact absurd (χ ex) (h.2.2 _ (List.mem_map_of_mem hx) _ d_)
  have hp:dJ A e.1 e.2=A++[e]:=by unfold dJ;rw[hn];rfl
  rw[fj,Fp];change List.foldl _ (j1 (cu A) (kK e.1),iM (cu A) (cQ A) (kK e.1) (.int e.2)) _=_;rw[uS A e.1 e.2,eS,hp,IZ E (A++[e]) (by rw[wo];calc h),wo];rfl
def PH{E:List Ent}(h:(E.map (·.1)).Nodup):dkE E=.dt (cu E) (cQ E):=by unfold dkE dN;rw[show (([],[]):List (List Key)×Φ)=(cu [],cQ []) from 9,IZ E [] h];rfl
def vC(E:List Ent):jH (cQ E)=true:=by
 unfold cQ;induction E with
 |nil=>rfl
 |cons e E ih=>rw[fj,jH,ih];rfl
def vD(ts:Φ)(q:qam):Prop:=E4 λ(rs:qal) (E F:List Ent) (N:List Mv)=>ts=[.lst 50,.tup [.lst (E.map hV),.lst (F.map hV)]]/\Pc rs/\6<=64/\(∀r∈rs,XG rs r/\XF r)/\E.length<=100000/\F.length<=100000/\N.length<=250000/\(∀m∈jC rs,m∈N)/\Iv 6 N #[E,F,false]/\q (.vw (.bl (!(bM rs E F 6).b)))
section
variable{aR cv:Addr}
abbrev I8:ω:=qaE
def sF:aI I8 qaE (aq pY):=L2.gL
theorem Ew(D:Df K mg "closed" pY qaE f fd)(M:RY K aR)(M1:Ud K cv)(qa:Ac P w K mg base "Layout" aR qaw 2 1 (uG aR))(AG:Ac P w K mg base "Sets" cv qaz 1 2 (ID cv))(vo:cp P w K mg base "grown" qaD 05 (Pp K cv (AF aR)))(Ex:cp P w K mg base "dict_of" ["parts"] 1 (cH K 1 Cr)):cp P w K mg base "closed" qaE 06 (cH K 2 vD):=by
 let(IT,Ek,qb,qc,qd,qe):=qa;let(SM,Nu,AH,AI,AJ,AK):=AG;let(Nv,IU,vq,vt,vv,vz):=vo;let(Ui,SS,sG,sI,sJ,sL):=Ex;show D.gQ (jJ D.F sF 9 λbP A outer s H E Ox hr ts q hG=>?_);have nd:=sF.nd;show#[_,(ak (aL (v9 (Q1 (SR AH AK (λt1 t2 q hq=>#[t1,t2,9,hq]) 23 18 AI AJ vz 23 18 vq vt vv
  (υ (BX qb qe 23 18 qc qd (aa (ai 0) aj)))
  (λ_ _=>cC sL 23 18 sG sI sJ (aa (υ (ar (ae 1) 14)) aj))
  (λ_ _=>cC sL 23 18 sG sI sJ (aa (υ (ar (ae 1) 14)) aj))))))),λ_=>?_]
 let(rs,E,F,N,rfl,W,hn,bB,l1,l2,hl,hN,I,hq):=hG;show#[9,9,rs,9,W,(),_,aaL,9,E,9,(),?_];rw[PH I.nE];show#[vC E,_,aaM,9,F,9,(),?_];rw[PH I.nF];calc#[vC F,rs,E,F,N,9,9,bB,hn,hl,hN,I,9,hq]
end
end cV
namespace MK
open PySem L2 VT Gen BS K5 x8 Lay
open nQ (cZ fB)
def X':Ky->Prop
 |.fld x=>cZ x=true
 |.op (.nm y)=>cZ y=true
 |.op (.nu _)=>True
def NA(h:cZ x=true):ly (.fld x)=(".":String)++x:=by unfold ly nY;dsimp only;rw[nQ.Dy h,ι 9]
def SU(h:cZ y=true):ly (.op (.nm y))=("#":String):=by unfold ly nY qD;dsimp only;rw[nQ.qP h,θ jq]
def kO:Rw->Prop
 |.get _ _ k=>X' k
 |.set _ k _=>X' k
 |_=>True
def inR(ys:ω)(pl:Plan):Rw->Prop
 |.get _ _ k=>xp ys k
 |.set _ k _=>xp ys k
 |.call _ f as=>∃ps,(f,ps)∈pl/\as.length=ps.length
 |_=>True
def I9{bS body}(h:Body ys pl bS body):∀r∈body,inR ys pl r:=by
 induction h with
 |nil=>intro r hr;cases hr
 |step _ h2 ih=>
  intro r hr;rcases fu.mp hr with hr|hr
  exact ih r hr
  . obtain⟨o,ho,rfl,_⟩|⟨o,ho,rfl,_⟩|⟨y,hy,rfl,_⟩|⟨s0,_,rfl,_⟩|⟨s0,x,_,rfl,_⟩|⟨r',cw,rfl,_⟩:=h2
    all_goals simp only[cT,eh,Ψ] at hr
    subst hr;trivial;subst hr;trivial;obtain rfl|rfl:=hr<;>trivial
    subst hr;trivial;subst hr;trivial;subst hr;cases r<;>first|trivial|calc cw.2.2|calc cw.2.1
def NB(h:Pre ys pl n rs):(∀r∈rs,inR ys pl r)/\∀k<n,∀f ps,pl[k]?\(f,ps)->Rw.df f ps∈rs:=by
 induction h with
 |zero=>calc#[λr hr=>(nomatch hr),λk hk=>absurd hk (UH k)]
 |@succ k rs f ps bS body o sk _ hk hb ho hs ih=>
  show#[λr hr=>?_,λj hj f' XC e=>?_];rcases List.mem_append.mp hr with hr|hr
  calc ih.1 r hr;rcases List.mem_cons.mp hr with rfl|hr
  trivial;rcases fu.mp hr with hr|hr
  have:=I9 hb r hr;cases r with
  |call x g as=>let(ps,h1,h2):=this;calc#[ps,YS h1,h2]
  |_=>exact this
  rcases fu.mp hr with hr|hr
  rw[(List.mem_replicate.mp hr).2];trivial;rcases cT.mp hr with rfl|hr
  trivial;obtain rfl|rfl:=hs
  cases hr;rw[f6.mp hr];trivial;by_cases z:j=k;subst z;rw[hk] at e;cases e;calc gE _ d_;calc fW _ (ih.2 j () f' XC e)
structure Pg(rs:qal):Prop where
 B:Bl rs
 le:6<=60
 ky:∀r∈rs,kO r
 cl:∀x g as,Rw.call x g as∈rs->as.length<=04/\∃a,fnOf rs g\a
def SV(h:Pre ys pl pl.length rs)(le:6<=60)(hn:∀y∈ys,cZ y=true)(p4:∀p∈pl,p.2.length<=04):Pg rs:=by
 have B:Bl rs:=#[WR (RM h),Mi h];let(h1,h2):=NB h;have kk:∀k,xp ys k->X' k:=λk hk=>by
  cases k with
  |fld x=>calc hn x hk
  |op o=>cases o with
   |nm y=>calc hn y hk
   |nu _=>trivial
 show#[B,le,λr hr=>?_,λx g as hr=>?_];have:=h1 r hr;cases r with
 |get x y k=>calc kk k this
 |set y k o=>calc kk k this
 |_=>trivial
 let(ps,a,b):=h1 _ hr;let(k,hk):=List.getElem?_of_mem a;let(i,hi):=List.getElem?_of_mem (h2 k (dA.mp hk).1 g ps hk);calc#[by rw[b];calc p4 _ a,FQ B hi]
def Pg.len(p:Pg rs):(jC rs).length<=300/\∀n≤60,(jm rs n).length<=300:=by
 let(h1,h2):=Su (rs:=rs) λr hr x g as e=>by subst e;exact (p.cl x g as hr).1
 have:=p.le;calc#[(),λn hn=>by have:=h2 n;lia]
end MK
namespace Gen
open PySem L2 VT
def brk(st:ω):qal->Nat->Option Nat
 |[],i=>if st=[] then none else some i
 |r::rs,i=>if gz st (wd r)=true then brk (lM st (wd r)) rs (i+1) else some i
theorem sM{rs:qal}{f:Str}{j:Nat}:∀n,qU (a_ rs n) f\j->∀k<j,∀ps,rs[k]?≠some (.df f ps)
 |0,h=>nomatch h
 |n+1,h=>by
  have old:qU (a_ rs n) f\j->∀k<j,∀ps,rs[k]?≠some (.df f ps):=sM n;simp only[a_] at h;split at h
  rename_i r hr
  cases r with
  |df g ps=>
   simp only[G5] at h;split at h;exact old h
   rename_i hn
   rw[n5] at h;split at h
   rename_i i hi
   cases h;exact old hi
   rename_i hno
   simp only[qU] at h;split at h
   rename_i e
   cases h;intro k hk qs hq;let(j2,hj2):=mj hq _ hk;rw[hno] at hj2;cases hj2;cases h
  |_=>exact old h
  calc old h
end Gen
namespace eQ
open PySem L2 VT Gen
open nQ (bG)
def top(i:Nat):Stmt:=PySem.Challenge.pw_slicewise_k25_the_least_closed_table.main.body.getD i (.Pass #[0,0,0,0])
abbrev mM:Stmt:=top 029
abbrev vE:Stmt:=top 30
abbrev mO:Stmt:=top 31
abbrev I_:Stmt:=top 32
abbrev s_call:Stmt:=top 33
abbrev qh:Stmt:=top 034
abbrev Ja:Stmt:=top 035
abbrev AQ:Stmt:=top 036
abbrev mP:Stmt:=top 37
structure SW(mg:qae):Prop where
 len:mg "len"=none
 range:mg "range"=none
 tuple:mg "tuple"=none
 sum:mg "sum"=none
def PJ(ts:Φ)(q:qam):Prop:=E2 λ(ns:qan) (j:Nat)=>ts=[.lst (ns.map .int),.int (j:Int)]/\q (.vw (.int (ns.getD j 0)))
def Jb(ts:Φ)(q:qam):Prop:=E2 λ(c:Int) (m:Nat)=>ts=[.int c,.int (m:Int)]/\2<=m/\m<=20/\q (.fr (.lst ((c9 c m).map .str)))
section
abbrev Ey:ω:=qaF
def qi:aI Ey qaF (aq mM):=L2.gL
def AR(D:Df K mg "_law_cell_at" mM qaF f fd)(M:SW mg):cp P w K mg base "_law_cell_at" qaF 1 (cH K 2 PJ):=by
 show D.gQ (jJ D.F qi 9 λbP A outer s H E Ox hr ts q hG=>?_);have nd:=qi.nd;show#[_,(ah (bb (mX (ae 1) (ν (aU bf bh 18 M.len ny (aK (ae 0) aS))))
    (ak (aL (v9 (ar (ae 0) (ae 1)))))
    aM)
   (ak (aL (v9 af)))),λ_=>?_]
 let(ns,j,rfl,hq):=hG;show wL (λh=>?_) (λh=>?_);have h':=χ h;rw[bN] at h';have hj:j<ns.length:=by lia
 show#[.int (ns.getD j 0),ag ?_,hq];rw[dQ,gq hj,List.getD,gq hj];rfl;have h':¬ (j<((ns.map T.int).length:Int)):=λz=>h (ο z);rw[bN] at h';have e:ns.getD j 0=0:=by rw[List.getD,Oh ()];rfl
 rw[e] at hq;calc hq
abbrev NC:ω:=["_law_cell","_law_many","_law_letters","_law_size","_law_at","_law_words_here","_law_k","_law_word","_law_j","_law_number"]
def yo:aI NC qaG (aq vE):=L2.gL
def Jc(D:Df K mg "_law_words" vE qaG f fd)(M:SW mg):cp P w K mg base "_law_words" qaG 1 (cH K 2 Jb):=by
 show D.gQ (jJ D.F yo 9 λbP A outer s H E Ox hr ts q hG=>?_);have nd:=yo.nd;have hu:=bA.dG hr;have np:∀{i:Nat},aZ #[H,[],Ox] i:=gR;show#[_,(ah (aF (i:=2) nd 9 7 (v9 ax) np)
  (ah (aF (i:=0) nd 9 7 (v9 (bo (ae 0) (ν (l9 14 14)))) np)
  (ah (aF (i:=03) nd 9 7 (v9 (cf 14 (ν (bo (ae 0) 14)))) np)
  (ah (aF (i:=04) nd 9 7 (v9 (bo (ν (bx (ae 0) 14)) (ae 03))) np)
  (ah (cN (i:=05) nd 9 7 (v9 (bD aj)) np)
  (ah (cg kr 9 (dw 18 M.range (ae 1)) (ay (i:=06) nd 9 7 np)
   (ah (aF (i:=07) nd 9 7 (v9 ax) np)
   (ah (cg kr 9 (dw 18 M.range (ae 03)) (ay (i:=08) nd 9 7 np)
    (ah (aF (i:=09) nd 9 7 (v9 (cf (ν (bx (ν (bx (ae 0) 14)) (ν (cf (ae 08) 14)))) (ν (fD (ae 08) (ae 08))))) np)
    (ah (bb (bt hu (ae 08) (ae 04))
     (ak (tR (i:=09) nd 9 7 (ae 06) K' Gs np))
     aM)
    (ak (aF (i:=07) nd 9 7 (v9 (cf (ae 07) (ν (ar (ae 2) (ν (bo (ae 09) 14)))))) np)))))
   (ak (br (cR 05 ni nq aW aQ (aa (ai 07) aj)))))))
  (ah (bb (bt hu (ν (bo (ν (bx (ae 0) 14)) 14)) 14)
   (ak (eS 05 (υ (cf (ν (ar (ae 05) 14)) (ν (ar (ae 2) (ν (bo (ν (bx (ae 0) 14)) 14)))))) 14))
   aM)
  (ak (aL (gc 05 np)))))))))),λ_=>?_]
 let(c,m,rfl,hm2,aeq,hq):=hG;have e12:=WD;have hz:1+c % 10 ^ (12:Int).toNat % 07=(jY c:Int):=by rw[e12];exact (O8 c).symm
 show#[#[by decide,by decide,by decide],5,5,#[by decide,by decide],(by rw[hz];lia),gJ _,(),(),fG (λk ρ=>E4 λkv wv jv nv=>ρ=[aJ (.int (yX c)),aJ (.int m),aJ (.str bG),aJ (.int (jY c:Int)),aJ (.int (GX c:Int)),some (.lst (((List.range k).map λk=>cb c k (jY c)).map .str),true),kv,wv,jv,nv]) #[none,none,none,none,?_] ?_ ?_];have ha:c % 10 ^ (12:Int).toNat / 07 % (1+c % 10 ^ (12:Int).toNat % 07)=(GX c:Int):=by rw[hz,e12];exact (O9 c).symm
 rw[ha,hz,e12];rfl;rintro k ρ hk ⟨kv,wv,jv,nv,rfl⟩;show#[(),(),fG (λj ρ=>E2 λjv nv=>ρ=[aJ (.int (yX c)),aJ (.int m),aJ (.str bG),aJ (.int (jY c:Int)),aJ (.int (GX c:Int)),some (.lst (((List.range k).map λk=>cb c k (jY c)).map .str),true),aJ (.int (0+k)),aJ (.str (cb c k j)),jv,nv]) #[_,_,9] ?_ ?_];rintro j ρ hj ⟨jv,nv,rfl⟩;show#[#[by decide,by decide],#[(),()],.inl #[(),()],?_];have last:∀n:Int,n=uh c k j->∃c',iW bG.cps.toList (n % 26)\c'/\(cb c k j).length+(Str.mk ([c'].toArray)).length<=sizeLine/\(cb c k j++#[([c'].toArray)])=cb c k (j+1):=by
  rintro n rfl;show#[_,rQ _,?_,(zX c k j).symm];rw[fq,π];change j+1<=16777216
  lia
 show cO (λh=>?_) (λh=>?_);have hja:j=GX c:=by have h:=h;lia
 let(c',h1,h2,h3):=last (yX c / 49 / (0+j+1)+(0+j) * (0+j)+(0+(k:Int))) (by unfold uh;rw[ι hja];simp only[Fq]);calc#[by decide,gy,c',h1,h2,_,_,by rw[<- h3];rfl];have hja:¬ j=GX c:=λz=>h ();let(c',h1,h2,h3):=last (yX c / 49 / (0+(j:Int)+1)+(0+(j:Int)) * (0+(j:Int))) (by unfold uh;rw[θ hja];simp only[Fq,Int.add_zero]);calc#[by decide,gy,c',h1,h2,_,_,by rw[<- h3];rfl];rintro ρ ⟨jv,nv,rfl⟩;show#[?_,aJ (.int (0+(k:Int))),aJ (.str (cb c k (jY c))),jv,nv,?_];rw[bN,bN,sV,π];lia;rw[UE,qz,qz];rfl;rintro ρ ⟨kv,wv,jv,nv,rfl⟩;show#[#[by decide,by decide],5,cO (λh=>?_) (λh=>?_)];have hc:=h;have e0:iW (((List.range m).map λk=>cb c k (jY c)).map T.str) 0\T.str (cb c 0 (jY c)):=by show ag (j:=0) ?_;rw[dQ,dQ,Og ()];rfl
 show#[_,e0,#[by decide,by decide],5,gy,_,rQ _,?_,1,?_,?_];rw[fq,π];change jY c+1<=16777216
 lia
 unfold yV;rw[ι 5,ι (by rw[bN,bN,sV];lia)];rfl;have e:(c9 c m).map T.str=(((List.range m).map λk=>cb c k (jY c)).map T.str).set 1 (T.str (cb c 0 (jY c)++#[([gT (yX c / 147)].toArray)])):=by unfold c9;rw[ι hc,List.map_set]
 rw[e] at hq;calc hq;have hc:=h;have e:(c9 c m).map T.str=(((List.range m).map λk=>cb c k (jY c)).map T.str):=by unfold c9;rw[θ hc]
 rw[e] at hq;calc hq
end
def g_(ts:Φ)(q:qam):Prop:=E2 λ(n:Int) (ys:ω)=>ts=[.int n,.lst (ys.map .str)]/\ys.length=06/\0<=n/\n<2147483648/\∀o,dy ys o->q (.vw (qD o))
def Ya(ts:Φ)(q:qam):Prop:=E2 λ(n:Int) (ys:ω)=>ts=[.int n,.lst (ys.map .str)]/\ys.length=06/\(∀y∈ys,y.length<=100)/\0<=n/\n<2147483648/\∀k,xp ys k->q (.vw (nY k))
def PK(ts:Φ)(q:qam):Prop:=E4 λ(n:Int) (x:Str) (ys:ω) (pl:Plan)=>ts=[.int n,.str x,.lst (ys.map .str),.lst (pl.map bV)]/\ys.length=06/\pl≠[]/\pl.length<=03/\(∀p∈pl,p.2.length<=04)/\x∈ys/\0<=n/\n<2147483648 /\
 ∀f as,gU ys pl (.call x f as)->q (.vw (aV (.call x f as)))
structure Given(ys:ω)(pl:Plan):Prop where
 y6:ys.length=06
 sm:∀y∈ys,y.length<=100
 p3:pl.length<=03
 p4:∀p∈pl,p.2.length<=04
def Ct(ts:Φ)(q:qam):Prop:=E3 λ(n:Int) (ys:ω) (pl:Plan)=>ts=[.int n,.lst (ys.map .str),.lst (pl.map bV)]/\Given ys pl/\0<=n/\n<2147483648/\∀r,gU ys pl r->q (.vw (aV r))
section
abbrev Ez:ω:=qaH
def qj:aI Ez qaH (aq mO):=L2.gL
def AS(D:Df K mg "_law_operand" mO qaH f fd):cp P w K mg base "_law_operand" qaH 1 (cH K 2 g_):=by
 show D.gQ (jJ D.F qj 9 λbP A outer s H E Ox hr ts q hG=>?_);have nd:=qj.nd;have hu:=bA.dG hr;show#[_,(ah (bb (rN (ν (bo (ae 0) 14)) 14)
    (ak (aL (v9 (ar (ae 1) (ν (bo (ν (bx (ae 0) 14)) 14))))))
    aM)
   (ah (bb (bt hu (ν (bo (ae 0) 14)) 14)
     (ak (aL (v9 (oR (ν (bo (ν (cf (ν (fD (ν (fD (ae 0) 14)) (ν (l9 14 14)))) (ae 0))) (ν (fD 14 (ν (l9 14 14)))))) (ν (l9 14 14))))))
     aM)
   (ak (aL (v9 (oR (ν (bo (ν (bx (ae 0) 14)) 14)) 14)))))),λ_=>?_]
 let(n,ys,rfl,Cu,RW,R9,hq):=hG;show#[5,cO (λ_=>?_) (λ_=>?_)];let(y,hy,e):=kZ Cu (m:=04) 5 5;calc#[#[by decide,by decide],5,_,e,hq (.nm y) hy];show#[5,cO (λ_=>?_) (λ_=>?_)];show#[.inr #[by decide,by decide],#[by decide,by decide,by decide],.inl #[(),()],#[by decide,by decide,by decide],.inl #[by decide,by decide],5,#[by decide,by decide,by decide],hq (.nu _) ?_];rw[WE];calc#[(),()];calc#[#[by decide,by decide],5,hq (.nu _) #[(),()]]
abbrev Yb:ω:=qaH
def Jd:aI Yb qaH (aq I_):=L2.gL
def SX(D:Df K mg "_law_key" I_ qaH f fd)(c1:cp P w K mg base "_law_operand" qaH 1 (cH K 2 g_)):cp P w K mg base "_law_key" qaH 2 (cH K 2 Ya):=by
 let(jD,iB,bW,bX,bY,bZ):=c1;show D.gQ (jJ D.F Jd 9 λbP A outer s H E Ox hr ts q hG=>?_);have nd:=Jd.nd;have hu:=bA.dG hr;show#[_,(ah (bb (bt hu (ν (bo (ae 0) 14)) 14)
    (ak (aL (v9 (cf (ν ax) (ν (ar (ae 1) (ν (bo (ν (bx (ae 0) 14)) 14))))))))
    aM)
   (ak (aL (v9 (cC bZ 23 18 bW bX bY (aa (υ (bx (ae 0) 14)) (aa (ai 1) aj))))))),λ_=>?_]
 let(n,ys,rfl,Cu,hsm,RW,R9,hq):=hG;show#[5,cO (λ_=>?_) (λ_=>?_)];let(y,hy,e):=kZ Cu (m:=2) 5 5;show#[#[by decide,by decide],5,_,e,?_,hq (.fld y) hy];rw[adH,π];have:=hsm y hy
 lia
 calc#[#[by decide,by decide],9,_,ys,9,Cu,(),(),λo ho=>hq (.op o) ho]
abbrev SY:ω:=["_law_number","_law_name","_law_words_here","_law_later","_law_other","_law_parameters","_law_operands","_law_k"]
def Cv:aI SY qaI (aq s_call):=L2.gL
def ND(D:Df K mg "_law_call" s_call qaI f fd)(M:SW mg)(c1:cp P w K mg base "_law_operand" qaH 1 (cH K 2 g_)) :
  cp P w K mg base "_law_call" qaI 2 (cH K 04 PK):=by
 let(jD,iB,bW,bX,bY,bZ):=c1;show D.gQ (jJ D.F Cv 9 λbP A outer s H E Ox hr ts q hG=>?_);have nd:=Cv.nd;have np:∀{i:Nat},aZ #[H,[],Ox] i:=gR;show#[_,(ah (tT (υ (ar (ae 03) (ν (bo (ae 0) (ν (aU bf bh 18 M.len ny (aK (ae 03) aS))))))) (cX (n:=2) 9 (aH (ay (i:=04) nd 9 7 np) (aH (ay (i:=05) nd 9 7 np) b_))))
   (ah (cN (i:=06) nd 9 7 (v9 (bD aj)) np)
   (ah (cg kr 9 (dw 18 M.range (ν (aU bf bh 18 M.len ny (aK (ae 05) aS)))) (ay (i:=07) nd 9 7 np)
     (ak (br (cR 06 ni nq aW aQ (aa (υ (cC bZ 23 18 bW bX bY (aa (υ (bx (ae 0) (ν (cf (ν (aU bf bh 18 M.len ny (aK (ae 03) aS))) (ae 07))))) (aa (ai 2) aj)))) aj)))))
   (ak (aL (v9 (aT (aa (υ ax) (aa (ai 1) (aa (ai 04) (aa (υ (dZ jU mY 18 M.tuple BH (aK (ae 06) aS))) aj))))))))))),λ_=>?_]
 let(n,x,ys,pl,rfl,Cu,eV,hp3,hp4,hx,RW,R9,hq):=hG;have adU:0<pl.length:=by cases pl with|nil=>exact absurd 9 eV|cons a r=>simp
 have eL:((pl.map bV).length:Int)=pl.length:=by rw[bN]
 have h0:0<=n % ((pl.map bV).length:Int):=rq n ();have h1:n % ((pl.map bV).length:Int)<pl.length:=by rw[eL];exact y0 n ()
 let(j,hj):=oq h0;have RX:j<pl.length:=by lia
 obtain⟨p,hp⟩:∃p:Str×ω,p=pl[j]:=#[_,9];let(fn,ps):=p;have Yc:(fn,ps)∈pl:=by rw[hp];exact CU RX
 have hps:ps.length<=04:=hp4 _ Yc;show#[(),bV (fn,ps),?_,9,?_];rw[hj];show ag ?_;rw[dQ,gq RX,<- hp];rfl;show#[9,gJ _,(),by change ((ps.map T.str).length:Int)<2 ^ 62;rw[bN];lia,?_];show fG (λk ρ=>E3 λkv os as=>ρ=[aJ (.int n),aJ (.str x),aJ (.lst (ys.map .str)),aJ (.lst (pl.map bV)),aJ (.str fn),aJ (.tup (ps.map .str)),some (.lst os,true),kv]/\os=as.map qD/\as.length=k/\∀a∈as,dy ys a)
  #[none,[],[],9,9,9,λ_ z=>nomatch z] ?_ ?_
 rintro k ρ hk ⟨kv,_,as,rfl,rfl,rfl,zB⟩;have Ma:as.length<ps.length:=by rw[bN,kA] at hk;exact hk
 show#[#[(),()],9,_,ys,9,Cu,?_,?_,λo ho=>#[?_,_,_,as++[o],9,?_,by simp,λa ha=>?_]];calc Int.ediv_nonneg RW ();calc Int.lt_of_le_of_lt (Int.ediv_le_self _ RW) R9;rw[bN,π];lia;rw[qz];rfl;rcases fu.mp ha with z|z
 calc zB a z;rw[f6.mp z];calc ho;rintro ρ ⟨kv,_,as,rfl,rfl,hlen,zB⟩;show#[by change 04<=sizeLine;rw[π];decide,hq fn as #[hx,#[ps,Yc,?_],zB]];rw[hlen,bN];rfl
end
def fits(h:n<=1001):n<sizeLine:=by rw[π];lia
def bH(h:n<=08):n<=sizeLine:=small ()
def D6(q:qam)(n:Int)(ys:ω)(pl:Plan)(y z:Str):FS:=λd ρ=>(∃wv,ρ=[aJ (.int n),aJ (.lst (ys.map .str)),aJ (.lst (pl.map bV)),aJ (.int (n % 13)),aJ (.str y),aJ (.str z),aJ (.int (n / 208)),wv])/\∀ρ r,q r->d.rt ρ r
def Yd:GT:=λts q=>E5 λ(rs:qal) (bS:ω) (c:Int) (ys:ω) (pl:Plan)=>ts=[.lst 50,.lst (bS.map .str),.int c,.lst (ys.map .str),.lst (pl.map bV)]/\Given ys pl/\6<=1000/\bS.length<=1000 /\
 ∀new du,mh ys pl bS new du->q [.lst ((rs++new).map aV),.lst (du.map .str)] (.vw .bO)
section
abbrev Je:ω:=["_law_number","_law_words_here","_law_later","_law_kind","_law_name","_law_other","_law_rest","_law_word"]
def sN:aI Je qaJ (aq qh):=L2.gL
theorem EA(D:Df K mg "_law_simple" qh qaJ f fd)(c1:cp P w K mg base "_law_operand" qaH 1 (cH K 2 g_))(c2:cp P w K mg base "_law_key" qaH 2 (cH K 2 Ya))(c3:cp P w K mg base "_law_call" qaI 2 (cH K 04 PK)) :
  cp P w K mg base "_law_simple" qaJ 03 (cH K 03 Ct):=by
 let(jD,iB,bW,bX,bY,bZ):=c1;let(ael,ad6,PL,PM,PN,PQ):=c2;let(ad7,ZQ,S0,S6,S7,S8):=c3;show D.gQ (jJ D.F sN 9 λbP A outer s H E Ox hr ts q hG=>?_);have nd:=sN.nd;have hu:=bA.dG hr;have np:∀{i:Nat},aZ #[H,[],Ox] i:=gR;let(n,ys,pl,rfl,G,RW,R9,hq):=hG;let(y,hy,ey):=kZ G.y6 (m:=04) 5 5;let(z,hz,ez):=kZ G.y6 (m:=04) 5 5;show#[_,(ah (aF (i:=03) nd 9 7 (v9 (bo (ae 0) 14)) np)
   (ah (aF (i:=04) nd 9 7 (v9 (ar (ae 1) (ν (bo (ν (bx (ae 0) 14)) 14)))) np)
   (ah (aF (i:=05) nd 9 7 (v9 (ar (ae 1) (ν (bo (ν (bx (ae 0) 14)) 14)))) np)
   (ah (aF (i:=06) nd 9 7 (v9 (bx (ae 0) 14)) np)
   (ah (bb (mX (ae 03) 14)
     (ak (aL (v9 (aT (aa (υ ax) (aa (ai 04) (aa (υ (cC bZ 23 18 bW bX bY (aa (ai 06) (aa (ai 1) aj)))) aj)))))))
     aM)
   (ah (bb (mX (ae 03) 14)
     (ah (aF (i:=07) nd 9 7 (v9 (ar (ν (bD (aa (υ ax) (aa (υ ax) (aa (υ ax) (aa (υ ax) (aa (υ ax) (aa (υ ax) (aa (υ ax) aj))))))))) (ν (bo (ae 06) 14)))) np)
     (ak (aL (v9 (aT (aa (υ ax) (aa (ai 04) (aa (υ (cC bZ 23 18 bW bX bY (aa (υ (bx (ae 06) 14)) (aa (ai 1) aj)))) (aa (ai 07) (aa (υ (cC bZ 23 18 bW bX bY (aa (υ (bx (ae 06) 14)) (aa (ai 1) aj)))) aj))))))))))
     aM)
   (ah (bb (bt hu (ae 03) 14)
     (ak (aL (v9 (aT (aa (υ ax) (aa (ai 04) aj))))))
     aM)
   (ah (bb (mX (ae 03) 14)
     (ak (aL (v9 (aT (aa (υ ax) (aa (ai 04) (aa (ai 05) (aa (υ (cC PQ 23 18 PL PM PN (aa (ai 06) (aa (ai 1) aj)))) aj))))))))
     aM)
   (ah (bb (mX (ae 03) 14)
     (ak (aL (v9 (aT (aa (υ ax) (aa (ai 05) (aa (υ (cC PQ 23 18 PL PM PN (aa (ai 06) (aa (ai 1) aj)))) (aa (υ (cC bZ 23 18 bW bX bY (aa (υ (bx (ae 06) 14)) (aa (ai 1) aj)))) aj))))))))
     aM)
   (ah (bb (VW.vc (c6 (bt hu (ae 03) 14) (cz (i4 hu (ae 2) (ν (bD aj))))))
     (ak (aL (v9 (cC S8 23 18 S0 S6 S7 (aa (ai 06) (aa (ai 04) (aa (ai 1) (aa (ai 2) aj))))))))
     aM)
   (iQ.weak (u:=(D6 q n ys pl y z)) (ah (bb (VW.vc (c6 (bt hu (ae 03) 14) (cz (bt hu (ν (bo (ae 06) 14)) 14))))
     (ak (aL (v9 (aT (aa (υ ax) (aa (υ (ar (ae 1) (ν (cf 14 (ν (bo (ν (bx (ae 06) 14)) 14)))))) aj))))))
     aM)
   (ah (bb (VW.vc (c6 (bt hu (ae 03) 14) (cz (bt hu (ν (bo (ae 06) 14)) 14))))
     (ak (aL (v9 (aT (aa (υ ax) aj)))))
     aM)
   (ak (aL (v9 (aT (aa (υ ax) (aa (ai 04) (aa (ai 05) aj))))))))) ?w_cutS))))))))))),λ_=>?_]
 case w_cutS=>
  rintro d ρ ⟨⟨wv,rfl⟩,kk⟩;show cO (λ_=>?_) (λ_=>?_);show#[5,cO (λ_=>?_) (λ_=>?_)];let(x,hx,ex):=z0 G.y6 (n / 208 / 03);calc#[#[by decide,by decide],5,_,ex,bH 4,kk _ _ (hq (.fail x) hx)];calc cO (λ_=>#[5,cO (λ_=>#[bH 4,kk _ _ (hq .skip trivial)]) (λ_=>#[bH 4,kk _ _ (hq (.put y (.nm z)) #[hy,hz])])]) (λ_=>#[bH 4,kk _ _ (hq (.put y (.nm z)) #[hy,hz])]);exact i7 9 (cO (λ_=>#[5,cO (λ_=>#[bH 4,kk _ _ (hq .skip trivial)]) (λ_=>#[bH 4,kk _ _ (hq (.put y (.nm z)) #[hy,hz])])]) (λ_=>i7 9 #[bH 4,kk _ _ (hq (.put y (.nm z)) #[hy,hz])]))
 have m0:0<=n / 208:=by lia
 have m1:n / 208<2147483648:=by lia
 have dv:∀e:Int,0<e->0<=n / 208 / e/\n / 208 / e<2147483648:=λe he=>#[Int.ediv_nonneg m0 (),Int.lt_of_le_of_lt (Int.ediv_le_self _ m0) m1];show#[5,#[by decide,by decide],5,_,ey,#[by decide,by decide],5,_,ez,#[by decide,by decide],cO (λ_=>?_) (λ_=>?_)];calc#[9,_,ys,9,G.y6,m0,m1,λo ho=>#[bH 4,hq (.put y o) #[hy,ho]]];show cO (λ_=>?_) (λ_=>?_);let(op,ZM,eop):=WI (n / 208);calc#[bH 4,5,_,eop,#[by decide,by decide],9,_,ys,9,G.y6,(dv 07 5).1,(dv 07 5).2,λo ho=>#[#[by decide,by decide],9,_,ys,9,G.y6,(dv 420 5).1,(dv 420 5).2,λo2 yU=>#[bH 4,hq (.DH y o op o2) #[hy,ho,ZM,yU]]]];show cO (λ_=>#[bH 4,hq (.new y) hy]) (λ_=>cO (λ_=>?_) (λ_=>?_));calc#[9,_,ys,9,G.y6,G.sm,m0,m1,λk hk=>#[bH 4,hq (.get y z k) #[hy,hz,hk]]];show cO (λ_=>?_) (λ_=>?_);calc#[9,_,ys,9,G.y6,G.sm,m0,m1,λk hk=>#[#[by decide,by decide],9,_,ys,9,G.y6,(dv 90 5).1,(dv 90 5).2,λo ho=>#[bH 4,hq (.set z k o) #[hz,hk,ho]]]];show cO (λ_=>#[gJ _,xq pl,9,DI pl,?_]) (λ_=>i7 9 #[#[_,9],λ_ _ h=>h]);cases pl with
 |nil=>calc i7 9 #[#[_,9],λ_ _ h=>h]
 |cons p pl=>calc uc 9 #[9,_,y,ys,p::pl,9,G.y6,by simp,G.p3,G.p4,hy,m0,m1,λfn as hs=>hq _ hs]
end
def Jf(q:Φ->qam)(rs:qal)(bS:ω)(c n mv:Int)(ys:ω)(pl:Plan):FS:=λd ρ=>(∃nv,ρ=[some (.lst 50,true),some (.lst (bS.map .str),true),aJ (.int c),aJ (.lst (ys.map .str)),aJ (.lst (pl.map bV)),aJ (.int n),aJ (.int mv),nv]) /\
 ∀ρ,q (kU [true,true,false,false,false] ρ) (.vw .bO)->d.nx ρ
def qk(l:ω):plainT (.lst (l.map .str))=true:=by simp only[plainT];calc fH (λ_=>by simp[plainT]) l
def yp(l:ω):dep (.lst (l.map .str))<=100:=by have:=i9 (f:=T.str) (n:=0) (λ_=>by simp[dep]) l;simp only[dep];lia
section
abbrev Ye:ω:=["_law_rows","_law_stack","_law_cell","_law_words_here","_law_later","_law_number","_law_move","_law_name"]
def Jg:aI Ye qaK (aq Ja):=L2.gL
def S9(D:Df K mg "_law_lay" Ja qaK f fd)(M:SW mg)(c1:cp P w K mg base "_law_operand" qaH 1 (cH K 2 g_))(c2:cp P w K mg base "_law_simple" qaJ 03 (cH K 03 Ct)) :
  cp P w K mg base "_law_lay" qaK 04 (qR K [true,true,false,false,false] Yd):=by
 let(jD,iB,bW,bX,bY,bZ):=c1;let(Yf,Uj,Jh,Ji,Jj,Jk):=c2;show D.gQ (fnV D.F Jg 9 λbP A outer s H E as Ox hr ts q hl hG=>?_);have nd:=Jg.nd;have hu:=bA.dG hr;let(rs,bS,c,ys,pl,rfl,G,se,hs1,hq):=hG;have n0:0<=c / 08 * 48271 % 2147483647:=rq _ 5;have n2:c / 08 * 48271 % 2147483647<2147483648:=by lia
 have d3:0<=c / 08 * 48271 % 2147483647 / 03/\c / 08 * 48271 % 2147483647 / 03<2147483648:=#[(),()];have EB:(rs.map aV).length<sizeLine:=by rw[bN];exact fits ()
 have Yg:(bS.map T.str).length<sizeLine:=by rw[bN];exact fits ()
 have one:=λ{r du} h=>by have:=hq [r] du h;rw[qz] at this;exact this
 have push:∀x:Str,(bS++[x]).map T.str=bS.map T.str++[T.str x]:=λx=>by rw[qz];rfl
 show#[_,(ah (aF (i:=05) nd 9 7 (v9 (bo (ν (fD (ν (bx (ae 2) 14)) 14)) 14)) (BI 5))
   (ah (aF (i:=06) nd 9 7 (v9 (bo (ae 2) 14)) (BI 5))
   (iQ.weak (u:=(Jf q rs bS c (c / 08 * 48271 % 2147483647) (c % 08) ys pl)) (ak (bb (VW.vc (c6 (bt hu (ae 06) 14) (cz (mX (ν (aU bf bh 18 M.len ny (aK (ae 1) aS))) 14))))
     (ah (br (cR 0 ni nq aW aQ (aa (υ (aT (aa (υ ax) (aa (υ (cC bZ 23 18 bW bX bY (aa (ai 05) (aa (ai 03) aj)))) aj)))) aj)))
     (ak (br (cR 1 ni nq aW aQ (aa (υ ax) aj)))))
     (iQ.weak (u:=(Jf q rs bS c (c / 08 * 48271 % 2147483647) (c % 08) ys pl)) (ak (bb (VW.vc (c6 (bt hu (ae 06) 14) (cz (mX (ν (aU bf bh 18 M.len ny (aK (ae 1) aS))) 14))))
       (ah (br (cR 1 ni nq aW aQ (aa (υ ax) aj)))
       (ak (bb (bt hu (ν (bo (ae 05) 14)) 14)
         (ak (br (cR 0 ni nq aW aQ (aa (υ (aT (aa (υ ax) (aa (υ (cC bZ 23 18 bW bX bY (aa (υ (bx (ae 05) 14)) (aa (ai 03) aj)))) aj)))) aj))))
         (ah (aF (i:=07) nd 9 7 (v9 (ar (ae 03) (ν (bo (ν (bx (ae 05) 14)) 14)))) (BI 5))
         (ah (br (cR 0 ni nq aW aQ (aa (υ (aT (aa (υ ax) (aa (ai 07) aj)))) aj)))
         (ak (br (cR 0 ni nq aW aQ (aa (υ (aT (aa (υ ax) (aa (ai 07) (aa (ai 07) (aa (υ ax) (aa (υ af) aj))))))) aj)))))))))
       (iQ.weak (u:=(Jf q rs bS c (c / 08 * 48271 % 2147483647) (c % 08) ys pl)) (ak (bb (VW.vc (c6 (bt hu (ae 06) 14) (c6 (i4 hu (ae 1) (ν (bD aj))) (cz (bt hu (ν (ar (ae 1) (ν (oU 14)))) (ν ax))))))
         (ah (br (cR 0 ni nq aW aQ (aa (υ (aT (aa (υ ax) aj))) aj)))
         (ak (eS 1 (υ ax) (ν (oU 14)))))
         (iQ.weak (u:=(Jf q rs bS c (c / 08 * 48271 % 2147483647) (c % 08) ys pl)) (ak (bb (VW.vc (c6 (bt hu (ae 06) 14) (cz (i4 hu (ae 1) (ν (bD aj))))))
           (ah (br (cR 0 ni nq aW aQ (aa (υ (aT (aa (υ ax) aj))) aj)))
           (ak (br (Gx 1 PySem.F.slot_list_pop PySem.F.type_list_pop F3 Bw))))
           (iQ.weak (u:=(Jf q rs bS c (c / 08 * 48271 % 2147483647) (c % 08) ys pl)) (ak (br (cR 0 ni nq aW aQ (aa (υ (cC Jk 23 18 Jh Ji Jj (aa (ai 05) (aa (ai 03) (aa (ai 04) aj))))) aj)))) ?w5))) ?w4))) ?w3))) ?w2))) ?w1))),?_]
 case w5=>
  rintro d ρ ⟨⟨nv,rfl⟩,kk⟩;exact#[9,_,ys,pl,9,G,n0,n2,λr hs=>#[EB,kk _ (one (.inr (.inr (.inr (.inr (.inr #[r,hs,9,9]))))))]]
 case w4=>
  rintro d ρ ⟨⟨nv,rfl⟩,kk⟩;show cO (λ_=>#[gJ _,qk bS,9,yp bS,?_]) (λ_=>i7 9 #[#[nv,9],kk]);rcases List.eq_nil_or_concat bS with e|⟨s0,x,e⟩
  subst e;calc i7 9 #[#[nv,9],kk];have en:eqT (.lst (bS.map .str)) (.lst [])=false:=by rw[e];cases s0<;>simp[eqT,gw]
  show uc (by change (!eqT (.lst (bS.map .str)) (.lst []))=true;rw[en];rfl) #[bH 4,EB,9,T.str x,?_,?_];rw[e];simp;have e2:(bS.map T.str).dropLast=s0.map T.str:=by rw[e];simp
  show kk _ ?_;rw[e2];exact one (.inr (.inr (.inr (.inr (.inl #[s0,x,by rw[e,List.concat_eq_append],9,9])))))
 case w3=>
  rintro d ρ ⟨⟨nv,rfl⟩,kk⟩;show cO (λ_=>#[gJ _,qk bS,9,yp bS,?_]) (λ_=>i7 9 #[#[nv,9],kk]);rcases List.eq_nil_or_concat bS with e|⟨s0,x,e⟩
  subst e;calc i7 9 (i7 9 #[#[nv,9],kk]);have en:eqT (.lst (bS.map .str)) (.lst [])=false:=by rw[e];cases s0<;>simp[eqT,gw]
  have ex:iW (bS.map T.str) (-1)\T.str x:=by rw[e,List.concat_eq_append,qz];exact oH _ _
  show uc (by change (!eqT (.lst (bS.map .str)) (.lst []))=true;rw[en];rfl) #[_,ex,cO (λhx=>?_) (λ_=>#[#[nv,9],kk])];have T4:=hx;subst T4;have X7:(bS.map T.str).length=s0.length+1:=by rw[e];simp
  show#[bH 4,EB,s0.length,?_,kk _ ?_];unfold yV;rw[X7,θ 5,ι ()]
  congr 1
  lia
  have e2:(bS.map T.str).set s0.length (T.str "else")=(s0++([("else":Str)]:ω)).map T.str:=by rw[e];simp
  change q [.lst (rs.map aV++[aV .zZ]),.lst ((bS.map T.str).set s0.length (T.str "else"))] _;rw[e2];exact one (.inr (.inr (.inr (.inl #[s0,by rw[e];simp,9,9]))))
 case w2=>
  rintro d ρ ⟨⟨nv,rfl⟩,kk⟩;show cO (λ_=>cO (λ_=>#[Yg,5,cO (λ_=>?_) (λ_=>?_)]) (λ_=>#[#[nv,9],kk])) (λ_=>i7 9 #[#[nv,9],kk]);show#[#[by decide,by decide],9,_,ys,9,G.y6,d3.1,d3.2,λo ho=>#[bH 4,EB,kk _ ?_]];have:=one (.inr (.inl #[o,ho,9,9]));rw[push] at this;calc this;let(y,hy,ey):=kZ G.y6 (m:=04) 5 5;show#[#[by decide,by decide],5,_,ey,bH 4,EB,bH 4,?_,kk _ ?_];rw[kq,bN];calc fits (by simp;lia);have:=hq [.BJ (.nm y),.DH y (.nm y) "minus" (.nu 1)] _ (.inr (.inr (.inl #[y,hy,9,9])));rw[push,qz] at this;rw[wo];exact this
 case w1=>
  rintro d ρ ⟨⟨nv,rfl⟩,kk⟩;show cO (λ_=>cO (λ_=>#[9,_,ys,9,G.y6,n0,n2,λo ho=>#[bH 4,EB,Yg,kk _ ?_]]) (λ_=>#[#[nv,9],kk])) (λ_=>i7 9 #[#[nv,9],kk]);have:=one (.inl #[o,ho,9,9]);rw[push] at this;exact this
 calc#[#[by decide,by decide],.inr #[by decide,by decide],5,5,#[none,9],λ_ h=>h]
end
def PR(ts:Φ)(q:qam):Prop:=E2 λ(c:Int) (ys:ω)=>ts=[.int c,.lst (ys.map .str)]/\ys.length=06/\∀pl,o7 ys pl->1<=pl.length->pl.length<=03->q (.fr (.lst (pl.map bV)))
section
abbrev Jl:ω:=["_law_cell","_law_words_here","_law_number","_law_plan_here","_law_k","_law_parameters"]
def Cw:aI Jl qaL (aq AQ):=L2.gL
def AU:(Jl++(["_law_j"]:ω)).Nodup:=by decide +kernel
def NF(D:Df K mg "_law_plan" AQ qaL f fd)(M:SW mg):cp P w K mg base "_law_plan" qaL 1 (cH K 2 PR):=by
 show D.gQ (jJ D.F Cw 9 λbP A outer s H E Ox hr ts q hG=>?_);have nd:=Cw.nd;have np:∀{i:Nat},aZ #[H,[],Ox] i:=gR;show#[_,(ah (aF (i:=2) nd 9 (.inr 9) (v9 (bo (ae 0) (ν (l9 14 14)))) np)
  (ah (cN (i:=03) nd 9 7 (v9 (bD aj)) np)
  (ah (cg kr 9 (dw 18 M.range (ν (cf 14 (ν (bo (ae 2) 14))))) (ay (i:=04) nd 9 7 np)
   (ah (aF (i:=2) nd 9 (.inr 9) (v9 (bo (ν (cf (ν (cf (ν (fD (ae 2) (ae 2))) (ν (fD 14 (ae 2))))) (ae 04))) 14)) np)
   (ah (BA (i:=05) (ts:=["_law_j"]) nd 9 7 9 18 (dw 18 M.range (ν (bo (ae 2) 14))) (λ_ _ _ _ _ _=>(ay (i:=06) AU 9 7 np)) (λ_ _ _ _ _ _=>nU) (λ_ _ _ _ _ _=>(υ (ar (ae 1) (ν (bo (ν (cf (ν (bx (ae 2) 14)) (ae 06))) 14))))) np)
   (ak (br (cR 03 ni nq aW aQ (aa (υ (aT (aa (υ (ar (ae 1) (ae 04))) (aa (υ (dZ jU mY 18 M.tuple BH (aK (ae 05) aS))) aj)))) aj)))))))
  (ak (aL (gc 03 np)))))),λ_=>?_]
 let(c,ys,rfl,Cu,hq):=hG;show#[#[by decide,by decide,by decide],(by change (0:Int)<10 ^ (09:Int).toNat;decide),gJ _,(by change (0:Int)<03;decide),?_];have m0:0<=c % (10:Int) ^ (09:Int).toNat:=rq _ 5;have m1:c % (10:Int) ^ (09:Int).toNat<1000000000:=by rw[WG];exact y0 _ 5
 have t0:0<=c % (10:Int) ^ (09:Int).toNat % 03:=rq _ 5;have t1:c % (10:Int) ^ (09:Int).toNat % 03<03:=y0 _ 5;show#[(by change -(2 ^ 62:Int)<=1+c % 10 ^ (09:Int).toNat % 03;lia),(by change 1+c % 10 ^ (09:Int).toNat % 03<(2 ^ 62:Int);lia),?_];show fG (λk ρ=>E5 λn kv pv ts pl=>ρ=[aJ (.int c),aJ (.lst (ys.map .str)),aJ (.int n),some (.lst ts,true),kv,pv]/\ts=pl.map bV/\0<=n/\n<2147483648/\pl.length=k/\o7 ys pl)
  #[_,none,none,_,[],9,9,m0,(),9,λk f ps e=>by simp at e] ?_ ?_
 rintro k ρ hk ⟨n,kv,pv,_,pl,rfl,rfl,p0,p1,rfl,bB⟩;have hk3:pl.length<03:=by lia
 show#[.inl #[(),()],.inl #[by decide,by decide],(by change (0:Int)<2147483647;decide),9,(by change (0:Int)<03;decide),?_];have g0:0<=(n * n+48271 * n+(0+(pl.length:Int))) % 2147483647:=rq _ 5;have g1:(n * n+48271 * n+(0+(pl.length:Int))) % 2147483647<2147483647:=y0 _ 5;have u0:0<=(n * n+48271 * n+(0+(pl.length:Int))) % 2147483647 % 03:=rq _ 5;have u1:(n * n+48271 * n+(0+(pl.length:Int))) % 2147483647 % 03<03:=y0 _ 5;show#[(by change -(2 ^ 62:Int)<=(n * n+48271 * n+(0+(pl.length:Int))) % 2147483647 % 03;lia),(by change (n * n+48271 * n+(0+(pl.length:Int))) % 2147483647 % 03<(2 ^ 62:Int);lia),?_];show#[by rw[ig];calc small (by change ((n * n+48271 * n+(0+(pl.length:Int))) % 2147483647 % 03).toNat<=1000;lia),?_];show jr (λ_=>true) (λt=>match t with | .int j=>.str (ys.getD (((n * n+48271 * n+(0+(pl.length:Int))) % 2147483647 / 03+j) % 04).toNat Str.empty)|_=>.bO) ?_ ?_;intro t ht _ r hr;let(i,hi,e):=List.mem_iff_getElem.mp ht;let(_,rfl):=ij (by rw[gq hi,e]:(rangeT _ _)[i]?\t);rw[ι 9] at hr;calc#[#[by decide,by decide],(by change (0:Int)<04;decide),_,GY Cu _,hr];generalize hn':(n * n+48271 * n+(0+(pl.length:Int))) % 2147483647=n' at g0 g1 u0 u1;have hkl:pl.length<ys.length:=by lia
 have ek:iW (ys.map T.str) (0+(pl.length:Int))\T.str ys[pl.length]:=by rw[Fq];show ag ?_;rw[dQ,gq hkl];rfl
 have eps:(((rangeT 0 (n' % 03).toNat).filter λ_=>true).map λt=>match t with | .int j=>T.str (ys.getD ((n' / 03+j) % 04).toNat Str.empty)|_=>.bO)=((List.range (n' % 03).toNat).map λj=>ys.getD ((n' / 03+((j:Nat):Int)) % 04).toNat Str.empty).map T.str:=by unfold rangeT;rw[List.filter_eq_self.mpr (λ_ _=>rfl),rA,rA];apply Fn;intro j _;change T.str (ys.getD ((n' / 03+(0+(j:Int))) % 04).toNat Str.empty)=T.str (ys.getD ((n' / 03+(j:Int)) % 04).toNat Str.empty);rw[Fq]
 rw[eps];show#[_,ek,bH 4,by rw[bN];calc fits (),n',_,_,_,pl++[(ys[pl.length],(List.range (n' % 03).toNat).map λj=>ys.getD ((n' / 03+((j:Nat):Int)) % 04).toNat Str.empty)],9,?_,g0,(),by simp,?_];rw[qz];rfl;intro k' f' XC e;by_cases dc:k'<pl.length;rw[nN dc] at e;calc bB k' f' XC e;by_cases he:k'=pl.length;subst he;rw[sU (cD _),Nat.sub_self] at e;simp only[YM,Option.some.injEq,Prod.mk.injEq] at e;let(e1,e2):=e;subst e1 e2;calc#[gq hkl,n' / 03,(n' % 03).toNat,(),9];rw[Oh (by simp;lia)] at e;cases e;rintro ρ ⟨n,kv,pv,_,pl,rfl,rfl,p0,p1,hlen,bB⟩;calc hq pl bB () ()
end
def yq(ts:Φ)(q:qam):Prop:=E3 λ(ns:qan) (ys:ω) (pl:Plan)=>ts=[.lst (ns.map .int),.lst (ys.map .str),.lst (pl.map bV)]/\ns.length<=63/\Given ys pl/\1<=pl.length /\
 ∀rs,Pre ys pl pl.length rs->6<=60->q (.fr (.lst 50))
def vF(f:α->T)(ns:List α)(lo hi:Option Int):∃ms:List α,oV (ns.map f) lo hi=ms.map f/\ms.length<=ns.length:=by
 unfold oV;rw[bN,<- List.map_drop,<- List.map_take];show#[_,9,?_];rw[Om,UB]
 lia
def Jm(f:α->T)(ts:List α)(k:Nat)(h:k<=19):oV (ts.map f) (some (k:Int)) none=(ts.drop k).map f:=by unfold oV;rw[bN,HT.Li,HT.FR,Nat.min_eq_left h,<- List.map_drop,<- List.map_take,TJ (by rw[UB];lia)]
theorem ints_map:∀ms:qan,intsOf (ms.map T.int)\ms
 |[]=>rfl
 |m::ms=>by simp only[fj,intsOf,ints_map ms];rfl
section
abbrev d5:ω:=["_law_cells","_law_words_here","_law_plan_here","_law_rows","_law_k","_law_stack","_law_start","_law_stop","_law_share","_law_cell","_law_word"]
def ql:aI d5 qaM (aq mP):=L2.gL
def AV(D:Df K mg "_law_program" mP qaM f fd)(M:SW mg)(c1:cp P w K mg base "_law_operand" qaH 1 (cH K 2 g_))(c2:cp P w K mg base "_law_lay" qaK 04 (qR K [true,true,false,false,false] Yd)) :
  cp P w K mg base "_law_program" qaM 05 (cH K 03 yq):=by
 let(jD,iB,bW,bX,bY,bZ):=c1;let(aem,ad8,Yh,Yi,Yj,Yk):=c2;show D.gQ (jJ D.F ql 9 λbP A outer s H E Ox hr ts q hG=>?_);have nd:=ql.nd;have hu:=bA.dG hr;have np:∀{i:Nat},aZ #[H,[],Ox] i:=gR;have npf:∀{is:qao},∀i∈is,aZ #[H,[],Ox] i:=λi _=>gR;let(ns,ys,pl,rfl,hns,G,OZ,hq):=hG;show#[_,(ah (cN (i:=03) nd 9 7 (v9 (bD aj)) np)
   (ah (cg kr 9 (dw 18 M.range (ν (aU bf bh 18 M.len ny (aK (ae 2) aS)))) (ay (i:=04) nd 9 7 np)
     (ah (br (cR 03 ni nq aW aQ (aa (υ (aT (aa (υ ax) (aa (υ (ar (ν (ar (ae 2) (ae 04))) 14)) (aa (υ (ar (ν (ar (ae 2) (ae 04))) 14)) aj))))) aj)))
     (ah (cN (i:=05) nd 9 7 (v9 (bD aj)) np)
     (ah (aF (i:=06) nd 9 7 (v9 (bx (ν (fD (ae 04) (ν (aU bf bh 18 M.len ny (aK (ae 0) aS))))) (ν (aU bf bh 18 M.len ny (aK (ae 2) aS))))) np)
     (ah (aF (i:=07) nd 9 7 (v9 (bx (ν (fD (ν (cf (ae 04) 14)) (ν (aU bf bh 18 M.len ny (aK (ae 0) aS))))) (ν (aU bf bh 18 M.len ny (aK (ae 2) aS))))) np)
     (ah (aF (i:=08) nd 9 7 (v9 (gO (ae 0) (eX (ae 06)) (eX (ae 07)))) np)
     (ah (cg kr 9 (dq (ai 08)) (ay (i:=09) nd 9 7 np)
       (ak (bb (mX (ν (cf (ν (aU bf bh 18 M.len ny (aK (ae 03) aS))) (ν (aU bf bh 18 M.len ny (aK (ae 05) aS))))) (ν (oR 14 (ν (fD 14 (ν (oR (ν (oR (ν (aU bf bh 18 M.len ny (aK (ae 2) aS))) 14)) (ae 04))))))))
         (ak (br (xi Yk 23 18 Yh Yi Yj (nV 03 (nV 05 (kW (ai 09) (kW (ai 1) (kW (υ (gO (ae 2) (eX (ν (cf (ae 04) 14))) tQ)) BD))))))))
         aM)))
     (LS [05] (ah (cg kr 9 (dq (ai 05)) (ay (i:=10) nd 9 7 np)
       (ak (br (cR 03 ni nq aW aQ (aa (υ (aT (aa (υ ax) aj))) aj)))))
     (ah (br (cR 03 ni nq aW aQ (aa (υ (aT (aa (υ ax) (aa (υ (cC bZ 23 18 bW bX bY (aa (υ (bo (ν (aU (qO 9) DC 18 M.sum Wq (aK (ae 08) aS))) (ν (l9 14 14)))) (aa (ai 1) aj)))) aj)))) aj)))
     (ak (bb (VW.vc (c6 (bt hu (ν (bo (ae 04) 14)) 14) (cz (bt hu (ν (bo (ν (aU bf bh 18 M.len ny (aK (ae 08) aS))) 14)) 14))))
       (ak (br (cR 03 ni nq aW aQ (aa (υ (aT (aa (υ ax) aj))) aj))))
       aM)))) npf))))))))
   (ak (aL (gc 03 np))))),λ_=>?_]
 have hp3:=G.p3;have eT:((pl.map bV).length)=pl.length:=bN _;show#[gJ _,(),(),?_];show fG (λk ρ=>E9 λkv a5 a6 a7 a8 a9 a10 rt rs=>ρ=[aJ (.lst (ns.map .int)),aJ (.lst (ys.map .str)),aJ (.lst (pl.map bV)),some (.lst rt,true),kv,a5,a6,a7,a8,a9,a10]/\rt=rs.map aV/\Pre ys pl k rs/\6+03 * (pl.length-k)<=60)
  #[none,none,none,none,none,none,none,_,[],9,9,.zero,by simp;lia] ?_ ?_
 rintro k ρ hk ⟨kv,a5,a6,a7,a8,a9,a10,_,rs,rfl,rfl,l0,hlen⟩;rw[eT,kA] at hk;obtain⟨p,hp⟩:∃p:Str×ω,p=pl[k]:=#[_,9];let(fn,wx):=p;have hpk:pl[k]?\(fn,wx):=by rw[gq hk,hp]
 have et:iW (pl.map bV) (0+(k:Int))\bV (fn,wx):=by rw[Fq];show ag ?_;rw[dQ,hpk];rfl
 have hk3:k<03:=by lia
 have ad9:(rs.map aV).length<sizeLine:=by rw[bN];exact fits ()
 show#[_,et,_,aaL,_,et,_,aaM,bH 4,ad9,gJ _,.inl #[(),()],#[(),()],
  .inl #[(),()],#[(),()],?_]
 let(ms,Yl,hms):=vF T.int ns (some ((0+(k:Int)) * ((ns.map T.int).length:Int) / ((pl.map bV).length:Int))) (some ((0+(k:Int)+1) * ((ns.map T.int).length:Int) / ((pl.map bV).length:Int)));change iF (oV (ns.map T.int) (some ((0+(k:Int)) * ((ns.map T.int).length:Int) / ((pl.map bV).length:Int))) (some ((0+(k:Int)+1) * ((ns.map T.int).length:Int) / ((pl.map bV).length:Int)))) _ _ _ _;rw[Yl];show cF (λi ρ=>E8 λb6 b7 b9 om rt st body bS=>ρ=[aJ (.lst (ns.map .int)),aJ (.lst (ys.map .str)),aJ (.lst (pl.map bV)),some (.lst rt,true),aJ (.int (0+(k:Int))),some (.lst st,true),b6,b7,aJ (.lst (ms.map .int)),b9,om]/\rt=(rs++[Rw.df fn wx]++body).map aV/\st=bS.map .str/\Body ys (pl.drop (k+1)) bS body/\6+1+body.length+bS.length+03 * (pl.length-1-k)<=58)
  #[_,_,_,_,_,_,[],[],9,by simp;rfl,9,.nil,by simp;lia] ?_ ?_
 rintro i z ρ hi ⟨b6,b7,b9,om,_,_,body,bS,rfl,rfl,rfl,hB,hb⟩;show#[.inl #[by decide,by decide],cO (λh=>?_) (λ_=>#[b6,b7,_,om,_,_,body,bS,9,9,9,hB,hb])];have hg:=h;have aea:oV (pl.map bV) (some (0+(k:Int)+1)) none=(pl.drop (k+1)).map bV:=by
  have:(0+(k:Int)+1)=((k+1:Nat):Int):=by lia
  rw[this];exact Jm bV pl (k+1) hk
 have Jn:(rs++[Rw.df fn wx]++body).length=6+1+body.length:=by simp only[kq,YQ]
 rw[bN,bN,eT,Jn] at hg;show#[rs++[Rw.df fn wx]++body,bS,z,ys,pl.drop (k+1),?_,#[G.y6,G.sm,by rw[UB];lia,λp hp=>G.p4 p (YS hp)],by rw[Jn];lia,(),λnw du Ym=>?_];rw[<- aea];rfl;have hlr:=L_ Ym;show#[b6,b7,_,om,_,_,body++nw,du,9,?_,9,.step hB Ym,by rw[kq];lia];rw[wo];rintro ρ ⟨b6,b7,b9,om,_,_,body,bS,rfl,rfl,rfl,hB,hb⟩;have Jn:(rs++[Rw.df fn wx]++body).length=6+1+body.length:=by simp only[kq,YQ]
 show cF (f:=T.str) (xs:=bS) (λi ρ=>E2 λom rt=>ρ=[aJ (.lst (ns.map .int)),aJ (.lst (ys.map .str)),aJ (.lst (pl.map bV)),some (.lst rt,true),aJ (.int (0+(k:Int))),aJ (.lst (bS.map .str)),b6,b7,aJ (.lst (ms.map .int)),b9,om]/\rt=(rs++[Rw.df fn wx]++body++List.replicate i Rw.fin).map aV)
  #[om,_,9,by simp] ?_ ?_
 rintro i x ρ hi ⟨c10,_,rfl,rfl⟩;have Zj:i<bS.length:=(dA.mp hi).1;show#[bH 4,by rw[bN,kq,Jn,P5];calc fits (),_,_,9,?_];rw[List.replicate_succ',<- wo,qz (l₂:=[Rw.fin])];rfl;rintro ρ ⟨c10,_,rfl,rfl⟩;have aeb:(rs++[Rw.df fn wx]++body++List.replicate bS.length Rw.fin).length=6+1+body.length+bS.length:=by rw[kq,Jn,P5]
 have v0:0<=ms.sum % 10 ^ (06:Int).toNat:=by rw[WH];exact rq _ 5
 have v1:ms.sum % 10 ^ (06:Int).toNat<2147483648:=by rw[WH];have:=y0 ms.sum (show (0:Int)<1000000 by decide);lia
 show#[ms,ints_map ms,#[by decide,by decide,by decide],5,9,_,ys,9,G.y6,v0,v1,λo ho=>#[bH 4,by rw[bN,aeb];calc fits (),(by change (0:Int)<2;decide),?_]];have fin:∀sk:qal,(sk=[]\/sk=[Rw.skip])->Pre ys pl (k+1) (rs++(Rw.df fn wx::(body++(List.replicate bS.length Rw.fin++(Rw.give o::sk)))))/\(rs++(Rw.df fn wx::(body++(List.replicate bS.length Rw.fin++(Rw.give o::sk))))).length+03 * (pl.length-(k+1))<=60:=λsk ZA=>by
  show#[.succ l0 hpk hB ho ZA,?_];have:sk.length<=1:=by obtain rfl|rfl:=ZA<;>simp
  simp only[kq,wq,P5]
  lia
 have e0:(rs++[Rw.df fn wx]++body++List.replicate bS.length Rw.fin).map aV++[aV (Rw.give o)]=(rs++(Rw.df fn wx::(body++(List.replicate bS.length Rw.fin++(Rw.give o::[]))))).map aV:=by simp[wo]
 have e1:(rs++[Rw.df fn wx]++body++List.replicate bS.length Rw.fin).map aV++[aV (Rw.give o)]++[aV Rw.skip]=(rs++(Rw.df fn wx::(body++(List.replicate bS.length Rw.fin++(Rw.give o::[Rw.skip]))))).map aV:=by simp[wo]
 show cO (λ_=>?_) (λ_=>i7 9 #[_,_,_,_,_,_,_,_,_,9,e0,fin [] 7]);show#[(by change (0:Int)<2;decide),cO (λ_=>?_) (λ_=>#[_,_,_,_,_,_,_,_,_,9,e0,fin [] 7])];show#[bH 4,?_,#[_,_,_,_,_,_,_,_,_,9,e1,fin [.skip] (.inr 9)]];calc fits (by simp;lia);rintro ρ ⟨kv,a5,a6,a7,a8,a9,a10,_,rs,rfl,rfl,l0,hlen⟩;rw[eT,kA] at l0;calc hq rs l0 ()
end
end eQ
namespace VT
open PySem PySem.Spec PyProof.Rows L2
section
variable{g:kz}{pos:Pos}
def S_(c:FB)(g:kz):kz:=λd ρ s=>∃W:Nat->En->S2->Prop,(∃m,W m ρ s)/\∀m ρ s,W m ρ s->c ρ λb=>if b=true then g {nx:=λρ' s'=>∃m',m'<m/\W m' ρ' s',ct:=λρ' s'=>∃m',m'<m/\W m' ρ' s',bk:=d.nx,rt:=d.rt} ρ s else d.nx ρ s
theorem Jo(hp:PassesOwn 16 X.A 3 X.xe)(hc:∀H0 Ox,VC X #[H0,[],Ox] c fc)(hb:Fe X M body g):GS X M (.While c body [] pos) (S_ fc g):=.mk λtm ε s' σ H D J #[ρ,s,d,S,hg,F]=>by
 let(W,(m0,w0),step):=hg;show oC (tc:=λσ H Q=>∃H0,lB X #[H0,[],M.Ox] tm fc σ H Q) hp (λε s σ H Q I #[H0,z]=>hc H0 M.Ox tm ε s σ H Q I z) (hb.h tm) ε s' σ H D J #[λm σ H=>E2 λρ s=>SG X.K M tm ρ s σ H/\W m ρ s,#[m0,ρ,s,S,w0],?_];rintro m σ1 H1 ⟨ρ1,s1,S1,w1⟩;let(O,hr,I):=S1.env;show#[H1,ρ1,O,_,I,step m ρ1 s1 w1,λb hb H2 sm=>?_];cases b with
 |true=>calc#[λσ' H'=>∃m',m'<m/\E2 λρ s=>SG X.K M tm ρ s σ' H'/\W m' ρ s,λσ' H' z=>z,ρ1,s1,_,S1.d7 sm,hb,#[λρ s σ H I #[m',hm,p]=>#[m',hm,ρ,s,I,p],F.rt,F.nx,λρ s σ H I #[m',hm,p]=>#[m',hm,ρ,s,I,p]]]
 |false=>calc F.nx ρ1 s1 σ1 H2 (S1.d7 sm) hb
end
def apart2(a b:Nat):a+b+1≠a/\a+b+1≠b:=by lia
def g2D(G:T->S2->(S2->Prop)->Prop):GT:=λts q=>E5 λk1 t1 k2 t2 l=>ts=[.dt k1 t1,.dt k2 t2,l]/\G l #[k1,t1,k2,t2] λs'=>jH s'.t1=true/\jH s'.t2=true/\q [.dt s'.k1 s'.t1,.dt s'.k2 s'.t2] (.vw .bO)
section
def aec{st:Stmt}{N:ω}{k:Nat}{G:T->S2->(S2->Prop)->Prop}(F:Dr K x qual st f fd)(S:aI N ps (aq st))(hn:03=ps.length)(hN:03<=N.length)(fA:∀(bP:Value) (A:Around) (outer:List Env) (s:Shared) (H:Hp) (E:XK) (M:MG),M.hb=false->bA k (A.deeper (envOfC qual (aq st) 8 f bP))->∀l s0 q,G l s0 q ->
    ∃g,Fe (j_ iP P w K mg base N qual (aq st) f bP A outer s H E).C4 M (cn st) g/\g {nx:=λ_ s=>q s,rt:=λ_ _=>False} (some (.ob M.a1,false)::some (.ob M.a2,false)::some (l,false)::List.replicate (N.length-03) none) s0) :
  dz P w K mg base iP (k+1) f fd ps (qR K [true,true,false] (g2D G)):=by
 show F.ok S (λvs H Q E h=>?_) (λbP A outer s H vs Q E hr h=>?_);let(ts,as,Ox,q,_,_,_,ha,_):=h;rw[<- hn];calc (gP ha).2.1;let(ts,as,Ox,q,nd,nx,ox,ha,(k1,t1,k2,t2,l,rfl,hG),kk):=h;let(a1,as1,_,_,_,rfl,e1,rfl,r1,a2,as2,_,_,_,rfl,e2,rfl,r2,_,_,v,_,e3,rfl,av,rfl,rfl,rfl):=ha;cases e1;cases e2;cases e3;have ne:a1≠a2:=λz=>by rw[z] at nd;simp at nd
 let M:MG:=#[a1+a2+1,0,a1,a2,0,H,(apart2 a1 a2).1,(apart2 a1 a2).2,ne,false]
 let(g,hg,hq):=fA bP A outer s H E M 9 hr l _ _ hG;have sub:∀b∈M.Ox,b∈[a1,a2]++Ox:=λb hb=>fW _ hb;let(kn,l1,h1,q1):=r1;let(jl,l2,h2,q2):=r2;have sd:SD K M #[k1,t1,k2,t2] H:=#[λz=>(nomatch z),#[kn,l1,h1,q1.bq sub],#[jl,l2,h2,q2.bq sub],λb o e _=>e];show#[_,hg.h [],_,_,_,#[#[List.replicate N.length none,fK _,?_],sd],hq,#[λρ s' σ' H' S' z=>?_,λ_ _ _ _ _ _ z=>z.elim,λ_ _ _ _ _ z=>z.elim,λ_ _ _ _ _ z=>z.elim]];calc mn (ts:=[.ob a1,.ob a2,l]) (by simpa using hN) (λb hb=>by let(u,e,_):=sd.here b hb;rw[e];simp) (aB.cons (by simp only[At]) (aB.cons (by simp only[At]) (aB.cons (av.bq sub) aB.nil)));let(i1,i2,wu):=z;let(us1,m1,b1,c1):=S'.sd.d1;let(us2,m2,b2,c2):=S'.sd.d2;calc kk _ _ wu .bO H' (λb o e n=>S'.sd.fr b o e n) #[tO,.cons #[us1,m1,b1,aB.qB i1 c1] (.cons #[us2,m2,b2,aB.qB i2 c2] .nil)]
end
section
def Cy(I:Inv X ε σ H s)(ha:H a\.dT aY):∃o,Inv X ε σ (upd H a (.f7 o (.dT aY))) s:=by
 let(z,y,xs,r,o,es,ep,h1,h2,h3,h4,h5):=(show bL 34 X.w H 42 a (.dT aY) from I.bB a _ ha);have new:bL 34 X.w (upd H a (.f7 o (.dT aY))) 42 a (.f7 o (.dT aY)):=by show#[h1,z,y,xs,Paired.kD r λp q #[e1,e2,e3]=>#[e1,?_,e3],o,es,ep,h1,h2,h3,h4,h5];rw[au];calc e2;intro e;rw[e,ha] at e2;cases e2
 calc#[o,I.write (by rw[ha];trivial) 7 (λb u _ q=>q) #[o,h1] new]
def yr(I:Inv X ε σ H s)(ha:H a\.f7 o (.dT aY))(hz:∀o u,X.H₀ a≠some (.f7 o u)):Inv X ε σ (upd H a (.dT aY)) s:=by
 have nn:∀b,H b=none->b≠a:=λb n e=>by rw[e,ha] at n;cases n
 have nt:∀b xs,H b\.tup xs->b≠a:=λb xs q e=>by rw[e,ha] at q;cases q
 have no:∀b x,H b\.own x->b≠a:=λb xs q e=>by rw[e,ha] at q;cases q
 show#[I.ok,I.os,I.bare,#[I.base.keep,I.base.slot,λb ob q n hx=>?_,I.base.there,λb xs q=>?_,λb ob u q=>?_,λb ps q=>?_],I.loc,I.cell,?_,λx c q=>?_,λp hp=>?_,λb u q=>?_,I.len];have:=I.base.free b ob q n hx;rw[au (nn b this)];calc this;have:=I.base.sX b xs q;rw[au (nt b xs this)];calc this;have:=I.base.ow b ob u q;rw[au (λe=>hz ob u (by rw[<- e];calc q))];calc this;let(m,e):=I.base.sY b ps q;calc#[m,by rw[au (λz=>by rw[z,ha] at e;cases e)];calc e];rw[au (nn _ I.free)];calc I.free;rw[au (nn _ (I.gK x c q))];calc I.gK x c q;let(h1,h2,h3):=I.pin p hp;calc#[h1,by rw[au (nn _ h2)];calc h2,h3];by_cases hb:b=a;subst hb;rw[aA] at q;cases q;let(_,z,y,xs,r,w):=(show bL 34 X.w H 42 b (.f7 o (.dT aY)) from I.bB b _ ha);calc#[z,y,xs,Paired.kD r λp q #[e1,e2,e3]=>#[e1,by rw[au (nt _ _ e2)];calc e2,e3],w];rw[au hb] at q;calc (I.bB b u q).wD (λc v _ r=>r) (λc r=>by rw[au (no c b r)];calc r) λc xs r=>by rw[au (nt c xs r)];calc r
def sO(I:Inv X ε σ H s)(ha:H a\.dT aY):∀o u,X.H₀ a≠some (.f7 o u):=λo u q=>by have:=I.base.ow a o u q;rw[ha] at this;cases this
def Jp(t:TE):TE:=λσ H Q=>E4 λa1 NG a2 NH=>a1≠a2/\H a1\.dT NG/\H a2\.dT NH/\∀o1 o2,t σ (upd (upd H a1 (.f7 o1 (.dT NG))) a2 (.f7 o2 (.dT NH))) λv H'=>H' a1\.f7 o1 (.dT NG)/\H' a2\.f7 o2 (.dT NH)/\Q v (upd (upd H' a1 (.dT NG)) a2 (.dT NH))
def NI{t:TE}(h:PE X e t):PE X e (Jp t):=by intro ε s σ H Q I hq;let(a1,NG,a2,NH,ne,h1,h2,k):=hq;have z1:=sO I h1;have z2:=sO I h2;let(o1,I1):=Cy I h1;let(o2,I2):=Cy I1 (by rw[au (Ne.symm ne)];calc h2);show cy (h ε s σ _ _ I2 (k o1 o2)) λv s1 #[x,H1,I3,r1,e1,e2,q]=>#[x,_,yr (yr I3 e1 z1) (by rw[au (Ne.symm ne)];calc e2) z2,r1,q]
end
section
variable{tm:qab}{s:S2}
def wz(M:MG)(o1 o2:Obj)(s:S2):Option (T×Bool)->Option (T×Bool)
 |some (.ob x,false)=>if x=M.a1 then some (.df o1 s.k1 s.t1,false) else if x=M.a2 then some (.df o2 s.k2 s.t2,false) else some (.ob x,false)
 |e=>e
def Jq(M:MG)(o1 o2:Obj)(s:S2):wz M o1 o2 s (some (.ob M.a1,false))\(.df o1 s.k1 s.t1,false):=by change (if M.a1=M.a1 then _ else _)=_;rw[ι 9]
def Jr(M:MG)(o1 o2:Obj)(s:S2):wz M o1 o2 s (some (.ob M.a2,false))\(.df o2 s.k2 s.t2,false):=by change (if M.a2=M.a1 then _ else _)=_;rw[θ (Ne.symm M.n3),ι 9]
def mQ(M:MG)(H:Hp)(o1 o2:Obj)(NG NH:List (List Key×V)):Hp:=upd (upd H M.a1 (.f7 o1 (.dT NG))) M.a2 (.f7 o2 (.dT NH))
def Ta{o1 o2:Obj}{NG NH:List (List Key×V)}{b:Addr}(h:b∉M.Ox):mQ M H o1 o2 NG NH b=H b:=by unfold mQ;rw[au (λz=>h (by rw[z];calc M.m2)),au (λz=>h (by rw[z];calc M.m1))]
def SG.wz(g:SG K M tm ρ s σ H){kn jl:qak}(l1:s.k1.length=kn.length)(e1:H M.a1\.dT (s.k1.zip kn))(q1:aB K H M.Ox s.t1 kn)(l2:s.k2.length=jl.length)(e2:H M.a2\.dT (s.k2.zip jl))(q2:aB K H M.Ox s.t2 jl)(o1 o2:Obj) :
  ∃O,roots O=[]/\az K #[mQ M H o1 o2 (s.k1.zip kn) (s.k2.zip jl),[],[]] tm O (ρ.map (VT.wz M o1 o2 s)) σ (mQ M H o1 o2 (s.k1.zip kn) (s.k2.zip jl)):=by
 let(O,hr,I):=g.env;have mv:∀{t:T}{v:V},At K H M.Ox t v->At K (mQ M H o1 o2 (s.k1.zip kn) (s.k2.zip jl)) [] t v:=λq=>(At.frame g.sd.here (λb o e n=>by rw[Ta n];calc e) q).bq λb hb=>nomatch hb;have jC:∀{ts:Φ}{vs:qak},aB K H M.Ox ts vs->aB K (mQ M H o1 o2 (s.k1.zip kn) (s.k2.zip jl)) [] ts vs:=λ{ts}=>by
  induction ts with
  |nil=>intro vs q;simp only[aB] at q ⊢;calc q
  |cons t ts ih=>intro vs q;let(v,r,rfl,h1,h2):=q;exact aB.cons (mv h1) (ih h2)
 have d1:At K (mQ M H o1 o2 (s.k1.zip kn) (s.k2.zip jl)) [] (.df o1 s.k1 s.t1) (.ref M.a1):=#[M.a1,kn,9,l1,#[by unfold mQ;rw[au M.n3,aA],λz=>nomatch z],jC q1];have d2:At K (mQ M H o1 o2 (s.k1.zip kn) (s.k2.zip jl)) [] (.df o2 s.k2 s.t2) (.ref M.a2):=#[M.a2,jl,9,l2,#[by unfold mQ;rw[aA],λz=>nomatch z],jC q2];show#[O,hr,#[by rw[bN];calc I.lσ,by rw[bN];calc I.lO,λi e he=>?_,I.nd,λa ha=>(by rw[hr] at ha;calc absurd ha eh),λp hp=>absurd hp eh,λa ha=>absurd ha eh,λb o e _=>e,λp hp=>?_]];have e0:av #[mQ M H o1 o2 (s.k1.zip kn) (s.k2.zip jl),[],[]] O=[]:=eI hr;rw[dQ] at he;let(F6,q,rfl):=KG.mp he;let(o,sv,h1,h2,h3):=I.sl i F6 q;show#[o,sv,h1,h2,?_];rw[e0];rw[eI hr] at h3;have plain:=h3.map (λt v z=>mv z) λa t eo _=>by subst eo;have:=aC.mpr (dX h1);rw[hr] at this;exact nomatch this
 by_cases c:∃x,F6\(.ob x,false);let(x,rfl):=c;let(eo,v,es,av'):=h3;subst av';change iY K _ [] (if x=M.a1 then _ else _) o sv;by_cases c1:x=M.a1;rw[ι c1];subst c1;calc#[eo,_,es,d1];rw[θ c1];by_cases c2:x=M.a2;rw[ι c2];subst c2;calc#[eo,_,es,d2];rw[θ c2];calc plain;have:VT.wz M o1 o2 s F6=F6:=by
  unfold VT.wz;split
  rename_i x
  calc absurd #[x,9] c;rfl
 rw[this];calc plain;rw[eI hr];have:=I.ku p hp;rw[eI hr] at this;calc mv this
def SG.aed{o1 o2:Obj}{kn jl:qak}(g:SG K M tm ρ s σ H)(l1:s.k1.length=kn.length)(e1:H M.a1\.dT (s.k1.zip kn))(q1:aB K H M.Ox s.t1 kn)(l2:s.k2.length=jl.length)(e2:H M.a2\.dT (s.k2.zip jl))(q2:aB K H M.Ox s.t2 jl)(sm:aO (mQ M H o1 o2 (s.k1.zip kn) (s.k2.zip jl)) H') :
  aO H (upd (upd H' M.a1 (.dT (s.k1.zip kn))) M.a2 (.dT (s.k2.zip jl))):=λb o e=>by
 by_cases c2:b=M.a2;rw[c2] at e ⊢;rw[e2] at e;cases e;rw[aA];rw[au c2];by_cases c1:b=M.a1;rw[c1] at e ⊢;rw[e1] at e;cases e;rw[aA];rw[au c1];show sm b o ?_;unfold mQ;rw[au c2,au c1];calc e
end
section
variable{g:kz}{pos:Pos}
def Js{tm:qab}{f:FE}(he:∀H0 Ox,VE X #[H0,[],Ox] e f):PE X e (Jp λσ H Q=>∃H0,lE X #[H0,[],[]] tm f σ H Q):=NI λε s σ H Q I #[H0,z]=>he H0 [] tm ε s σ H Q I z
def Jt{tm:qab}{f:FE}{s:S2}{Q:VK}{q:T->Prop}(S:SG X.K M tm ρ s σ H)(hf:∀o1 o2,f (ρ.map (wz M o1 o2 s)) q)(k:∀t v H',q t->(∀b,b∈[M.a1,M.a2]->∃o u,H' b\.f7 o (.dT u))->At X.K H' [] t v->∀H'',aO H H''->(∀b,b≠M.a1->b≠M.a2->H'' b=H' b)->Q v H''):Jp (λσ H Q=>∃H0,lE X #[H0,[],[]] tm f σ H Q) σ H Q:=by
 let(kn,l1,e1,q1):=S.sd.d1;let(jl,l2,e2,q2):=S.sd.d2;show#[M.a1,_,M.a2,_,M.n3,e1,e2,λo1 o2=>?_];let(O,hr,I):=S.wz l1 e1 q1 l2 e2 q2 o1 o2;show#[_,_,O,_,I,hf o1 o2,λt ht v H' sm a=>?_];have f1:=sm _ _ (by rw[au M.n3,aA]);have f2:=sm _ _ (by rw[aA]);rw[eI hr] at a;show#[f1,f2,k t v H' ht (λb hb=>?_) a _ (S.aed l1 e1 q1 l2 e2 q2 sm) λb n1 n2=>by rw[au n2,au n1]];simp only[cT,eh,Ψ] at hb;obtain rfl|rfl:=hb
 calc#[_,_,f1];calc#[_,_,f2]
def PU(M:MG)(n m:Nat)(f:FE):kz:=λd ρ s=>∀o1 o2,f (ρ.map (wz M o1 o2 s)) λt=>lr t/\s.t1.length<16777216/\s.t2.length<16777216/\∃k,ρ[m]?\some (.kt k,false)/\((ρ[n]?\some (.ob M.a1,false)/\d.nx ρ (s.Aj k t))\/(ρ[n]?\some (.ob M.a2,false)/\d.nx ρ (s.put2 k t)))
def NJ(n m:Nat){f:FE}(hu:X.A.units+1<cLine)(he:∀H0 Ox,VE X #[H0,[],Ox] e f)(hN:X.N[n]?\x:=by rfl)(hv:lN 29 x:=by calc jvv 9)(hd:fY x:=by decide)(f9:qy x:=by decide)(Pm:X.N[m]?\y:=by rfl)(Pn:lN 29 y:=by calc jvv 9)(hd2:fY y:=by decide)(qY:qy y:=by decide)(hs:swapsWith e (some (.Subscript 51 (.Name y p2) dj)) pos.line 3=pure false:=by rfl):GS X M (.Assign [.Subscript 51 (.Name y p2) dj] e pos) (PU M n m f):=.mk λtm ε s' σ H D J #[ρ,s,d,S,hg,F]=>by show k8 hu (cc hN hv hd f9) (cc Pm Pn hd2 qY) (Js he) hs ε s' σ H D J (Jt S hg λt v H1 ht _ a H2 sm _=>?_);obtain⟨Kx,h1,h2,k,hk,⟨hn,hq⟩|⟨hn,hq⟩⟩:=ht;calc r_ (S.d7 sm) F Kx a hn h1 hk hq;calc sA (S.d7 sm) F Kx a hn h2 hk hq
theorem Ju{K:qaf}{H H':Hp}{A:zm}(h:∀b xs,H b\.tup xs->H' b\.tup xs/\b∉A):∀{ks:List (List Key)}{vs:qak},aB K H [] (ks.map T.kt) vs->aB K H' A (ks.map T.kt) vs
 |[],vs,a=>by simp only[P_,aB] at a ⊢;calc a
 |k::ks,vs,a=>by let(v,r,rfl,h1,h2):=a;show aB.cons ?_ (Ju h h2);let(b,rfl,hb):=h1;calc#[b,9,(h b _ hb.1).1,λz=>nomatch z]
def PV(M:MG)(f:FE)(h:FG)(g:kz):kz:=λd ρ s=>∀o1 o2,f (ρ.map (wz M o1 o2 s)) λt=>∃ks:List (List Key),t=.lst (ks.map .kt)/\B8 (ks.map .kt) h g d ρ s
def NL{tg:Expr}{f:FE}{h:FG}(hB:M.hb=false)(hp:PassesOwn 16 X.A 3 X.xe)(hc:X.calm=true)(hi:∀H0 Ox,VE X #[H0,[],Ox] iter f)(hg:∀H0 Ox,VG X #[H0,[],Ox] tg is h)(hb:Fe X M body g)(hs:∀x,foldedSetIterable iter 3 x=pure x:=by intro _;rfl):GS X M (.For tg iter body [] pos) (PV M f h g):=by
 show .mk λtm ε s' σ H D J #[ρ,s,d,S,hq,F]=>?_;have eO:M.Ox=[M.a1,M.a2]:=by unfold MG.Ox;rw[hB];rfl
 show tq (g:=λv σ H Q=>∃bj H0,lG X #[H0,[],M.Ox] (bj++tm) is h v σ H Q) (tb:=λD σ H=>∃bj,Ub X M (bj++tm) g D σ H) hp hc (zJ (Js (tm:=tm) hi)) (λε s σ H v u Q I r #[bj,H0,z]=>hg H0 M.Ox (bj++tm) ε s σ H v u Q I r z) (λε s σ H D I #[bj,z]=>hb.h (bj++tm) ε s σ H D I z) hs ε s' σ H D J ?_;unfold U1 Wb;show Jt S hq λt v H' ht fz a H2 sm old=>?_;let(ks,rfl,hl):=ht;let(l,vs,rfl,ZH,hv):=a;have Qf:∀b xs,H' b\.tup xs->H2 b\.tup xs/\b∉M.Ox:=λb xs q=>by
  have n:b∉M.Ox:=λz=>by rw[eO] at z;let(o,u,e):=fz b z;rw[q] at e;cases e
  show#[?_,n];rw[old b (λz=>n (by rw[z];calc M.m1)) (λz=>n (by rw[z];calc M.m2))];exact q
 have ls:oO X.K H2 M.Ox l vs:=by
  obtain z|z:=ZH
  have n:l∉M.Ox:=λm=>by
   rw[eO] at m;let(o,u,e):=fz l m;obtain q|⟨o',q⟩:=z.1
   rw[e] at q;cases q;rw[e] at q;cases q
  show .inl #[?_,n];have eo:=old l (λz=>n (by rw[z];calc M.m1)) (λz=>n (by rw[z];calc M.m2));calc z.1.elim (λq=>.inl (by rw[eo];calc q)) λ#[o',q]=>.inr #[o',by rw[eo];calc q];exact .inr z
 have at':At X.K H2 M.Ox (.lst (ks.map .kt)) (.ref l):=#[l,vs,9,ls,Ju Qf hv];calc .inl #[l,9,#[vs,ls.sq],my 9 ((S.d7 sm).temps λp hp=>by rw[f6.mp hp];calc at') tS F hl]
end
end VT
namespace cj
open PySem L2 VT Gen K5 Lay BS x8 MK
open PySem.Builtin (bitOr)
def top(i:Nat):Stmt:=PySem.Challenge.pw_slicewise_k25_the_least_closed_table.main.body.getD i (.Pass #[0,0,0,0])
abbrev vG:Stmt:=top 38
abbrev vH:Stmt:=top 039
abbrev iC:Stmt:=top 040
abbrev vI:Stmt:=top 041
abbrev Jv:Stmt:=top 042
abbrev vJ:Stmt:=top 43
abbrev vK:Stmt:=top 44
abbrev mR:Stmt:=top 45
abbrev vL:Stmt:=top 46
abbrev ko:Stmt:=top 47
abbrev vM:Stmt:=top 048
abbrev vN:Stmt:=top 49
abbrev lH:Stmt:=top 050
structure EC(mg:qae):Prop where
 isinstance:mg "isinstance"=none
 str:mg "str"=none
 int:mg "int"=none
 range:mg "range"=none
 enumerate:mg "enumerate"=none
 sorted:mg "sorted"=none
 list:mg "list"=none
 zip:mg "zip"=none
 len:mg "len"=none
 bool:mg "bool"=none
 tuple:mg "tuple"=none
def bH(h:n<=1000):n<=sizeLine:=Gen.small h
def jo:bootBuiltins "sorted"\.builtin "sorted":=by decide +kernel
def Tc:Pl->T
 |.nm h x=>.tup [.str "name",.int (h:Int),.str x,.str ""]
 |.cl h x c=>.tup [.str "cells",.int (h:Int),.str x,.str c]
 |.rw i=>.tup [.str "row",.int (i:Int),.str "",.str ""]
 |.zr=>.bO
def j6(m:Mv):T:=.tup [Tc m.1,Tc m.2]
def Td:Pl->Prop
 |.rw i=>i<=1000
 |.zr=>False
 |_=>True
def mH(ts:Φ)(q:qam):Prop:=∃k:Ky,ts=[nY k]/\X' k/\q (.vw (.str (ly k)))
def AW(ts:Φ)(q:qam):Prop:=∃rs:qal,ts=[.lst 50]/\Bl rs/\6<=100/\q (.fr (.lst (iK rs)))
def Jw(ts:Φ)(q:qam):Prop:=E8 λ(rs:qal) (x g:Str) (as:List kx) (h s:Nat) (ps:ω) (o:kx)=>ts=[.lst 50,.int (h:Int),aV (.call x g as)]/\Bl rs/\as.length<=04/\fnOf rs g\(s,ps,o)/\q (.fr (.lst (((ps.zip as).flatMap (λz=>pW (.nm s z.1) h z.2)++pW (.nm h x) s o).map j6)))
def Jx(ts:Φ)(q:qam):Prop:=∃rs:qal,ts=[.lst 50]/\Pg rs/\q (.fr (.lst ((jm rs 6).map j6)))
def yt(rs:qal)(k:Nat):Φ:=(List.range k).map λi=>oT (gG 22 i)
def mS(rs:qal)(k:Nat):yt rs (k+1)=yt rs k++[oT (gG 22 k)]:=by unfold yt;rw[UE,qz];rfl
section
abbrev NM:ω:=qaN
def yu:aI NM qaN (aq vH):=L2.gL
def Jy(D:Df K mg "_law_class" vH qaN f fd)(M:EC mg):cp P w K mg base "_law_class" qaN 1 (cH K 1 mH):=by
 show D.gQ (jJ D.F yu 9 λbP A outer s H E Ox hr ts q hG=>?_);have nd:=yu.nd;show#[_,(ah (bb (VW.vc (c6 (dY (gh eG 18 M.isinstance 18 M.str mZ (ae 0))) (cz (dY (mq (ae 0) (ν ax))))))
    (ak (aL (v9 (VE.vp (ai 0)))))
    aM)
   (ak (aL (v9 ax)))),λ_=>?_]
 let(k,rfl,hk,hq):=hG;cases k with
 |fld x=>rw[NA hk] at hq;calc#[9,uc 9 (uc (nQ.oN x) hq)]
 |op o=>
   cases o with
   |nm y=>rw[SU hk] at hq;calc#[9,uc 9 (i7 (nQ.gu (nQ.eW hk)) hq)]
   |nu i=>calc#[9,hq]
abbrev jy:ω:=["_law_program_here","_law_homes_here","_law_here","_law_k","_law_row"]
def yw:aI jy qaO (aq vG):=L2.gL
def Jz(D:Df K mg "_law_homes" vG qaO f fd)(M:EC mg):cp P w K mg base "_law_homes" qaO 1 (cH K 1 AW):=by
 show D.gQ (jJ D.F yw 9 λbP A outer s H E Ox hr ts q hG=>?_);have nd:=yw.nd;have hu:=bA.dG hr;have np:∀{i:Nat},aZ #[H,[],Ox] i:=gR;show#[_,(ah (cN (i:=1) nd 9 7 (v9 (bD aj)) np)
  (ah (aF (i:=2) nd 9 7 (v9 iZ) np)
  (ah (cg kr 9 (ie 18 M.enumerate (ai 0)) (cX (n:=2) 9 (aH (ay (i:=03) nd 9 7 np) (aH (ay (i:=04) nd 9 7 np) b_)))
   (ah (bb (bt hu (ν 35) (ν ax))
    (ak (aF (i:=2) nd 9 7 (v9 (VE.vp (ai 03))) np))
    aM)
   (ah (br (cR 1 ni nq aW aQ (aa (ai 2) aj)))
   (ak (bb (bt hu (ν 35) (ν ax))
    (ak (aF (i:=2) nd 9 7 (v9 iZ) np))
    aM)))))
  (ak (aL (gc 1 np)))))),λ_=>?_]
 let(rs,rfl,B,hn,hq):=hG;show#[gJ _,?_];show jt (λk ρ=>E4 λb3 b4 hs hv=>ρ=[aJ (.lst 50),some (.lst hs,true),aJ hv,b3,b4]/\hs=yt rs k/\hv=oT (st 22 k).head?) #[none,none,_,_,9,9,9] ?_ ?_;rintro k r ρ cw ⟨b3,b4,_,_,rfl,rfl,rfl⟩;have hk:=(dA.mp cw).1;have hh:=B.head cw;have hlen:(yt rs k).length=k:=by simp[yt]
 let(l,el):=Me r;have room:(yt rs k).length<sizeLine:=by rw[hlen,π];lia
 have OC:wd r="def"->gG 22 k\k:=λh=>by let(f,ps,rfl):=Iz h;unfold gG;rw[c_ cw];rfl
 have Ku:wd r≠"def"->gG 22 k=(st 22 k).head?:=λh=>by unfold gG;rw[c_ cw];cases r<;>first|rfl|exact absurd 9 h
 have hsz:(yt rs k).length<sizeLine:=room;rw[el];show#[9,9,_,aaL,cO (λh=>?_) (λh=>?_)];have h':wd r="def":=h;show#[hsz,_,aaL,cO (λh2=>?_) (λh2=>?_)];have qS:wd r="give":=h2;rw[h'] at qS;calc absurd qS 17;have qS:¬ wd r="give":=h2;rw[θ qS,OC h'] at hh;show#[_,_,_,_,9,?_,?_];rw[mS,OC h'];rfl;rw[hh];rfl;have h':¬ wd r="def":=h;show#[hsz,_,aaL,cO (λh2=>?_) (λh2=>?_)];have qS:wd r="give":=h2;rw[ι qS] at hh;show#[_,_,_,_,9,?_,?_];rw[mS,Ku h'];rw[hh];rfl;have qS:¬ wd r="give":=h2;rw[θ qS,Ku h'] at hh;show#[_,_,_,_,9,?_,?_];rw[mS,Ku h'];rw[hh];rintro ρ ⟨b3,b4,_,_,rfl,rfl,rfl⟩;calc hq
abbrev vO:ω:=["_law_program_here","_law_home","_law_row","_law_there","_law_last","_law_moves_here","_law_name","_law_operand_here"]
def j7:aI vO qaP (aq iC):=L2.gL
def rh(D:Df K mg "_law_call_moves" iC qaP f fd)(M:EC mg):cp P w K mg base "_law_call_moves" qaP 1 (cH K 03 Jw):=by
 show D.gQ (jJ D.F j7 9 λbP A outer s H E Ox hr ts q hG=>?_);have nd:=j7.nd;have hu:=bA.dG hr;have np:∀{i:Nat},aZ #[H,[],Ox] i:=gR;show#[_,(ah (aF (i:=03) nd 9 7 (v9 af) np)
  (ah (xa kr (VW.vc (Gf (i4 hu (ν (ar (ν (ar (ae 0) (ae 03))) 14)) (ν ax)) (zF (i4 hu (ν (ar (ν (ar (ae 0) (ae 03))) 14)) (ν (ar (ae 2) 14))))))
   (ak (aF (i:=03) nd 9 7 (v9 (cf (ae 03) 14)) np)))
  (ah (aF (i:=04) nd 9 7 (v9 (VE.vp (ai 03))) np)
  (ah (xa kr (i4 hu (ν (ar (ν (ar (ae 0) (ae 04))) 14)) (ν ax))
   (ak (aF (i:=04) nd 9 7 (v9 (cf (ae 04) 14)) np)))
  (ah (cN (i:=05) nd 9 7 (v9 (bD aj)) np)
  (ah (cg kr 9 (GV 18 M.zip (υ (ar (ν (ar (ae 0) (ae 03))) 14)) (υ (ar (ae 2) 14))) (cX (n:=2) 9 (aH (ay (i:=06) nd 9 7 np) (aH (ay (i:=07) nd 9 7 np) b_)))
   (ak (bb (dY (gh eG 18 M.isinstance 18 M.str mZ (ae 07)))
    (ak (br (cR 05 ni nq aW aQ (aa (υ (aT (aa (υ (aT (aa (υ ax) (aa (ai 03) (aa (ai 06) (aa (υ ax) aj)))))) (aa (υ (aT (aa (υ ax) (aa (ai 1) (aa (ai 07) (aa (υ ax) aj)))))) aj)))) aj))))
    aM)))
  (ah (bb (dY (gh eG 18 M.isinstance 18 M.str mZ (ν (ar (ν (ar (ae 0) (ae 04))) 14))))
   (ak (br (cR 05 ni nq aW aQ (aa (υ (aT (aa (υ (aT (aa (υ ax) (aa (ai 1) (aa (υ (ar (ae 2) 14)) (aa (υ ax) aj)))))) (aa (υ (aT (aa (υ ax) (aa (ai 03) (aa (υ (ar (ν (ar (ae 0) (ae 04))) 14)) (aa (υ ax) aj)))))) aj)))) aj))))
   aM)
  (ak (aL (gc 05 np)))))))))),λ_=>?_]
 let(rs,x,g,as,h,st,ps,o,rfl,B,ha,hf,hq):=hG;let(f',e,h1,h2,h3,h4):=Cf hf;let(_,XC,qS):=o_ _ h1;rw[h2] at qS;cases qS;let(e',o',g1,g2,g3,g4):=Cg B h2;rw[h3] at g1;cases g1;have hel:e<6:=(dA.mp h4).1;show#[λm ρ=>∃k:Nat,ρ=[aJ (.lst 50),aJ (.int (h:Int)),aJ (aV (.call x g as)),aJ (.int (k:Int)),none,none,none,none]/\k<=st/\m=st-k,#[_,0,9,gJ _,9],?_];rintro m ρ ⟨k,rfl,hk,rfl⟩;obtain⟨r,cw⟩:∃r,rs[k]?\r:=#[_,gq ()];show Sv (P:=k=st) (λkk k1 k2=>?_) (λhn=>?_) λhs=>?_;cases r with
 |df f qs=>show#[_,eU cw,_,aaL,_,eU cw,_,aaM,_,aaN,?_];change kk (!decide (f=g));by_cases z:f=g;rw[ο z];show k2 ?_;subst z;by_cases y:k=st;calc y;calc absurd cw (sM _ h1 k () qs);rw[ς z];show k1 λy=>?_;subst y;rw[h2] at cw;cases cw;calc z 9
 |_=>exact#[_,eU cw,_,aaL,k1 λy=>by subst y;rw[h2] at cw;cases cw]
 rw[ι 9];calc#[st-(k+1),(),k+1,9,(),9];subst hs;rw[θ jq];show#[λm ρ=>∃j:Nat,ρ=[aJ (.lst 50),aJ (.int (h:Int)),aJ (aV (.call x g as)),aJ (.int (k:Int)),aJ (.int (j:Int)),none,none,none]/\k<=j/\j<=e/\m=e-j,#[_,k,9,cD _,(),9],?_];rintro m ρ ⟨j,rfl,hj,hje,rfl⟩;obtain⟨r,yY⟩:∃r,rs[j]?\r:=#[_,gq ()];have nxt:(∀o,r≠.give o)->∃m',m'<e-j/\∃j':Nat,[aJ (T.lst 50),aJ (.int (h:Int)),aJ (aV (.call x g as)),aJ (.int (k:Int)),aJ (.int ((j:Int)+1)),none,none,none]=[aJ (.lst 50),aJ (.int (h:Int)),aJ (aV (.call x g as)),aJ (.int (k:Int)),aJ (.int (j':Int)),none,none,none]/\k<=j'/\j'<=e/\m'=e-j':=λng=>by
  have:j≠e:=λz=>by subst z;rw[h4] at yY;cases yY;exact ng _ 9
  exact#[e-(j+1),(),j+1,9,(),(),9]
 cases r with
 |give o2=>
  have:j=e:=by by_cases z:j=e;calc z;exact absurd yY (g4 j hj () o2)
  subst this;show#[_,eU yY,_,aaL,bH 4,_,eU h2,_,aaN,_,aaO,?_];change iF (ue (ps.map T.str) (as.map qD)) _ _ _ _;rw[cV.zip_map];show cF (λn ρ=>E3 λts b6 b7=>ρ=[aJ (.lst 50),aJ (.int (h:Int)),aJ (aV (.call x g as)),aJ (.int (k:Int)),aJ (.int (j:Int)),some (.lst ts,true),b6,b7]/\ts=(((ps.zip as).take n).flatMap λz=>pW (.nm k z.1) h z.2).map j6) #[_,none,none,9,9] ?_ ?_;rintro n ⟨z1,z2⟩ ρ hz ⟨ts,b6,b7,rfl,Cm⟩;have hn:n<(ps.zip as).length:=(dA.mp hz).1;have es:(((ps.zip as).take (n+1)).flatMap λz=>pW (.nm k z.1) h z.2).map j6=ts++(pW (.nm k z1) h z2).map j6:=by
   rw[Cm,P7,hz,List.flatMap_append,qz]
   congr 2
   change pW _ _ _++[]=_;rw[Bb]
  have hs:19<sizeLine:=by
   have:=fS (f:=λz:Str×kx=>pW (.nm k z.1) h z.2) (m:=1) (λz=>by cases z.2<;>simp[pW]) ((ps.zip as).take n);rw[Cm,bN,π];rw[Om] at this;rw[CV] at hn this
   lia
  cases z2 with
  |nm y=>calc#[9,9,9,bH 4,bH 4,bH 4,hs,_,_,_,9,es.symm]
  |nu i=>exact#[9,9,9,_,_,_,9,by rw[es];calc (Bb _).symm]
  rintro ρ ⟨ts,b6,b7,rfl,Cm⟩;rw[Fo] at Cm;have hs:19<sizeLine:=by
   have:=fS (f:=λz:Str×kx=>pW (.nm k z.1) h z.2) (m:=1) (λz=>by cases z.2<;>simp[pW]) (ps.zip as);rw[Cm,bN,π];rw[CV] at this
   lia
  rw[qz,<- Cm] at hq;show#[_,eU h4,_,aaM,?_];cases o with
  |nm y=>calc#[9,_,aaM,bH 4,_,eU h4,_,aaM,bH 4,bH 4,hs,hq]
  |nu i=>calc#[9,by change q (.fr (.lst ts));rw[show ts=ts++(pW (.nm h x) k (.nu i)).map j6 from (Bb _).symm];calc hq]
 |_=>calc#[_,eU yY,_,aaL,nxt λ_ z=>nomatch z]
abbrev NN:ω:=["_law_program_here","_law_homes_here","_law_moves_here","_law_k","_law_row","_law_home"]
def yx:aI NN qaO (aq vI):=L2.gL
def JA(D:Df K mg "_law_moves" vI qaO f fd)(M:EC mg)(vP:cp P w K mg base "_law_homes" qaO 1 (cH K 1 AW))(Cz:cp P w K mg base "_law_class" qaN 1 (cH K 1 mH))(vQ:cp P w K mg base "_law_call_moves" qaP 1 (cH K 03 Jw)):cp P w K mg base "_law_moves" qaO 2 (cH K 1 Jx):=by
 show D.gQ (jJ D.F yx 9 λbP A outer s H E Ox hr ts q hG=>?_);have nd:=yx.nd;have hu:=bA.dG hr;have np:∀{i:Nat},aZ #[H,[],Ox] i:=gR;show#[_,(ah (aF (i:=1) nd 9 7 (v9 (aN vP hr (aa (ai 0) aj))) np)
  (ah (cN (i:=2) nd 9 7 (v9 (bD aj)) np)
  (ah (cg kr 9 (ie 18 M.enumerate (ai 0)) (cX (n:=2) 9 (aH (ay (i:=03) nd 9 7 np) (aH (ay (i:=04) nd 9 7 np) b_)))
   (ah (aF (i:=05) nd 9 7 (v9 (ar (ae 1) (ae 03))) np)
   (ak (bb (bt hu (ν 35) (ν ax))
    (ak (br (cR 2 ni nq aW aQ (aa (υ (aT (aa (υ (aT (aa (υ ax) (aa (ai 05) (aa (υ 35) (aa (υ ax) aj)))))) (aa (υ (aT (aa (υ ax) (aa (ai 03) (aa (υ ax) (aa (υ ax) aj)))))) aj)))) aj))))
    (ak (bb (VW.vc (c6 (bt hu (ν 35) (ν ax)) (cz (dY (gh eG 18 M.isinstance 18 M.str mZ (ν 35))))))
     (ak (br (cR 2 ni nq aW aQ (aa (υ (aT (aa (υ (aT (aa (υ ax) (aa (ai 05) (aa (υ 35) (aa (υ ax) aj)))))) (aa (υ (aT (aa (υ ax) (aa (ai 05) (aa (υ 35) (aa (υ ax) aj)))))) aj)))) aj))))
     (ak (bb (bt hu (ν 35) (ν ax))
      (ak (br (cR 2 ni nq aW aQ (aa (υ (aT (aa (υ (aT (aa (υ ax) (aa (ai 05) (aa (υ 35) (aa (υ ax) aj)))))) (aa (υ (aT (aa (υ ax) (aa (ai 05) (aa (υ 35) (aa (υ (aN Cz hr (aa (υ 35) aj))) aj)))))) aj)))) aj))))
      (ak (bb (VW.vc (c6 (bt hu (ν 35) (ν ax)) (cz (dY (gh eG 18 M.isinstance 18 M.str mZ (ν 35))))))
       (ak (br (cR 2 ni nq aW aQ (aa (υ (aT (aa (υ (aT (aa (υ ax) (aa (ai 05) (aa (υ 35) (aa (υ (aN Cz hr (aa (υ 35) aj))) aj)))))) (aa (υ (aT (aa (υ ax) (aa (ai 05) (aa (υ 35) (aa (υ ax) aj)))))) aj)))) aj))))
       (ak (bb (bt hu (ν 35) (ν ax))
        (ak (cN (i:=2) nd 9 7 (v9 (cf (ae 2) (ν (aN vQ hr (aa (ai 0) (aa (ai 05) (aa (ai 04) aj))))))) np))
        aM))))))))))))
  (ak (aL (gc 2 np)))))),λ_=>?_]
 let(rs,rfl,p,hq):=hG;have hn:=p.le;show#[9,rs,9,p.B,(),bH 4,?_];show jt (λi ρ=>E4 λts b3 b4 b5=>ρ=[aJ (.lst 50),aJ (.lst (iK rs)),some (.lst ts,true),b3,b4,b5]/\ts=(jm rs i).map j6) #[_,none,none,none,9,9] ?_ ?_;rintro i r ρ hr ⟨ts,b3,b4,b5,rfl,Cm⟩;have hi:=(dA.mp hr).1;have em:=Iw rs i;have hs:19<sizeLine:=by have:=p.len.2 i ();rw[Cm,bN,π];lia
 have hk:=p.ky r (dX hr);have Uc:=p.B.Uc hr;have nil:∀t5:T,(∀h,gG 22 i\h->KA rs i h r=[])->E4 λhU b3 b4 b5=>[aJ (T.lst 50),aJ (.lst (iK rs)),some (.lst ts,true),aJ (.int (i:Int)),aJ (aV r),aJ t5]=[aJ (.lst 50),aJ (.lst (iK rs)),some (.lst hU,true),b3,b4,b5]/\hU=(jm rs (i+1)).map j6:=λt5 z=>#[_,_,_,_,9,by
  have:Iu rs i=[]:=by
   unfold Iu;rw[hr];cases h:gG (bE rs) i with
   |none=>rfl
   |some h'=>exact z h' h
  rw[em,this,Bb];calc Cm]
 have Yn:∀x:Str,wd r=x->decide (x="def")=false->decide (x="skip")=false->∃h,gG 22 i\h/\iW (iK rs) (i:Int)\.int (h:Int)/\Iu rs i=KA rs i h r:=λx e y1 y2=>by
  have z1:wd r≠"def":=by rw[e];exact of_decide_eq_false y1
  have z2:wd r≠"skip":=by rw[e];exact of_decide_eq_false y2
  have:gG 22 i=(st 22 i).head?:=by unfold gG;rw[c_ hr];cases r<;>first|rfl|exact absurd 9 z1
  cases hl:st (bE rs) i with
  |nil=>calc absurd hl (Uc z1 z2)
  |cons a l=>rw[hl] at this;exact#[a,this,(pF hi).trans (by rw[this];rfl),by unfold Iu;rw[hr,this];rfl]
 have add:∀(us:Φ)(t5:T),us=(Iu rs i).map j6->E4 λhU b3 b4 b5=>[aJ (T.lst 50),aJ (.lst (iK rs)),some (.lst (ts++us),true),aJ (.int (i:Int)),aJ (aV r),aJ t5]=[aJ (.lst 50),aJ (.lst (iK rs)),some (.lst hU,true),b3,b4,b5]/\hU=(jm rs (i+1)).map j6:=λus t5 e=>#[_,_,_,_,9,by rw[em,qz,Cm,e]];cases r with
 |new x=>let(h,h1,h2,h3):=Yn "new" 9 17 17;calc#[9,9,_,h2,_,aaL,_,aaM,bH 4,bH 4,bH 4,hs,add [_] _ (by rw[h3];rfl)]
 |put x o=>
  let(h,h1,h2,h3):=Yn "put" 9 17 17;show#[9,9,_,h2,_,aaL,_,aaL,_,aaN,?_];cases o with
  |nm y=>calc#[9,_,aaM,bH 4,_,aaN,bH 4,bH 4,hs,add [_] _ (by rw[h3];rfl)]
  |nu _=>calc#[9,_,aaL,_,aaL,_,aaL,nil _ λ_ _=>rfl]
 |get x y k=>let(h,h1,h2,h3):=Yn "get" 9 17 17;calc#[9,9,_,h2,_,aaL,_,aaL,_,aaL,_,aaM,bH 4,_,aaN,_,aaO,9,k,9,hk,bH 4,bH 4,hs,add [_] _ (by rw[h3];rfl)]
 |set y k o=>
  let(h,h1,h2,h3):=Yn "set" 9 17 17;show#[9,9,_,h2,_,aaL,_,aaL,_,aaL,_,aaL,_,aaO,?_];cases o with
  |nm z=>calc#[9,_,aaM,_,aaN,9,k,9,hk,bH 4,_,aaO,bH 4,bH 4,hs,add [_] _ (by rw[h3];rfl)]
  |nu _=>calc#[9,_,aaL,nil _ λ_ _=>rfl]
 |call x g as=>
  let(h,h1,h2,h3):=Yn "call" 9 17 17;let(c1,(s',ps,o),c2):=p.cl x g as (dX hr);show#[9,9,_,h2,_,aaL,_,aaL,_,aaL,_,aaL,_,aaL,9,rs,x,g,as,h,s',ps,o,9,p.B,c1,c2,?_];have e:KA rs i h (.call x g as)=(ps.zip as).flatMap (λz=>pW (.nm s' z.1) h z.2)++pW (.nm h x) s' o:=by simp only[KA,c2]
  rw[<- e,<- h3];show#[?_,add _ _ 9];have:=p.len.2 (i+1) ();rw[em,kq] at this;rw[Cm,bN,bN,π]
  lia
 |_=>exact#[9,9,_,pF hi,_,aaL,_,aaL,_,aaL,_,aaL,_,aaL,nil _ λ_ _=>rfl]
 rintro ρ ⟨ts,b3,b4,b5,rfl,rfl⟩;calc hq
end
def Te:Pl->Prop
 |.nm _ _=>True
 |.cl _ _ _=>True
 |_=>False
def qm(o:Obj)(E:List Ent):T:=.df o (cu E) (cQ E)
def JB(ts:Φ)(q:qam):Prop:=E5 λ(E F:List Ent) (o1 o2:Obj) (p:Pl)=>ts=[qm o1 E,qm o2 F,Tc p]/\(F.map (·.1)).Nodup/\(∀e∈F,0<=e.1.1)/\Td p/\q (.vw (.int (jQ E F p)))
def JC(ts:Φ)(q:qam):Prop:=E3 λ(E:List Ent) (o1:Obj) (p:Pl)=>ts=[qm o1 E,Tc p]/\Te p/\q (.fr (.lst ((fU E p).map λk=>.kt (kK k))))
def vR(ts:Φ)(q:qam):Prop:=E5 λ(E F:List Ent) (o1 o2:Obj) (m:Mv)=>ts=[qm o1 E,qm o2 F,j6 m]/\(F.map (·.1)).Nodup/\(∀e∈F,0<=e.1.1)/\Td m.2/\Te m.1/\q (.fr (.lst ((bQ E F m).map λk=>.kt (kK k))))
def Yo(q:qam):FS:=λd ρ=>E9 λ(E F:List Ent) (o1 o2:Obj) (p:T) (h:Nat) (y c:Str) (b:Bool)=>ρ=[aJ (qm o1 E),aJ (qm o2 F),aJ p,aJ (.str (if b=true then "name" else "cells")),aJ (.int (h:Int)),aJ (.str y),aJ (.str c),aJ (.int (ba E (nk h y))),none,none,none]/\(F.map (·.1)).Nodup/\(∀e∈F,0<=e.1.1)/\q (.vw (.int (if b=true then ba E (nk h y) else qF (pC (ba E (nk h y)) c) F)))/\∀ρ r,q r->d.rt ρ r
def Yp(q:qam):FS:=λd ρ=>E6 λ(E:List Ent) (o1:Obj) (p:T) (h:Nat) (y c:Str)=>ρ=[aJ (qm o1 E),aJ p,aJ (.str "cells"),aJ (.int (h:Int)),aJ (.str y),aJ (.str c),aJ (.int (ba E (nk h y)))]/\q (.fr (.lst ((fU E (.cl h y c)).map λk=>.kt (kK k))))/\∀ρ r,q r->d.rt ρ r
section
abbrev Yq:ω:=["_law_names","_law_cells","_law_origin","_law_word","_law_home","_law_name","_law_kind","_law_some","_law_total","_law_row","_law_other"]
def JD:aI Yq qaQ (aq Jv):=L2.gL
def Tf(D:Df K mg "_law_had" Jv qaQ f fd):cp P w K mg base "_law_had" qaQ 1 (cH K 03 JB):=by
 show D.gQ (jJ D.F JD 9 λbP A outer s H E Ox hr ts q hG=>?_);have nd:=JD.nd;have hu:=bA.dG hr;have np:∀{i:Nat},aZ #[H,[],Ox] i:=gR;have hJ:=je hu;show#[_,(ah (tT (ai 2) (cX (n:=04) 9 (aH (ay (i:=03) nd 9 7 np) (aH (ay (i:=04) nd 9 7 np) (aH (ay (i:=05) nd 9 7 np) (aH (ay (i:=06) nd 9 7 np) b_))))))
  (ah (bb (bt hu (ae 03) (ν ax))
   (ak (aL (v9 (oS 14 (ae 04)))))
   aM)
  (ah (aF (i:=07) nd 9 7 (v9 (HQ hJ (ae 0) (aa (ai 04) (aa (ai 05) aj)) (υ af) #[9,9,9,9])) np)
  (iQ.weak (u:=(Yo q)) (ah (bb (bt hu (ae 03) (ν ax))
   (ak (aL (v9 (VE.vp (ai 07)))))
   aM)
  (ah (aF (i:=08) nd 9 7 (v9 af) np)
  (ah (cg kr 9 (M8 (ai 1)) (cX (n:=2) 9 (aH (ay (i:=09) nd 9 7 np) (aH (ay (i:=10) nd 9 7 np) b_)))
   (ak (bb (VW.vc (c6 (bt hu (ae 10) (ae 06)) (cz (bt hu (ν (bo (ν (zI (ae 07) (ae 09))) 14)) 14))))
    (ak (aF (i:=08) nd 9 7 (v9 (i0 (ae 08) (ν (M9 hJ (ae 1) (aa (ai 09) (aa (ai 10) aj)))))) np))
    aM)))
  (ak (aL (v9 (VE.vp (ai 08)))))))) ?w1)))),λ_=>?main]
 case w1=>
  rintro d ρ ⟨E,F,o1,o2,p,h,y,c,b,rfl,nd,ps,hq,fin⟩;cases b with
  |true=>calc fin _ _ hq
  |false=>
   have hq:q (.vw (.int (qF (pC (ba E (nk h y)) c) F))):=hq;have ek:(cu F).map HH=F.map λe=>HH (kK e.1):=by unfold cu;rw[rA];rfl
   change iF ((cu F).map HH) _ _ _ _;rw[ek];show cF (λn ρ=>E3 λv b9 om=>ρ=[aJ (qm o1 E),aJ (qm o2 F),aJ p,aJ (.str "cells"),aJ (.int (h:Int)),aJ (.str y),aJ (.str c),aJ (.int (ba E (nk h y))),aJ (.int v),b9,om]/\v=qF (pC (ba E (nk h y)) c) (F.take n)) #[_,none,none,9,9] ?_ ?_;rintro n e ρ he ⟨_,b9,om,rfl,rfl⟩;have hs:=uT (p:=pC (ba E (nk h y)) c) he;have h0:=ps e (dX he);have hb:ba E (nk h y) / 2 ^ e.1.1.toNat % 2=1↔ib (ba E (nk h y)) e.1.1.toNat=true:=#[λz=>ο z,χ];show#[9,9,cO (λz1=>#[h0,(by change (0:Int)<2;decide),cO (λz2=>?_) (λz2=>?_)]) (λz1=>?_)];have hp:pC (ba E (nk h y)) c e.1=true:=by unfold pC;rw[ο z1,y4];exact hb.mp z2
   show#[bH 4,.int e.2,uU nd (dX he),_,_,_,9,?_];rw[hs];unfold B';rw[ι hp];have hp:¬ pC (ba E (nk h y)) c e.1=true:=λz=>z2 (by unfold pC at z;rw[iO] at z;calc hb.mpr z.2);show#[_,_,_,9,?_];rw[hs];unfold B';rw[θ hp];have hp:¬ pC (ba E (nk h y)) c e.1=true:=λz=>z1 (by unfold pC at z;rw[iO] at z;calc χ z.1);show#[_,_,_,9,?_];rw[hs];unfold B';rw[θ hp];rintro ρ ⟨_,b9,om,rfl,rfl⟩;rw[Fo];exact fin _ _ hq
 case main=>
  let(E,F,o1,o2,p,rfl,nd,ps,pk,hq):=hG;have go:∀(b:Bool)(h:Nat)(y c:Str)(p:T),q (.vw (.int (if b=true then ba E (nk h y) else qF (pC (ba E (nk h y)) c) F)))->Yo q {nx:=λx=>q (.vw .bO),rt:=λx r=>q r} [aJ (qm o1 E),aJ (qm o2 F),aJ p,aJ (.str (if b=true then "name" else "cells")),aJ (.int (h:Int)),aJ (.str y),aJ (.str c),aJ ((cx (cu E) (cQ E) (kK (nk h y))).getD (.int 0)),none,none,none]:=λb h y c p hq=>by rw[eM];exact#[E,F,o1,o2,p,h,y,c,b,9,nd,ps,hq,λ_ _ h=>h]
  cases p with
  |rw i=>have pk:i<=1000:=pk;calc#[9,9,#[(),(),by decide],hq]
  |nm h y=>calc#[9,9,bH 4,go true h y "" _ hq]
  |cl h y c=>calc#[9,9,bH 4,go false h y c _ hq]
  |zr=>calc pk.elim
abbrev CA:ω:=["_law_names","_law_goal","_law_word","_law_home","_law_name","_law_kind","_law_some"]
def yy:aI CA qaR (aq vJ):=L2.gL
def yz:(CA++(["_law_row"]:ω)).Nodup:=by decide +kernel
def JE(D:Df K mg "_law_goals" vJ qaR f fd)(M:EC mg):cp P w K mg base "_law_goals" qaR 1 (cH K 2 JC):=by
 show D.gQ (jJ D.F yy 9 λbP A outer s H E Ox hr ts q hG=>?_);have nd:=yy.nd;have hu:=bA.dG hr;have np:∀{i:Nat},aZ #[H,[],Ox] i:=gR;have hJ:=je hu;show#[_,(ah (tT (ai 1) (cX (n:=04) 9 (aH (ay (i:=2) nd 9 7 np) (aH (ay (i:=03) nd 9 7 np) (aH (ay (i:=04) nd 9 7 np) (aH (ay (i:=05) nd 9 (.inr 9) np) b_))))))
  (ah (bb (bt hu (ae 2) (ν ax))
   (ak (aL (v9 (bD (aa (υ (cq (aa (ai 03) (aa (ai 04) aj)))) aj)))))
   aM)
  (ah (aF (i:=06) nd 9 (.inr 9) (v9 (HQ hJ (ae 0) (aa (ai 03) (aa (ai 04) aj)) (υ af) #[9,9,9,9])) np)
  (iQ.weak (u:=(Yp q)) (ak (aL (v9 (eC (ts:=qaS) 9 18 (dw 18 M.range 14) (λ_ _ _ _ _ _=>(ay (i:=07) yz 9 7 np)) (λ_ _ _ _ _ _=>(gf (bt hu (ν (bo (ν (zI (ae 06) (ae 07))) 14)) 14))) (λ_ _ _ _ _ _=>(υ (cq (aa (ai 07) (aa (ai 05) aj))))))))) ?w1)))),λ_=>?main]
 case w1=>
  rintro d ρ ⟨E,o1,p,h,y,c,rfl,hq,fin⟩;have hr:((rangeT 0 60).filter λt=>match t with | .int i=>ib (ba E (nk h y)) i.toNat|_=>false)=((List.range 60).filter (ib (ba E (nk h y)))).map λ(j:Nat)=>T.int (j:Int):=by
   unfold rangeT;rw[List.filter_map];have e:((λt:T=>match t with | .int i=>ib (ba E (nk h y)) i.toNat|_=>false) ∘ λ(i:Nat)=>T.int (0+(i:Int)))=ib (ba E (nk h y)):=by funext i;change ib _ (0+(i:Int)).toNat=_;rw[Fq,kA]
   rw[e];exact Fn λi _=>by rw[Fq]
  show#[9,by decide,by decide,by rw[ig];calc bH 5,?_];show jr (λt=>match t with | .int i=>ib (ba E (nk h y)) i.toNat|_=>false) (λt=>match t with | .int i=>.kt (kK (i,c))|_=>.bO) (λt ht k r hx=>?_) ?_;let(i,hi):=Kj.mp ht;let(_,rfl):=ij hi;rw[Fq] at hx ⊢;show#[(),by decide,?_];have hx:if ib (ba E (nk h y)) ((i:Int)).toNat=true then r [.kt (kK ((i:Int),c))] else r []:=hx
  change if ib (ba E (nk h y)) ((i:Int)).toNat=true then (2<=sizeLine/\r [.kt (kK ((i:Int),c))]) else r []
  by_cases z:ib (ba E (nk h y)) ((i:Int)).toNat=true;rw[ι z] at hx ⊢;calc#[bH 5,hx];rw[θ z] at hx ⊢;calc hx;show fin _ _ ?_;change q (.fr (.lst (((rangeT 0 60).filter λt=>match t with | .int i=>ib (ba E (nk h y)) i.toNat|_=>false).map λt=>match t with | .int i=>.kt (kK (i,c))|_=>.bO)));rw[hr,rA];unfold fU at hq;rw[rA] at hq;exact hq
 case main=>
  let(E,o1,p,rfl,hp,hq):=hG;cases p with
  |rw i=>calc hp.elim
  |zr=>calc hp.elim
  |nm h x=>calc#[9,9,bH 4,bH 4,hq]
  |cl h y c=>show#[9,9,bH 4,?_];change Yp q _ [aJ (qm o1 E),aJ (Tc (.cl h y c)),aJ (.str "cells"),aJ (.int (h:Int)),aJ (.str y),aJ (.str c),aJ ((cx (cu E) (cQ E) (kK (nk h y))).getD (.int 0))];rw[eM];calc#[E,o1,_,h,y,c,9,hq,λ_ _ h=>h]
abbrev CB:ω:=["_law_names","_law_cells","_law_move","_law_goal","_law_origin","_law_some","_law_where"]
def yA:aI CB qaT (aq vK):=L2.gL
def yB:(CB++(["_law_key_here"]:ω)).Nodup:=by decide +kernel
def JF(D:Df K mg "_law_lacks" vK qaT f fd)(M:EC mg)(JG:cp P w K mg base "_law_had" qaQ 1 (cH K 03 JB))(NO:cp P w K mg base "_law_goals" qaR 1 (cH K 2 JC)):cp P w K mg base "_law_lacks" qaT 2 (cH K 03 vR):=by
 show D.gQ (jJ D.F yA 9 λbP A outer s H E Ox hr ts q hG=>?_);have nd:=yA.nd;have hu:=bA.dG hr;have np:∀{i:Nat},aZ #[H,[],Ox] i:=gR;have hJ:=je hu;show#[_,(ah (tT (ai 2) (cX (n:=2) 9 (aH (ay (i:=03) nd 9 7 np) (aH (ay (i:=04) nd 9 7 np) b_))))
  (ah (aF (i:=05) nd 9 (.inr 9) (v9 (aN JG hr (aa (ai 0) (aa (ai 1) (aa (ai 04) aj))))) np)
  (ah (aF (i:=06) nd 9 (.inr 9) (v9 (ar (ν (bD (aa (ai 1) (aa (ai 0) aj)))) (ν (dZ rD o4 18 M.int OW (aK (ν (Gu hu (ν (ar (ae 03) 14)) (ν ax))) aS))))) np)
  (ak (aL (v9 (eC (ts:=qaN) 9 18 (dq (υ (aN NO hr (aa (ai 0) (aa (ai 03) aj))))) (λ_ _ _ _ _ _=>(ay (i:=07) yB 9 7 np)) (λ_ _ _ _ _ _=>(gf (i4 hu (ν (i0 (ν (d8 hJ (ae 06) (ai 07) (υ af) #[9,9,9,9])) (ae 05))) (ν (d8 hJ (ae 06) (ai 07) (υ af) #[9,9,9,9]))))) (λ_ _ _ _ _ _=>(ai 07))))))))),λ_=>?_]
 let(E,F,o1,o2,m,rfl,nd,ps,pk,hp,hq):=hG;show#[9,9,9,E,F,o1,o2,m.2,9,nd,ps,pk,?_];let(g,o):=m;have gl:((fU E g).map λk=>T.kt (kK k)).length<=sizeLine:=by
  rw[bN];cases g with
  |nm h x=>calc bH (by simp[fU])
  |rw i=>calc bH (by simp[fU])
  |zr=>calc bH (by simp[fU])
  |cl h y c=>unfold fU;rw[bN];have:=TK (ib (ba E (nk h y))) (List.range 60);rw[sV] at this;exact bH ()
 have fin:∀(EE:List Ent)(oo:Obj),(∀k,Tb.get #[E,F,false] (isNm g) k=ba EE k)->dh (hName 07) (l6 (f2 (fT (f2 (fT (Ak (dS 06) (dP 07) (fT (fC (.int 0))))) (dS 05) tP)) (fT (Ak (dS 06) (dP 07) (fT (fC (.int 0))))) OF)) (dP 07) [aJ (qm o1 E),aJ (qm o2 F),aJ (j6 (g,o)),aJ (Tc g),aJ (Tc o),aJ (.int (jQ E F o)),aJ (qm oo EE),none] ((fU E g).map λk=>T.kt (kK k)) λus=>q (.fr (.lst us)):=λEE oo hg=>by
  show c7 (f:=λk=>T.kt (kK k)) (u:=λk=>T.kt (kK k)) (p:=λk=>!decide (bitOr (Tb.get #[E,F,false] (isNm g) k) (jQ E F o)=Tb.get #[E,F,false] (isNm g) k)) (λ_ _ _ _ _=>trivial) (λk _ r s hk=>?_) hq;rw[hg] at hk;change tP ((cx (cu EE) (cQ EE) (kK k)).getD (.int 0)) (.int (jQ E F o)) λx=>OF x.t ((cx (cu EE) (cQ EE) (kK k)).getD (.int 0)) λy=>match y with | .vw (.bl b)=>if b=true then r (.kt (kK k)) else s|_=>False
  rw[eM];exact hk
 cases g with
 |rw i=>calc hp.elim
 |zr=>calc hp.elim
 |nm h x=>calc#[bH 4,_,aaL,_,aaM,9,9,E,o1,_,9,hp,gl,fin E o1 λ_=>rfl]
 |cl h y c=>calc#[bH 4,_,aaL,_,aaL,9,9,E,o1,_,9,hp,gl,fin F o2 λ_=>rfl]
end
end cj
namespace PySem
open Sem (wp)
namespace F
theorem ED:typeLookup (.type "dict") "__len__"=pure (some (.builtin "dict.__len__")):=by rw[typeLookup_type,builtinLookup_eq_fast];kernel_rfl
end F
end PySem
namespace VT
open PySem PySem.Spec PyProof.Rows L2
end VT
namespace PySem
open Sem (wp)
section
variable{d:Addr}{es:Array DictEntry}
def Walks.Yr(hh:A.handled=none)(it d:Addr)(eV:d≠it)(hd:o.data=.dict es ep) :
  Walks prog w A it [it,d] [it] es.size (λi v=>∃e,es[i]?\e/\v=e.key) (λi h=>h.IsKeyIter it d i es.size ep/\h.get? d\o) where
 sub:=λb hb=>by simp at hb;simp[hb]
 frame:=λ_ _ _ st hk=>#[st.1.at λo e=>hk it 4 o e,hk d 4 _ st.2]
 item:=λi s Q E hi st hQ=>by have he:es[i]?\es[i]:=Array.getElem?_eq_getElem hi;exact fP st.1 st.2 hd he λh' a c=>hQ _ h' s.toks #[_,he,9] #[a,c.extBut d o eV st.2] λb o hb e=>c.extBut b o (λh=>hb (by simp[h])) e
 done:=λs Q E st hQ=>dW hh st.1 st.2 hd (Us (cD _)) λh' Kz=>hQ h' s.toks λb o hb e=>Kz b o (λh=>hb (by simp[h])) e
 self:=λ_ _ _ _ st hQ=>gj st.1 hQ
def jR{Q:(qag)->Shared->Prop}(hh:A.in1.handled=none)(hm:(d==sysModules)=false)(ho:s.heap.get? d\o)(hc:o.cls=.type "dict")(hd:o.data=.dict es ep)(hn:es.size<=sizeLine)(hQ:∀h' tk acc,(∀b o,s.heap.get? b\o->h'.get? b\o)->8<h'.objs.size->ItemsOf (λi v=>∃e,es[i]?\e/\v=e.key) acc es.size->Q acc.toList {s with heap:=h',toks:=tk}) :
  wpAny 15 A (collect (.ref d)) Q E s:=by
 have dc:=dB ho;unfold collect;show ζ (wpAny_runValue (aas PySem.F.entry_proto_collect ?_));rw[YV PySem.F.plain_proto_collect _];change wpAny _ A.in1 (newList [] >>= λl=>again (.builtin "list.__iadd__" #[[l,.ref d],[]])) _ _ s;show ζ (Δ ?_);show η #[aaI PySem.F.plain_list_iadd _,aas PySem.F.entry_list_iadd ?_];rw[YV PySem.F.plain_list_iadd _];have hS₁:(s.heap.push {cls:=.type "list",data:=.seq ([]:qag).toArray}).get? 8=some {cls:=.type "list",data:=.seq ([]:qag).toArray}:=hW _ 9;have ZR:(s.heap.push {cls:=.type "list",data:=.seq ([]:qag).toArray}).get? d\o:=de _ ho;have hsz:(s.heap.push {cls:=.type "list",data:=.seq ([]:qag).toArray}).objs.size=8+1:=CW _ _;have hold:∀b o,s.heap.get? b\o->(s.heap.push {cls:=.type "list",data:=.seq ([]:qag).toArray}).get? b\o:=λb o e=>de _ e;change wpAny _ A.in1 (Builtin.List.listExtendWith 24 (.ref d) 24) _ _ {s with heap:=s.heap.push {cls:=.type "list",data:=.seq ([]:qag).toArray} };generalize (s.heap.push {cls:=.type "list",data:=.seq ([]:qag).toArray})=h1 at hS₁ ZR hsz hold ⊢;have LW:Builtin.List.listSameRef 24 (.ref d)=false:=by simp[Builtin.List.listSameRef,C0 dc]
 unfold Builtin.List.listExtendWith;have hT1:Shared.TypeIs {s with heap:=h1} (.ref d) "dict":=#[o,ZR,hc];show ζ (aam hT1 ?_);rw[θ (by rw[LW];decide)];show ζ (fO hm ZR hc hd ?_);show ζ (rk ?_);have yU:=de {cls:=.type "dict_keyiterator",data:=.fields ([.ref d,.int 0 0,.int es.size 0,.int ep 0].toArray)} ZR;have hS2:=de {cls:=.type "dict_keyiterator",data:=.fields ([.ref d,.int 0 0,.int es.size 0,.int ep 0].toArray)} hS₁;have hit:(h1.push {cls:=.type "dict_keyiterator",data:=.fields ([.ref d,.int 0 0,.int es.size 0,.int ep 0].toArray)}).IsKeyIter h1.objs.size d 0 es.size ep:=#[_,hW _ 9,9,9];have BE:∀b o,h1.get? b\o->(h1.push {cls:=.type "dict_keyiterator",data:=.fields ([.ref d,.int 0 0,.int es.size 0,.int ep 0].toArray)}).get? b\o:=λb o e=>de _ e;change wpAny _ A.in1 (Builtin.List.listLengthHint (.ref d)) _ _ {s with heap:=h1.push {cls:=.type "dict_keyiterator",data:=.fields ([.ref d,.int 0 0,.int es.size 0,.int ep 0].toArray)} };generalize (h1.push {cls:=.type "dict_keyiterator",data:=.fields ([.ref d,.int 0 0,.int es.size 0,.int ep 0].toArray)})=h2 at yU hS2 hit BE ⊢;have hT2:Shared.TypeIs {s with heap:=h2} (.ref d) "dict":=#[o,yU,hc];unfold Builtin.List.listLengthHint;show ζ (wpAny_specialOf hT2 PySem.F.ED ?_)
 (generalize hid:("dict.__len__":String)=id0;(fail_if_success (clear hid id0));wp_delta;rw[show splitId id0\("dict","__len__") from by subst hid;decide +kernel];subst hid)
 show wpAny_bind (wpAny_isInstance (b:=true) hT2 (by rw[isSubtype_type];kernel_rfl) ?_);show wpAny_bind (wpAny_typeOf hT2 ?_);show wpAny_pure ?_;rw[if_pos 17];show wpAny_bind (wpAny_rule ?_);rw[hsz] at hit ⊢;change wpAny _ A.in1 (Builtin.List.listTouch 24 >>= λ_=>again (.builtin "list.extend.loop" #[[.ref 8,.ref 36,.ref 8],[]])) _ _ {s with heap:=h2};have X8:=PyProof.Rows.get?_update_seq hS2 (·.push .none);have hS4:=PyProof.Rows.get?_update_seq X8 (·.pop);have ne1:d≠8:=gr dc;have kp:∀b,b≠8->∀o,h2.get? b\o->((h2.update 8 (Obj.mapSeq (·.push .none))).update 8 (Obj.mapSeq (·.pop))).get? b\o:=λb hb o e=>by rw[YW _ _ _ _ hb,YW _ _ _ _ hb];exact e
 show ζ ?_;unfold Builtin.List.listTouch;show ζ (PyProof.Rows.listUpdate_at hS2 9 ?_);show PyProof.Rows.listUpdate_at X8 9 ?_;have W:=(Walks.Yr (A:=A.in1) (prog:=prog) (w:=w) hh 36 d (gr (Kl dc)) hd).toS;show η #[aaI PySem.F.plain_extend_loop _,codeAny_extend_loopS W hn 8 ?_ _ es.size 0 _ ([].toArray) _ 9 (gJ _) ?_ hS4 (ItemsOf.nil _) λs' F9 c' IX Nx wU=>?_];intro z;rcases cT.mp z with z|z
 calc absurd z (gr (Ba _));calc ne1 (f6.mp z).symm;calc#[hit.at λo e=>kp _ (C0 (Ba _)) o e,kp d ne1 o yU];change wpAny _ A (load 8 >>= _) _ _ s';show ζ (wpAny_load Nx ?_);show η ?_;have e:s'={s with heap:=s'.heap,toks:=s'.toks}:=by have h1:s'.gens=s.gens:=IX.gens;have h2:s'.drawn=s.drawn:=IX.drawn;have h3:s'.os=s.os:=IX.os;cases s';simp only at h1 h2 h3;subst h1 h2 h3;rfl
 rw[e];show hQ s'.heap s'.toks F9 (λb o eb=>?_) (dB Nx) wU;have hb:b<8:=dB eb;show IX.heap b o (λz=>?_) (kp b (gr hb) o (BE b o (hold b o eb)));rcases cT.mp z with z|z
 calc absurd z (gr hb);calc absurd (f6.mp z) (gr (Kl hb))
end
end PySem
namespace TP
open PySem PySem.Spec PyProof.Rows L2 VT TS
section
def Tr2(aP:Array Value):Prop:=E4 λi x t1 t2=>aP=([.int i t1,.str x t2].toArray)
def Tg:M6 Tr2:=#[λa c #[i,x,t1,t2,ea] #[i',x',u1,u2,eb] e he=>by
 subst ea;subst eb;simp only[Oj,List.zip_nil_right,cT,eh,Ψ] at he;obtain rfl|rfl:=he
 calc .int _ _ _ _;calc .str _ _ _ _,λa #[i,x,t1,t2,ea]=>by subst ea;calc#[i,t1,9]]
def EF{d:Addr}{es:Array DictEntry}(hA:A.handled=none)(hm:(d==sysModules)=false)(ho:s.heap.get? d\o)(hc:o.cls=.type "dict")(hd:o.data=.dict es ep)(ZE:es.size<=100000)(ht:∀e∈es.toList,∃aP,TupAt 42 e.key aP/\Tr2 aP)(h:∀(h':Heap) (tk:Nat) (a:Addr) (out:Array Value),(∀b o,s.heap.get? b\o->h'.get? b\o)->8<=a->(∃e,h'.get? a\seqObj "list" out e)->out.toList.Perm (es.toList.map (·.key))->Q (.ref a) {s with heap:=h',toks:=tk}) :
  wpAny 15 A (call (.builtin "sorted") [.ref d]) Q E s:=by
 show Calls.call_function_entry kind_sorted plain_sorted entry_sorted (args_sorted1 _) ?_;unfold Builtin.«sorted»;show ζ (m:=checkCount "sorted" 1 1 _) (η ?_);show ζ (jR (by simp[hA]) hm ho hc hd (by rw[π];lia) λh1 tk acc kp hsz wU=>?_);have hL:acc.toList=es.toList.map (·.key):=by
  show TM λi=>?_;rw[dQ,EV,EV];cases e:acc[i]? with
  |none=>rw[Us (by rw[<- wU.1];calc Array.getElem?_eq_none_iff.mp e)];rfl
  |some v=>let(x,e1,rfl):=wU.2 i v e;rw[e1];rfl
 show ζ (wpAny_newList ?_ (by rw[KH,wU.1,π];lia));have UP:(h1.push (seqObj "list" acc.toList.toArray 0)).get? h1.objs.size\seqObj "list" acc.toList.toArray 0:=hW _ 9;have aee:acc.toList.length<=100000:=by rw[KH,wU.1];exact ZE
 change wpAny _ _ _ _ _ {s with heap:=h1.push (seqObj "list" acc.toList.toArray 0),toks:=tk};show ζ (rk (ψ slot_list_sort #[_,UP,9] entry_list_sort (Pj Tg UP aee (λg hg v hv=>?_) λout hp=>#[_,9,?_]) (args_list_sort _)));rw[hL] at hv;let(x,hx,rfl):=gH.mp hv;let(aP,(a,o',n,ek,e,c,dd),tr):=ht x hx;calc#[aP,#[a,o',n,ek,hg a o' (gr (dB (kp a o' e))) (de _ (kp a o' e)),c,dd],tr];show η #[_,9,h _ tk h1.objs.size out (λb o eb=>?_) (TU hsz) (sortedHeap_at UP) (by rw[<- hL];calc hp)];have e1:=kp b o eb;have dc:=dB e1;rw[sortedHeap_old (gr dc) (by rw[CW];calc Kl dc)];calc de _ e1
end
theorem sP:∀as:zm,Vals (as.map V.ref) (as.map Value.ref)
 |[]=>.nil
 |a::as=>.cons 9 (sP as)
abbrev rDk(K:qaf):qak->Hp->VK->Prop:=λxs H Q=>E3 λ(d:Addr) (o:Obj) (ks:List (List Key))=>xs=[.ref d]/\Ed H d o ks/\ks.length<=100000/\(∀k∈ks,E2 λi x=>k=[Sum.inl i,Sum.inr x]) /\
 ((∀(i:Nat)(k:List Key),ks[i]?\k->H (nK o i)\.tup (k.map kV))->∀zs:qak,zs.Perm (((List.range ks.length).map (nK o)).map V.ref)->∀a,H a=none->Q (.ref a) (upd H a (.lst zs)))
def qo(hc:X.calm=true):c5 X (.builtin "sorted") (rDk X.K):=by
 intro ε s σ H xs us Q I r h;let(d,o,ks,rfl,hz,hl,hk,q):=h;let(u,rfl,ru):=vals1 r;cases ru;let(ho,hm,oK,es,ep,h3,hsz,jF):=hz.known I.bB;have hes:es.toList.map (·.key)=((List.range ks.length).map (nK o)).map Value.ref:=by show TM λi=>?_;rw[dQ,dQ,dQ,EV];by_cases hi:i<ks.length;let(_,e,he,ek):=jF i _ (gq hi);rw[he,Og hi];change some e.key=_;rw[ek];rfl;rw[Us (),Oh (by rw[sV];lia)];rfl
 show EF (by simp[I.ok.hd hc]) hm ho oK h3 () (λe he=>?_) λh' tk a out kp ha #[e,he] hp=>?_;let(i,hi):=Kj.mp he;rw[EV] at hi;have dc:i<ks.length:=by rw[<- hsz];exact (Array.getElem?_eq_some_iff.mp hi).1
 let(hb,e',Kz,ek):=jF i _ (gq dc);rw[hi] at Kz;cases Kz;let(n,x,en):=hk _ (CU dc);rw[en] at hb;let(ps,pv,(o',nA,oy,n',UO),_):=I.tuple (dO.of hb);cases pv with
 |cons r1 pv=>cases pv with
  |cons r2 pv=>cases pv;let(t1,rfl):=r1;let(t2,rfl):=r2;exact#[_,#[_,o',n',ek,nA,oy,UO],n,x,t1,t2,9]
 rw[hes] at hp;let(zs,p1,p2):=r6 hp (sP _);show#[.ref a,_,I.laid (a:=a) (o:=.lst zs) (t':=tk) kp ha #[?_,out.toList,e,p2,?_],9,q (λi k hi=>(jF i k hi).1) zs p1 a (I.bB.fresh ha)];rw[p1.length_eq,bN,bN,sV,π];lia;rw[he]
def Ti(ts:Φ)(q:qam):Prop:=E3 λ(o:Obj) (ks:List (List Key)) (us:Φ)=>ts=[.df o ks us]/\ks.length<=100000/\(∀k∈ks,E2 λi x=>k=[Sum.inl i,Sum.inr x])/\∀zs:List (List Key),zs.Perm ks->q (.fr (.lst (zs.map .kt)))
theorem JI{K:qaf}{H:Hp}{A:zm}{as:Nat->Addr}:∀{ks:List (List Key)}{j:Nat},(∀(i:Nat)(k:List Key),ks[i]?\k->H (as (j+i))\.tup (k.map kV))->aB K H A (ks.map T.kt) (((List.range' j ks.length).map as).map V.ref)
 |[],j,_=>aB.nil
 |k::ks,j,h=>by rw[wq,List.range'_succ];calc aB.cons #[_,9,h 0 k 9,λz=>nomatch z] (JI (j:=j+1) λi k hi=>by have:=h (i+1) k hi;rw[show j+(i+1)=j+1+i by lia] at this;calc this)
def yC:i5 K (rDk K) Ti:=by
 intro Z tm O ρ σ H ts vs q Q I h hp k;let(o,ks,us,rfl,hl,hk,hq):=hp;let(v,rfl,a):=cA h;let(p,ws,rfl,hw,hd,_):=a.df;show#[p,o,ks,9,#[ws,hw,hd],hl,hk,λjF zs h1 b hb=>?_];have hA:aB K H (av Z O) (ks.map T.kt) (((List.range ks.length).map (nK o)).map V.ref):=by rw[List.range_eq_range'];exact JI λi k hi=>by rw[Nat.zero_add];exact jF i k hi
 let(G8,p1,p2):=xW h1 hA;let(zs',p3,rfl):=x8.g8 T.kt p1 9;calc k _ (hq zs' p3) _ _ (aG hb) (I.wZ hb p2)
end TP
namespace VT
open PySem PySem.Spec PyProof.Rows L2 PySem.MeetsSeq PySem.SeqAt
end VT
namespace VT
open PySem PySem.Spec PyProof.Rows L2
end VT
namespace NK
open PySem PySem.Spec PySem.Calls PyProof.Rows L2
end NK
namespace VT
open PySem PySem.Spec PyProof.Rows L2
section
variable{a:Expr}{fc:FE}{pos:Pos}
def vS(n:Nat)(f g:FE):FS:=λd ρ=>match ρ[n]? with
 |some (some (.dt ks ts,true))=>f ρ λv=>g ρ λy=>match y with
  |.kt k=>19<16777216/\d.nx (ρ.set n (some (.dt (j1 ks k) (iM ks ts k v),true)))
  |_=>False
 |_=>False
theorem yD(n:Nat){f g:FE}{i:Expr}(hu:X.A.units+1<cLine)(he:VE X Z e f)(hi:VE X Z i g)(hN:X.N[n]?\x:=by rfl)(hv:lN 29 x:=by calc jvv 9)(hd:fY x:=by decide)(f9:qy x:=by decide)(hs:swapsWith e (some (.Subscript 51 i dj)) pos.line 3=pure false:=by rfl) :
  VS X Z (.Assign [.Subscript 51 i dj] e pos) (vS n f g):=.mk λtm=>
 PS.weak (k8 hu (cc hN hv hd f9) (hi tm) (he tm) hs) λD σ H #[ρ,O,d,I,q,F]=>by
  unfold vS at q;split at q
  rename_i ks ts e0
  let(l,h1,h2,xs,hl,h3,h4):=I.root e0;have ha:l∈av Z O:=fW _ (aC.mpr (dX h1));show#[ρ,O,_,I,q,λt ht v H1 s1 a1=>#[.ref l,h2,ρ,O,_,I.same s1,ht,λy hy w H2 s2 a2=>?_]];split at hy
  rename_i kk
  let(hlen,hj):=hy;simp only[At] at a2;let(b,rfl,hb,_):=a2;have R4:=s2 _ _ (s1 _ _ h3);have q:=x4 ks xs kk v hl;have hz:(ks.zip xs).length<sizeLine:=by
   rw[π,CV,hl,Kq,h4.length]
   lia
  show#[l,_,9,qV.t R4 hb hz,?_];rw[q.1];show F.nx O _ σ _ (((I.same s1).same s2).wrote (t':=.dt (j1 ks kk) (iM ks ts kk t)) e0 h1 #[iM ks xs kk v,q.2,aA,?_]) hj;calc aB.wrote ha R4 9 (pP ((h4.same s1).same s2) (a1.same s2));calc hy.elim;calc q.elim
end
end VT
namespace cj
open PySem L2 VT Gen K5 Lay BS x8 MK
open PySem.Builtin (bitOr)
def vT:Rw->List Ky
 |.df _ ps=>ps.map λx=>.op (.nm x)
 |.give o=>[.op o]
 |.put x o=>[.op (.nm x),.op o]
 |.DH x a _ b=>[.op (.nm x),.op a,.op b]
 |.new x=>[.op (.nm x)]
 |.get x y k=>[.op (.nm x),.op (.nm y),k]
 |.set y k o=>[.op (.nm y),k,.op o]
 |.call x _ as=>.op (.nm x)::as.map .op
 |.fail _=>[]
 |.Kv o=>[.op o]
 |.BJ o=>[.op o]
 |_=>[]
def aef:Rw->Bool
 |.new _=>true
 |_=>false
def Ys(rs:qal)(j:Nat):Bool:=match rs[j]? with
 |some r=>aef r
 |none=>false
def KD(rs:qal):qao:=(List.range 6).filter (Ys rs)
abbrev Uk(ks:qao):Φ:=ks.map λ(k:Nat)=>T.int (k:Int)
def rj(k:Ky):Option Str:=match nY k with
 |.str z=>if Txt.startswith z "."=true then none else some z
 |_=>none
def vU(r:Rw):ω:=(vT r).filterMap rj
abbrev vw(t:T):Option (T×Bool):=aJ t
abbrev prK(p:Nat×Str):T:=.kt (kK (nk p.1 p.2))
def yE(ts:Φ)(q:qam):Prop:=∃r:Rw,ts=[aV r]/\(vT r).length<=100/\q (.fr (.lst ((vU r).map .str)))
def prN(rs:qal)(ps:List (Nat×Str)):Prop:=(∀p∈ps,p.1<6)/\(KD rs≠[]->ps≠[])/\ps.length<=900
def JJ(ts:Φ)(q:qam):Prop:=∃rs:qal,ts=[.lst 50]/\Pg rs/\(∀r∈rs,(vT r).length<=05)/\(∀x,Rw.new x∈rs->Txt.startswith x "."=false)/\∀ps,prN rs ps->q (.fr (.lst (ps.map prK)))
def AX(rs:qal):dF 50=(List.range 6).map λ(j:Nat)=>.tup [.int (j:Int),aV (rs.getD j .skip)]:=by show TM λj=>?_;unfold dF;rw[Uu,dQ,dQ];by_cases h:j<6;rw[Og h,gq h];change _\T.tup [.int j,aV (rs.getD j .skip)];rw[TH,gq h];rfl;rw[Oh (show rs.length<=j by lia),Oh (by rw[sV];lia)];rfl
def NP(ks:List Ky):(ks.filter λk=>(rj k).isSome).map nY=(ks.filterMap rj).map .str:=by
 induction ks with
 |nil=>rfl
 |cons k ks ih=>
  cases e:rj k with
  |none=>rw[Z2 (by rw[e];calc jq),List.filterMap_cons_none e,ih]
  |some z=>
   rw[Z1 (by rw[e];rfl),ZZ e,fj,fj,ih]
   congr 1
   unfold rj at e;split at e
   rename_i z' e'
   split at e;cases e;cases e;calc e';cases e
section
def aeg(r:Rw)(q:qam):FS:=λd ρ=>∃b:T,ρ=[aJ b,aJ (.lst ((vT r).map nY))]/\d.rt=(λ_=>q)
abbrev qp:ω:=["_law_row","_law_some"]
def m9:aI qp qaS (aq ko):=L2.gL
def qq:(qp++(["_law_one"]:ω)).Nodup:=by decide +kernel
def yF(D:Df K mg "_law_names_in" ko qaS f fd)(M:EC mg):cp P w K mg base "_law_names_in" qaS 1 (cH K 1 yE):=by
 show D.gQ (jJ D.F m9 9 λbP A outer s H E Ox hr ts q hG=>?_);have nd:=m9.nd;have hu:=bA.dG hr;have np:∀{i:Nat},aZ #[H,[],Ox] i:=gR;let(r,rfl,hl,hq):=hG;show#[_,(ah (bb (bt hu (ν (ar (ae 0) 14)) (ν ax))
    (ak (aF (i:=1) nd 9 7 (v9 (bD (aa (υ (ar (ae 0) 14)) (aa (υ (ar (ae 0) 14)) (aa (υ (ar (ae 0) 14)) aj))))) np))
    (ak (bb (bt hu (ν (ar (ae 0) 14)) (ν ax))
      (ak (aF (i:=1) nd 9 7 (v9 (dZ h9 kf 18 M.list zM (aK (ν (ar (ae 0) 14)) aS))) np))
      (ak (bb (bt hu (ν (ar (ae 0) 14)) (ν ax))
        (ak (aF (i:=1) nd 9 7 (v9 (cf (ν (bD (aa (υ (ar (ae 0) 14)) aj))) (ν (dZ h9 kf 18 M.list zM (aK (ν (ar (ae 0) 14)) aS))))) np))
        (ak (bb (bt hu (ν (ar (ae 0) 14)) (ν ax))
          (ak (aF (i:=1) nd 9 7 (v9 (bD aj)) np))
          (ak (aF (i:=1) nd 9 7 (v9 (dZ h9 kf 18 M.list zM (aK (ν (gO (ae 0) (eX 14) tQ)) aS))) np)))))))))
   (iQ.weak (u:=(aeg r q)) (ak (aL (v9 (eC (ts:=["_law_one"]) 9 18 (dq (ai 1)) (λ_ _ _ _ _ _=>(ay (i:=2) qq 9 7 np)) (λ_ _ _ _ _ _=>(gf (VW.vc (c6 (dY (gh eG 18 M.isinstance 18 M.str mZ (ae 2))) (cz (zG (dY (mq (ae 2) (ν ax))))))))) (λ_ _ _ _ _ _=>(ai 2)))))) ?w)),λ_=>?main]
 case w=>
  rintro d ρ ⟨b,rfl,hd⟩;show#[9,by rw[bN];calc bH (),?_];show c7 (p:=λk=>(rj k).isSome) (u:=nY) (λ_ _ _ _ _=>trivial) (λk hk r s cw=>?_) ?_;have key:∀z:Str,nY k=.str z->(rj k).isSome=!Txt.startswith z ".":=λz e=>by unfold rj;rw[e];change (if Txt.startswith z (Str.ofString ".")=true then (none:Option Str) else some z).isSome=_;cases Txt.startswith z (Str.ofString ".")<;>rfl
  cases k with
  |fld x=>rw[key _ 9] at cw;calc#[9,uc 9 cw]
  |op o=>cases o with
    |nm y=>rw[key _ 9] at cw;calc#[9,uc 9 cw]
    |nu i=>exact#[9,cw]
  change d.rt _ (.fr (.lst (((vT r).filter _).map nY)));rw[NP,hd];exact hq
 case main=>
  cases r with
  |df f ps=>
    exact#[_,aaL,_,aaL,_,aaN,_,by
     change _=[_,aJ (T.lst ((ps.map λx=>Ky.op (.nm x)).map nY))];rw[rA];rfl,9]
  |call x g as=>
    have e:((vT (.call x g as)).map nY)=T.str x::as.map qD:=by change nY (.op (.nm x))::(as.map Ky.op).map nY=_;rw[rA];rfl
    have Ks:as.length<=100:=by have:((.op (.nm x)::as.map Ky.op:List Ky)).length<=100:=hl;rw[wq,bN] at this;lia
    show#[_,aaL,_,aaL,_,aaL,_,aaM,bH 4,?_];show#[_,aaO,?_];show#[by change ([T.str x]).length+(as.map qD).length<=sizeLine;rw[bN];calc bH (by simp;lia),aV (.call x g as),?_,9];rw[e];rfl
  |DH x a o b=>calc#[_,aaL,_,aaM,_,aaN,_,aaP,bH 4,_,9,9]
  |fail x=>calc#[_,aaL,_,aaL,_,aaL,_,aaL,gJ _,_,9,9]
  |_=>calc#[_,aaL,_,aaL,_,aaL,_,aaL,(λh=>absurd h.1 (by simp only[wq,List.length_nil];decide)),_,9,9]
def ksH{E:List (Nat×Str)}{h:Nat}:j1 (E.map λp=>kK (nk p.1 p.2)) (kK (nk h x))=(if (h,x)∈E then E else E++[(h,x)]).map λp=>kK (nk p.1 p.2):=by
 have e:lq (E.map λp=>kK (nk p.1 p.2)) (kK (nk h x))=decide ((h,x)∈E):=by
  unfold lq;rw[List.any_map,UD,KL,aaj];constructor;rintro⟨p,hp,e⟩;have e:=ix.mp (χ e);injection e with e1 e2
  have e1:=Int.ofNat_inj.mp e1;rw[<- e1,<- e2];calc hp;exact λh=>#[_,h,ο 9]
 unfold j1;rw[e];by_cases z:(h,x)∈E;rw[ι (ο z),ι z];rw[θ (by rw[ς z];calc jq),θ z,qz];rfl
def JK(E:List (Nat×Str))(p:Nat×Str):List (Nat×Str):=if p∈E then E else E++[p]
def NQ{E:List (Nat×Str)}{p:Nat×Str}(h:∀q∈E,q.1<n)(hp:p.1<n)(hl:E.length<=m):(∀q∈JK E p,q.1<n)/\(JK E p).length<=m+1/\JK E p≠[]:=by
 unfold JK;split
 rename_i z
 calc#[h,(),λe=>by rw[e] at z;cases z];calc#[λq hq=>(fu.mp hq).elim (h q) λz=>by rw[f6.mp z];calc hp,by rw[kq];simp;lia,λe=>by simp at e]
def NR{κ:Type}[DecidableEq κ](ks:List κ)(ts:List α)(x:κ)(u:α):(iM ks ts x u).length<=19+1:=by unfold iM;split;rw[List.length_zipWith];lia;rw[kq];simp
def Tj(r:Rw):(vU r).length<=(vT r).length:=List.length_filterMap_le _ _
abbrev NS:ω:=["_law_program_here","_law_homes_here","_law_pairs_here","_law_k","_law_row","_law_name"]
def yG:aI NS qaO (aq vM):=L2.gL
def JM(D:Df K mg "_law_pairs" vM qaO f fd)(M:EC mg)(vP:cp P w K mg base "_law_homes" qaO 1 (cH K 1 AW))(AY:cp P w K mg base "_law_names_in" qaS 1 (cH K 1 yE)):cp P w K mg base "_law_pairs" qaO 2 (cH K 1 JJ):=by
 show D.gQ (jJ D.F yG 9 λbP A outer s H E Ox hr ts q hG=>?_);have nd:=yG.nd;have hu:=bA.dG hr;have np:∀{i:Nat},aZ #[H,[],Ox] i:=gR;have hJ:=je hu;show#[_,(ah (aF (i:=1) nd 9 7 (v9 (aN vP hr (aa (ai 0) aj))) np)
  (ah (cN (i:=2) nd 9 7 (v9 pQ) np)
  (ah (cg kr 9 (ie 18 M.enumerate (ai 0)) (cX (n:=2) 9 (aH (ay (i:=03) nd 9 7 np) (aH (ay (i:=04) nd 9 7 np) b_)))
   (ak (cg kr 9 (dq (υ (aN AY hr (aa (ai 04) aj)))) (ay (i:=05) nd 9 7 np)
    (ak (HP 2 hJ (υ iE) (aa (υ (ar (ae 1) (ae 03))) (aa (ai 05) aj)))))))
  (uN 2 np (ak (aL (v9 (aU (TP.qo 9) TP.yC 18 M.sorted jo (aK (ae 2) aS))))))))),λ_=>?_]
 let(rs,rfl,G,hp5,hnw,hq):=hG;have hn:=G.le;show#[9,rs,9,G.B,(),?_];show jt (λi ρ=>E5 λ(E:List (Nat×Str)) (vs:Φ) (b3 b4 b5:Option (T×Bool))=>ρ=[vw (.lst 50),vw (.lst (iK rs)),some (.dt (E.map λp=>kK (nk p.1 p.2)) vs,true),b3,b4,b5]/\vs.length<=05 * i/\E.length<=05 * i/\(∀p∈E,p.1<6)/\((∃j<i,Ys rs j=true)->E≠[])) #[[],[],none,none,none,9,gJ _,gJ _,λp hp=>(nomatch hp),λ#[j,hj,_]=>absurd hj (UH j)] ?_ ?_;rintro i r ρ cw ⟨E,vs,b3,b4,b5,rfl,lv,le,hE,eV⟩;have hi:=(dA.mp cw).1;have hr5:=hp5 r (dX cw);have hl5:=Tj r;obtain⟨h,hh,hhl⟩:∃h:Nat,(vU r≠[]->gG (bE rs) i\h)/\(vU r≠[]->h<rs.length):=by
  by_cases hz:vU r=[];calc#[0,λz=>absurd hz z,λz=>absurd hz z];by_cases hd:wd r="def";let(f,ps,rfl):=Iz hd;calc#[i,λ_=>by unfold gG;rw[c_ cw];rfl,λ_=>hi];have hs:wd r≠"skip":=by cases r<;>first|exact λ_=>hz rfl|(simp only[wd];decide +kernel)
  have h1:=G.B.Uc cw hd hs;have e:gG 22 i=(st 22 i).head?:=by unfold gG;rw[c_ cw];cases r<;>first|rfl|exact absurd 9 hd
  cases hl:st (bE rs) i with
  |nil=>calc absurd hl h1
  |cons a l=>
   show#[a,λ_=>by rw[e,hl];rfl,λ_=>?_];have:=(G7 G.B.W i (TU hi) 0 a (by rw[hl];rfl)).1
   lia
 show#[9,9,9,r,9,(),?_];show cF (f:=T.str) (xs:=vU r) (λj ρ=>E3 λ(E':List (Nat×Str)) (vs:Φ) (b5:Option (T×Bool))=>ρ=[vw (.lst 50),vw (.lst (iK rs)),some (.dt (E'.map λp=>kK (nk p.1 p.2)) vs,true),vw (.int (i:Int)),vw (aV r),b5]/\vs.length<=05 * i+j/\E'.length<=05 * i+j/\(∀p∈E',p.1<6)/\(E≠[]->E'≠[])/\(0<j->E'≠[])) #[E,vs,b5,9,(),(),hE,id,λz=>absurd z (CY 0)] ?_ ?_;rintro j x ρ hx ⟨E',vs,b5,rfl,lv,le,hE',h1,h2⟩;have ZS:vU r≠[]:=λz=>by rw[z] at hx;cases hx
 have hj:j<(vU r).length:=(dA.mp hx).1;have hg:iW (iK rs) (i:Int)\.int (h:Int):=(pF hi).trans (by rw[hh ZS];rfl);let(k1,k2,k3):=NQ (p:=(h,x)) hE' (hhl ZS) le;show#[_,hg,#[bH 4,()],JK E' (h,x),iM (E'.map λp=>kK (nk p.1 p.2)) vs (kK (nk h x)) (.bl true),vw (.str x),?_,?_,k2,k1,λ_=>k3,λ_=>k3];change [_,_,some (T.dt (j1 _ (kK (nk h x))) _,true),_,_,_]=_;rw[ksH];rfl;calc jS (NR _ _ _ _) ();rintro ρ ⟨E',vs,b5,rfl,lv,le,hE',h1,h2⟩;show#[E',vs,_,_,b5,9,(),(),hE',λ#[j,hj,hb]=>?_];by_cases z:j=i;subst z;show h2 ?_;unfold Ys at hb;rw[cw] at hb;cases r with
 |new x=>
  have:=hnw x (dX cw);have:vU (.new x)=[x]:=by change ([Ky.op (.nm x)]).filterMap rj=_;rw[ZZ (show rj (.op (.nm x))\x by change (if Txt.startswith x (Str.ofString ".")=true then none else some x)=_;rw[this];rfl)];rfl
  rw[this];calc Nat.one_pos
 |_=>cases hb
 calc h1 (eV #[j,(),hb]);rintro ρ ⟨E,vs,b3,b4,b5,rfl,lv,le,hE,eV⟩;intro o;show#[o,_,_,9,by rw[bN];lia,λk hk=>?_,λzs hz=>?_];let(p,_,rfl):=gH.mp hk;calc#[_,_,9];let(E',pE,rfl):=g8 _ hz 9;rw[rA];show hq E' #[λp hp=>hE p (pE.mem_iff.mp hp),λZS e=>?_,by rw[pE.length_eq];lia];subst e;show eV ?_ pE.nil_eq.symm;let(j,hj):=List.exists_mem_of_ne_nil _ ZS;let(h1,h2):=yT.mp hj;calc#[j,nP.mp h1,h2]
end
end cj
namespace MK
open PySem L2 VT Gen BS K5 x8
open PySem.Builtin (bitOr)
structure Tab(c:Bool)(n:Nat)(E:List Ent):Prop where
 nd:(E.map (·.1)).Nodup
 ok:∀e∈E,(0<=e.1.1/\(c=true->e.1.1<(n:Int)))/\0<e.2/\below n e.2
section
variable{c:Bool}{E:List Ent}
def NT{k:Int×Str}{v:Int}{e:Ent}(h:e∈dJ E k v):e=(k,v)\/e∈E:=by
 unfold dJ at h;split at h;let(y,hy,rfl):=gH.mp h;split
 rename_i z;rw[z];exact .inl 9
 calc .inr hy;rcases fu.mp h with z|z
 calc .inr z;calc .inl (f6.mp z)
theorem CC(E:List Ent)(k:Int×Str)(v:Int):(dJ E k v).length<=E.length+1:=by unfold dJ;split;rw[bN];lia;rw[kq];simp
def Tab.put(h:Tab c n E){k:Int×Str}{v:Int}(hk:0<=k.1/\(c=true->k.1<(n:Int)))(v0:0<v)(v1:below n v):Tab c n (dJ E k v) :=
 #[(pU h.nd).1,λe he=>(NT he).elim (λz=>by rw[z];calc#[hk,v0,v1]) (h.ok e)]
def Tab.nil(c:Bool)(n:Nat):Tab c n []:=#[Kn,λe he=>nomatch he]
def Tab.get(h:Tab c n E)(k:Int×Str):below n (ba E k):=by by_cases z:ba E k=0;rw[z];calc iw n;let(e,he,_,ev):=d9 E z;rw[<- ev];calc (h.ok e he).2.2
def Tab.perm(h:Tab c n E)(p:F.Perm E):Tab c n F:=#[(p.map _).nodup_iff.mpr h.nd,λe he=>h.ok e (p.mem_iff.mp he)]
def yH(n1:(E.map (·.1)).Nodup)(n2:(F.map (·.1)).Nodup)(h:∀e:Ent,e.2≠0->(e∈E↔e∈F))(k:Int×Str):ba E k=ba F k:=by by_cases z:ba E k=0;by_cases z':ba F k=0;rw[z,z'];let(e,he,ek,ev):=d9 F z';have:=get_mem n1 ((h e (by rw[ev];calc z')).mpr he);rw[ek] at this;rw[this,ev];let(e,he,ek,ev):=d9 E z;have:=get_mem n2 ((h e (by rw[ev];calc z)).mp he);rw[ek] at this;rw[this,ev]
def PX(E F:List Ent):List Mv:=E.map (λe=>(Pl.nm e.1.1.toNat e.1.2,Pl.zr))++F.map λe=>(Pl.cl 0 Str.empty e.1.2,Pl.zr)
theorem AZ(M:List Mv)(tE:Tab false n E)(tF:Tab true n F):Iv n (M++PX E F) #[E,F,false]:=by
 show#[tE.nd,tF.nd,λe he=>?_,λe he=>?_,λw k=>?_];show sW.mpr #[(.nm e.1.1.toNat e.1.2,.zr),gE _ (fW _ (gH.mpr #[e,he,9])),?_];change e.1∈[nk e.1.1.toNat e.1.2];have:=(tE.ok e he).1.1;calc f6.mpr (Prod.ext (by change e.1.1=((e.1.1.toNat:Nat):Int);lia) 9);show sW.mpr #[(.cl 0 Str.empty e.1.2,.zr),gE _ (gE _ (gH.mpr #[e,he,9])),?_];have h1:=(tF.ok e he).1.1;have h2:=(tF.ok e he).1.2 9;calc gH.mpr #[e.1.1.toNat,nP.mpr (),Prod.ext (by change ((e.1.1.toNat:Nat):Int)=e.1.1;lia) 9];cases w with
 |true=>calc tE.get k
 |false=>calc tF.get k
end
end MK
namespace cj
open PySem L2 VT Gen K5 Lay BS x8 MK
open PySem.Builtin (bitOr)
def Yt(l:T)(s:S2)(q:S2->Prop):Prop:=E4 λ(rs:qal) (E F:List Ent) (N:List Mv)=>l=.lst ((jm rs 6).map j6)/\s=cV.sE E F/\6<=60/\N.length<=1000/\(∀m∈jC rs,m∈N)/\(∀m∈N,uV 6 m)/\Iv 6 N #[E,F,false]/\∀p:Tb,Iv 6 N p->(∀m∈jm rs 6,bQ p.E p.F m=[])->q (cV.sE p.E p.F)
abbrev EG(M:MG)(ms:List Mv)(b:Bool)(b4 b5 b6:Option T):En:=[aJ (.ob M.a1),aJ (.ob M.a2),aJ (.lst (ms.map j6)),aJ (.bl b),iR b4,iR b5,iR b6]
def Yu{m:Mv}(h:m∈jm rs 6)(hn:6<=60):Td m.2/\Te m.1:=by
 let(h1,h2):=u9.mp h;have ok:=As m h1;let(g,o):=m;show#[?_,?_];cases o with
 |rw i=>have ok:i<6:=ok;change i<=1000;lia
 |zr=>calc h2 9
 |_=>trivial
 let(i,hi,hm):=sW.mp h1;unfold Ff at hm;split at hm
 rename_i r a _ _
 cases r with
 |call x g' as=>
  simp only[wy] at hm;split at hm;rcases cT.mp hm with e|hm
  cases e;trivial;let(z,_,e):=gH.mp hm;cases e;trivial;cases hm
 |_=>first|(cases f6.mp hm;trivial)|cases hm
 cases hm
def Yv(M:MG)(o1 o2:Obj)(p:Tb)(w:Bool):wz M o1 o2 (cV.sE p.E p.F) (some (.ob (if w=true then M.a1 else M.a2),false))\(if w=true then qm o1 p.E else qm o2 p.F,false):=by
 cases w with
 |true=>calc Jq M o1 o2 _
 |false=>calc Jr M o1 o2 _
def A3{Q:T->Prop}{x y:Int}(ha:∀q:T->Prop,q (.int x)->fa ρ q)(hb:∀q:T->Prop,q (.int y)->fb ρ q)(hq:Q (.int (bitOr x y))):fT (f2 fa fb tP) ρ Q:=by unfold fT f2;calc ha _ (hb _ hq)
section
abbrev EH:ω:=["_law_names","_law_cells","_law_moves_here","_law_fresh","_law_move","_law_where","_law_key_here"]
def qr:aI EH qaU (aq mR):=L2.gL
def A4(D:Df K mg "_law_grown" mR qaU f fd)(M:EC mg)(JG:cp P w K mg base "_law_had" qaQ 1 (cH K 03 JB))(NU:cp P w K mg base "_law_lacks" qaT 2 (cH K 03 vR)):cp P w K mg base "_law_grown" qaU 03 (qR K [true,true,false] (g2D Yt)):=by
 show D.gQ (aec D.F qr 9 5 λbP A outer s H E G hB hr l s0 q hG=>?_);have nd:=qr.nd;have hu:=bA.dG hr;have hJ:=je hu;show#[_,(eJ (gY λ_ _=>aF (i:=03) nd 9 7 (v9 iE) gR)
  (gk (Jo kr (λ_ _=>dY (VE.vp (ai 03)))
    (eJ (gY λ_ _=>aF (i:=03) nd 9 7 (v9 iE) gR)
    (gk (HZ kr 9 (λ_ _=>dq (ai 2)) (λ_ _=>ay (i:=04) nd 9 7 gR)
      (eJ (gY λ_ _=>aF (i:=05) nd 9 7 (v9 (ar (ν (bD (aa (ai 1) (aa (ai 0) aj)))) (ν (dZ rD o4 18 M.int OW (aK (ν (Gu hu (ν (ar (ν 35) 14)) (ν ax))) aS))))) gR)
      (gk (NL hB kr 9 (λ_ _=>υ (aN NU hr (aa (ai 0) (aa (ai 1) (aa (ai 04) aj))))) (λ_ _=>ay (i:=06) nd 9 7 gR)
        (eJ (NJ 05 06 hJ (λ_ _=>υ (i0 (ν (d8 hJ (ae 05) (ai 06) (υ af) #[9,9,9,9])) (ν (aN JG hr (aa (ai 0) (aa (ai 1) (aa (υ 35) aj))))))))
        (gk (gY λ_ _=>aF (i:=03) nd 9 7 (v9 iE) gR)))))))))))),?_]
 let(rs,E0,F0,N,rfl,rfl,hn,BZ,hNs,Yw,I0,hq):=hG;have av:∀(b:Bool)(b4 b5 b6:Option T),iu (EG G (jm rs 6) b b4 b5 b6)=true:=λb b4 b5 b6=>by change iu [aJ (.ob G.a1),aJ (.ob G.a2),aJ (.lst _),aJ (.bl b),iR b4,iR b5,iR b6]=true;simp only[pS,pR,jk]
 show#[av true none none none,?_];show#[λm ρ s=>E5 λ(p:Tb) (b:Bool) (b4 b5 b6:Option T)=>ρ=EG G (jm rs 6) b b4 b5 b6/\s=cV.sE p.E p.F/\Iv 6 N p/\m=(if b=true then mu 6 N p+1 else 0)/\(b=false->∀m∈jm rs 6,bQ p.E p.F m=[]),#[_,#[E0,F0,false],true,none,none,none,9,9,I0,9,λz=>nomatch z],?_];rintro m ρ s ⟨p,b,b4,b5,b6,rfl,rfl,I,rfl,oK⟩;cases b with
 |false=>calc hq p I (oK 9)
 |true=>
   show#[av false b4 b5 b6,?_];have hmi:∀m∈jm rs 6,m∈N:=λm hm=>hNs m (u9.mp hm).1;show#[λi ρ s=>E3 λb4 b5 b6=>ρ=EG G (jm rs 6) (((jm rs 6).take i).foldl mD {p with b:=false}).b b4 b5 b6/\s=cV.sE (((jm rs 6).take i).foldl mD {p with b:=false}).E (((jm rs 6).take i).foldl mD {p with b:=false}).F,#[b4,b5,b6,9,9],?_,?_];rintro i t ρ s ht ⟨b4,b5,b6,rfl,rfl⟩;rw[dQ] at ht;let(m,hm,rfl):=KG.mp ht;have hmm:m∈N:=hmi m (dX hm);have es:((jm rs 6).take (i+1)).foldl mD {p with b:=false}=mD (((jm rs 6).take i).foldl mD {p with b:=false}) m:=by rw[P7,hm,Ol];rfl
   let(Ii,_):=u7 hn Yw (ms:=(jm rs 6).take i) (p:={p with b:=false}) (λv hv=>hmi v (YU hv)) (I.bool false);generalize ((jm rs rs.length).take i).foldl mD {p with b:=false}=pi at Ii es ⊢;let(mk1,mk2):=Yu (dX hm) hn;have lk:=yf (m:=m) Ii hn;have aw:∀(b:Bool)(t4:T)(b5 b6:Option T),iu [aJ (.ob G.a1),aJ (.ob G.a2),aJ (.lst ((jm rs 6).map j6)),aJ (.bl b),aJ t4,iR b5,iR b6]=true:=λb t4 b5 b6=>by simp only[pS,pR,jk]
   have inner:∀(d:Fd),(∀b6:Option T,d.nx (EG G (jm rs 6) (mD pi m).b (some (j6 m)) (some (.ob 39)) b6) (cV.sE (mD pi m).E (mD pi m).F)) ->
     PV G (fT (i6 03 (cJ (dP 0) (cJ (dP 1) (cJ (dP 04) l7))) vR)) (hName 06)
      (Xr (PU G 05 06 (fT (f2 (fT (Ak (dS 05) (dP 06) (fT (fC (.int 0))))) (fT (i6 03 (cJ (dP 0) (cJ (dP 1) (cJ (fT (f2 (dS 04) (fT (fC (.int 1))) T8)) l7))) JB)) tP))) (wPl (Rh 03 (fX (fC (.bl true))))))
      d [aJ (.ob G.a1),aJ (.ob G.a2),aJ (.lst ((jm rs 6).map j6)),aJ (.bl pi.b),aJ (j6 m),aJ (.ob 39),iR b6] (cV.sE pi.E pi.F):=λd hd o1 o2=>by
    change fT (i6 03 (cJ (dP 0) (cJ (dP 1) (cJ (dP 04) l7))) vR) [wz G o1 o2 (cV.sE pi.E pi.F) (some (.ob G.a1,false)),wz G o1 o2 (cV.sE pi.E pi.F) (some (.ob G.a2,false)),some (.lst ((jm rs 6).map j6),false),some (.bl pi.b,false),some (j6 m,false),wz G o1 o2 (cV.sE pi.E pi.F) (some (.ob 39,false)),wz G o1 o2 (cV.sE pi.E pi.F) (iR b6)] _;rw[Jq,Jr];show#[9,pi.E,pi.F,o1,o2,m,9,Ii.nF,Ii.pos,mk1,mk2,(bQ pi.E pi.F m).map kK,by rw[rA];rfl,?_];show#[λj ρ s=>∃b6,ρ=EG G (jm rs 6) (((bQ pi.E pi.F m).take j).foldl (stK (isNm m.1) m.2) pi).b (some (j6 m)) (some (.ob 39)) b6/\s=cV.sE (((bQ pi.E pi.F m).take j).foldl (stK (isNm m.1) m.2) pi).E (((bQ pi.E pi.F m).take j).foldl (stK (isNm m.1) m.2) pi).F,#[b6,9,9],?_,?_];rintro j t ρ s hj ⟨b6,rfl,rfl⟩;rw[rA,dQ] at hj;let(k,hk,rfl):=KG.mp hj;have es:((bQ pi.E pi.F m).take (j+1)).foldl (stK (isNm m.1) m.2) pi=stK (isNm m.1) m.2 (((bQ pi.E pi.F m).take j).foldl (stK (isNm m.1) m.2) pi) k:=by rw[P7,hk,Ol];rfl
    let(Ij,_):=Cc hmm (Yw m hmm) (l:=(bQ pi.E pi.F m).take j) Ii λv hv=>lk v (YU hv);generalize ((bQ pi.E pi.F m).take j).foldl (stK (isNm m.1) m.2) pi=pj at Ij es ⊢;have l1:=Ij.Il;have l2:=Ij.Im;have l3:N.length * (6+1)<=1000 * 61:=UJ BZ ();show#[aw pj.b (j6 m) (some (.ob 39)) (some (.kt (kK k))),λo1 o2=>?_];obtain⟨oo,EE,OC,hg⟩:E2 λoo EE=>(if isNm m.1=true then qm o1 pj.E else qm o2 pj.F)=qm oo EE/\∀k,pj.get (isNm m.1) k=ba EE k:=by
     cases isNm m.1 with
     |true=>calc#[o1,pj.E,9,λ_=>rfl]
     |false=>exact#[o2,pj.F,9,λ_=>rfl]
    change fT (f2 (fT (Ak (dS 05) (dP 06) (fT (fC (.int 0))))) (fT (i6 03 (cJ (dP 0) (cJ (dP 1) (cJ (fT (f2 (dS 04) (fT (fC (.int 1))) T8)) l7))) JB)) tP) [wz G o1 o2 (cV.sE pj.E pj.F) (some (.ob G.a1,false)),wz G o1 o2 (cV.sE pj.E pj.F) (some (.ob G.a2,false)),some (.lst ((jm rs 6).map j6),false),some (.bl pj.b,false),some (j6 m,false),wz G o1 o2 (cV.sE pj.E pj.F) (some (.ob 39,false)),some (.kt (kK k),false)] _;rw[Jq,Jr,Yv,OC];show A3 (x:=pj.get (isNm m.1) k) (y:=jQ pj.E pj.F m.2) (λQ h=>?_) (λQ h=>#[_,aaM,9,pj.E,pj.F,o1,o2,m.2,9,Ij.nF,Ij.pos,mk1,h]) ?_;change Q ((cx (cu EE) (cQ EE) (kK k)).getD (.int 0));rw[eM,<- hg];calc h;have nx:∀s',s'=cV.sE (pj.put (isNm m.1) k (bitOr (pj.get (isNm m.1) k) (jQ pj.E pj.F m.2))).E (pj.put (isNm m.1) k (bitOr (pj.get (isNm m.1) k) (jQ pj.E pj.F m.2))).F->∃b6,[some (.ob G.a1,false),some (.ob G.a2,false),some (.lst ((jm rs 6).map j6),false),some (.bl true,false),some (j6 m,false),some (.ob 39,false),some (T.kt (kK k),false)]=EG G (jm rs 6) (((bQ pi.E pi.F m).take (j+1)).foldl (stK (isNm m.1) m.2) pi).b (some (j6 m)) (some (.ob 39)) b6/\s'=cV.sE (((bQ pi.E pi.F m).take (j+1)).foldl (stK (isNm m.1) m.2) pi).E (((bQ pi.E pi.F m).take (j+1)).foldl (stK (isNm m.1) m.2) pi).F:=λs' e=>#[some (.kt (kK k)),by rw[es];rfl,by rw[es,e];rfl];have ps:=cV.IP pj (isNm m.1) k (bitOr (pj.get (isNm m.1) k) (jQ pj.E pj.F m.2));show#[.inl #[_,9],by change (cQ pj.E).length<_;unfold cQ;rw[bN];lia,by change (cQ pj.F).length<_;unfold cQ;rw[bN];lia,kK k,9,?_];by_cases hb:isNm m.1=true;rw[ι hb] at ps;calc .inl #[by change some (some (T.ob 39,false))=_;rw[ι hb],aw true (j6 m) (some (.ob 39)) (some (.kt (kK k))),nx _ ps];rw[θ hb] at ps;calc .inr #[by change some (some (T.ob 39,false))=_;rw[θ hb],aw true (j6 m) (some (.ob 39)) (some (.kt (kK k))),nx _ ps];rintro ρ s ⟨b6,rfl,rfl⟩;rw[bN,bN,Fo];exact hd b6
   show#[aw pi.b (j6 m) b5 b6,bH 4,_,aaL,?_];let(g,o):=m;cases g with
   |rw i=>calc mk2.elim
   |zr=>calc mk2.elim
   |nm h x=>calc#[_,aaL,_,aaM,aw pi.b (j6 (.nm h x,o)) (some (.ob G.a1)) b6,inner _ λb6=>#[_,_,b6,by rw[es],by rw[es]]]
   |cl h y c=>exact#[_,aaL,_,aaL,aw pi.b (j6 (.cl h y c,o)) (some (.ob G.a2)) b6,inner _ λb6=>#[_,_,b6,by rw[es],by rw[es]]]
   rintro ρ s ⟨b4,b5,b6,rfl,rfl⟩;rw[bN,Fo];let(g1,_,g2,g3,g4):=u7 hn Yw hmi (I.bool false);generalize VZ:(jm rs rs.length).foldl mD {p with b:=false}=p' at g1 g2 g3 g4;show#[_,?_,p',p'.b,b4,b5,b6,9,9,g1,9,λz=>?_];change (if p'.b=true then mu 6 N p'+1 else 0)<mu 6 N p+1;split
   rename_i z
   rcases g3 z with q|q
   cases q;have:=Pr g2 q;change mu 6 N p'+1<mu 6 N p+1;have e:mu 6 N {p with b:=false}=mu 6 N p:=rfl
   lia
   lia
   let(e1,e2):=g4 z;rw[e1];calc e2
end
end cj
namespace VT
open PySem PySem.Spec PyProof.Rows L2
def Yx(i j:Nat)(f:En->(Φ->Prop)->Prop):FS:=λd ρ=>f ρ λus=>E2 λt1 t2=>us=[t1,t2]/\d.nx ((ρ.set i (some (t1,true))).set j (some (t2,true)))
section
theorem NV{tm:qab}{t1 t2:T}{p a1 a2:Addr}(I:az K Z tm O ρ σ H)(D:DQ K H H' (av Z O) [t1,t2] p [a1,a2])(h1:aZ Z i)(h2:aZ Z j) :
  az K Z tm ((O.set i (some a1)).set j (some a2)) ((ρ.set i (some (t1,true))).set j (some (t2,true))) ((σ.set i (some (.ref a1))).set j (some (.ref a2))) H':=by
 have n1:=D.new a1 d_;have n2:=D.new a2 (fZ _ d_);have ne:a1≠a2:=λz=>by have:=D.nd;rw[z] at this;simp at this
 have r:=D.Zy;cases r with
 |cons r1 r=>cases r with
   |cons r2 _=>
     let(u1,e1,_):=r1.mut;let(u2,e2,_):=r2.mut;have sm:aO (upd H a2 u2) H':=λb o e=>by by_cases z:b=a2;subst z;rw[aA] at e;cases e;calc e2;rw[au z] at e;exact D.same _ _ e
     have J:=(I.BB n2 (aG n2) (aA (H:=H) (a:=a2) (o:=u2))).BB (a:=a1) (by rw[au ne];calc n1) sm e1;let(_,x1,y1):=I.fresh n1;let(_,x2,y2):=I.fresh n2;have J1:=J.QZ (i:=i) (t:=t1) h1 (r1.bq λb hb=>?_) y1 (λz=>(cT.mp z).elim ne x1);show J1.QZ (i:=j) (t:=t2) h2 (r2.bq λb hb=>?_) y2 x2;rcases fu.mp hb with z|z
     let(k,hk):=Kj.mp (aC.mp z);rcases get_set hk with⟨rfl,e,_⟩|⟨_,e⟩
     cases e;calc fW _ d_;calc gE _ (fW _ (aC.mpr (dX e)));rcases cT.mp z with z|z
     rw[z];calc fW _ (fZ _ d_);calc gE _ (gE _ z);rcases fu.mp hb with z|z
     calc gE _ (fW _ z);rcases cT.mp z with z|z
     rw[z];calc fW _ d_;rcases cT.mp z with z|z
     rw[z];calc fW _ (fZ _ d_);calc gE _ (gE _ z)
def NW{f:En->(Φ->Prop)->Prop}{px py pt pos:Pos}{kt}(hc:X.calm=true)(hN:X.N.Nodup)(hi:X.N[i]?\x)(hj:X.N[j]?\y)(hx:Loc 29 x)(hy:Loc 29 y)(h1:aZ Z i)(h2:aZ Z j)(he:VD X Z e f)(Wx:X.fn x=true\/X.env.scope.names.lookup x\.local:=by first|calc .inl rfl|calc .inr rfl|assumption)(Wy:X.fn y=true\/X.env.scope.names.lookup y\.local:=by first|calc .inl rfl|calc .inr rfl|assumption)(s1:(assignEach [.Name x px,.Name y py] 3).map (·.2)=assign (.Name x px) 3::(assignEach [.Name y py] 3).map (·.2):=by rfl)(s2:(assignEach [.Name y py] 3).map (·.2)=assign (.Name y py) 3::(assignEach [] 3).map (·.2):=by rfl)(hn:(assignEach [.Name x px,.Name y py] 3).length=2:=by rfl)(C5:(assignEach [.Name x px,.Name y py] 3).findIdx? (·.1)=none:=by rfl)(hs:swapsWithSole [.Tuple [.Name x px,.Name y py] kt pt] e pos.line 3=pure false:=by rfl)(hw:swappedStores [.Tuple [.Name x px,.Name y py] kt pt] e 3=pure none:=by rfl)(ha:(assignEach [.Tuple [.Name x px,.Name y py] kt pt] 3).map (·.2)=[assign (.Tuple [.Name x px,.Name y py] kt pt) 3]:=by rfl) :
  VS X Z (.Assign [.Tuple [.Name x px,.Name y py] kt pt] e pos) (Yx i j f):=.mk λtm=>
 PS.weak (y9 (he tm) (Fz hc (oB (s_ hN hi hx Wx) (oB (s_ hN hj hy Wy) Bi s2) s1) hn C5) hs hw ha) λD σ H #[ρ,O,d,I,q,F] =>
  #[ρ,O,_,I,q,λus #[t1,t2,eu,hq] p ls H' Dp=>by
    subst eu;have hl:=Ko Dp.Zy
    match ls,hl,Dp with
    |[a1,a2],_,Dp=>calc#[p,[.ref a1,.ref a2],9,dO.of Dp.tup,9,_,_,9,_,_,9,9,F.nx _ _ _ _ (NV I Dp h1 h2) hq]]
end
end VT
namespace cj
open PySem L2 VT Gen K5 Lay BS x8 MK
open PySem.Builtin (bitOr bitAnd)
def Tn(E:List Ent):List Ent:=E.filter λe=>decide (e.2 > 0)
def JN(ts:Φ)(q:qam):Prop:=E4 λ(E F:List Ent) (o1 o2:Obj)=>ts=[qm o1 E,qm o2 F]/\(E.map (·.1)).Nodup/\(F.map (·.1)).Nodup/\E.length<=100000/\F.length<=100000/\∀bs cs:List Ent,bs.Perm (Tn E)->cs.Perm (Tn F)->q (.vw (.tup [.lst (bs.map hV),.lst (cs.map hV)]))
def JO(E:List Ent):(E.zipIdx.filter λp=>decide (p.1.2 > 0)).map (λp:Ent×Nat=>hV p.1)=(Tn E).map hV:=by
 unfold Tn;have key:∀(l:List (Ent×Nat)),(l.filter λp=>decide (p.1.2 > 0)).map (λp:Ent×Nat=>hV p.1)=((l.map Prod.fst).filter λe=>decide (e.2 > 0)).map hV:=λl=>by
  induction l with
  |nil=>rfl
  |cons p l ih=>
   rw[fj,TQ,TQ];cases decide (p.1.2 > 0) with
   |true=>rw[ι 9,ι 9,fj,fj,ih]
   |false=>rw[θ jq,θ jq,ih]
 rw[key,List.zipIdx_map_fst]
section
abbrev vV:ω:=["_law_names","_law_cells","_law_first"]
def yI:aI vV qaV (aq vL):=L2.gL
def yJ:(vV++(["_law_key_here"]:ω)).Nodup:=by decide +kernel
def yK:(vV++(["_law_key_here"]:ω)).Nodup:=by decide +kernel
def JP(D:Df K mg "_law_table" vL qaV f fd)(M:EC mg):cp P w K mg base "_law_table" qaV 1 (cH K 2 JN):=by
 show D.gQ (jJ D.F yI 9 λbP A outer s H E Ox hr ts q hG=>?_);have nd:=yI.nd;have hu:=bA.dG hr;have np:∀{i:Nat},aZ #[H,[],Ox] i:=gR;have hJ:=je hu;show#[_,(ah (aF (i:=2) nd 9 7 (v9 (aU (TP.iq false) (TP.ji false) 18 M.sorted jo (aK (ν (eC (ts:=qaN) 9 18 (x3 (ai 0)) (λ_ _ _ _ _ _=>(ay (i:=03) yJ 9 7 np)) (λ_ _ _ _ _ _=>(gf (rN (ν (oa hJ (ae 0) (ae 03))) 14))) (λ_ _ _ _ _ _=>(υ (aT (aa (υ (ar (uO (ae 03)) 14)) (aa (υ (ar (uO (ae 03)) 14)) (aa (υ (oa hJ (ae 0) (ae 03))) aj)))))))) aS))) np)
  (ak (aL (v9 (aT (aa (ai 2) (aa (υ (aU (TP.iq false) (TP.ji false) 18 M.sorted jo (aK (ν (eC (ts:=qaN) 9 18 (x3 (ai 1)) (λ_ _ _ _ _ _=>(ay (i:=03) yK 9 7 np)) (λ_ _ _ _ _ _=>(gf (rN (ν (oa hJ (ae 1) (ae 03))) 14))) (λ_ _ _ _ _ _=>(υ (aT (aa (υ (ar (uO (ae 03)) 14)) (aa (υ (ar (uO (ae 03)) 14)) (aa (υ (oa hJ (ae 1) (ae 03))) aj)))))))) aS))) aj))))))),λ_=>?_]
 let(E,F,o1,o2,rfl,n1,n2,l1,l2,hq):=hG;have ep:∀(E:List Ent)(o:Obj),pN o (cu E)=E.zipIdx.map λp=>.pin (nK o p.2) (HH (kK p.1.1)):=λE o=>by unfold pN cu;rw[List.zipIdx_map,rA];rfl
 have pl:∀(E:List Ent)(o:Obj),E.length<=100000->(pN o (cu E)).length<=sizeLine:=λE o h=>by rw[xZ];unfold cu;rw[bN,π];lia
 have lp:∀E:List Ent,(Tn E).length<=E.length:=λE=>TK _ _;have tr:∀(E:List Ent),∀t∈(Tn E).map hV,TP.Xi false t:=λE t ht=>by let(x,_,rfl):=gH.mp ht;exact#[_,_,_,9,#[_,9]]
 show#[9,pl E o1 l1,?_];change dh _ _ _ _ (pN o1 (cu E)) _;rw[ep];show c7 (u:=λp:Ent×Nat=>hV p.1) (p:=λp=>decide (p.1.2 > 0)) (λ_ _ _ _ _=>trivial) (λp hp r s hr=>?_) ?_;let(e,i):=p;have hi:E[i]?\e:=List.mem_zipIdx_iff_getElem?.mp hp;have hk:(cu E)[i]?\kK e.1:=by unfold cu;rw[dQ,hi];rfl
 have hg:=uU n1 (dX hi);show#[i,kK e.1,.int e.2,9,hk,hg,?_];change if decide (e.2 > 0)=true then _ else s
 by_cases z:decide (e.2 > 0)=true;rw[ι z] at hr ⊢;calc#[_,aaL,_,aaM,i,kK e.1,.int e.2,9,hk,hg,bH 4,hr];rw[θ z] at hr ⊢;calc hr;change TP.HG false [.lst ((E.zipIdx.filter λp=>decide (p.1.2 > 0)).map (λp:Ent×Nat=>hV p.1))] _;rw[JO];show#[_,9,by rw[bN];calc jS (lp E) l1,tr E,λzs hz=>?_];let(bs,pb,rfl):=g8 _ hz 9;show#[9,pl F o2 l2,?_];change dh _ _ _ _ (pN o2 (cu F)) _;rw[ep];show c7 (u:=λp:Ent×Nat=>hV p.1) (p:=λp=>decide (p.1.2 > 0)) (λ_ _ _ _ _=>trivial) (λp hp r s hr=>?_) ?_;let(e,i):=p;have hi:F[i]?\e:=List.mem_zipIdx_iff_getElem?.mp hp;have hk:(cu F)[i]?\kK e.1:=by unfold cu;rw[dQ,hi];rfl
 have hg:=uU n2 (dX hi);show#[i,kK e.1,.int e.2,9,hk,hg,?_];change if decide (e.2 > 0)=true then _ else s
 by_cases z:decide (e.2 > 0)=true;rw[ι z] at hr ⊢;calc#[_,aaL,_,aaM,i,kK e.1,.int e.2,9,hk,hg,bH 4,hr];rw[θ z] at hr ⊢;calc hr;show#[(Tn F).map hV,by change [T.lst ((F.zipIdx.filter λp=>decide (p.1.2 > 0)).map (λp:Ent×Nat=>hV p.1))]=_;rw[JO],by rw[bN];calc jS (lp F) l2,tr F,λzs hz=>?_];let(cs,pc,rfl):=g8 _ hz 9;calc#[bH 4,hq bs cs pb pc]
end
def CD{f:α->T}{xs:List α}(h:xs≠[])(x:Int):0<((xs.map f).length:Int)/\∃y∈xs,iW (xs.map f) (x % ((xs.map f).length:Int))\f y:=by
 have hl:=Uy.mpr h;rw[bN];have hp:(0:Int)<(27:Int):=by lia
 let(j,hj):=oq (rq x (Int.ne_of_gt hp));have dc:j<27:=by have:=y0 x hp;lia
 show#[hp,xs[j],CU dc,?_];rw[hj];show ag ?_;rw[dQ,gq dc];rfl
def yL{f g:FE}{d:LR}{E:List Ent}{k:Int×Str}{v:Int}(h0:ρ[n]?\some (.dt (cu E) (cQ E),true))(hf:∀Q:T->Prop,Q (.int v)->f ρ Q)(hg:∀Q:T->Prop,Q (.kt (kK k))->g ρ Q)(hl:E.length<16777216)(hq:d.nx (ρ.set n (some (.dt (cu (dJ E k v)) (cQ (dJ E k v)),true)))):vS n f g d ρ:=by unfold vS;rw[h0];show hf _ (hg _ #[by unfold cQ;rw[bN];calc hl,?_]);rw[uS E k v,eS];calc hq
def CF(x:Int)(y:Nat)(hx:0<=x):0<bitOr x (1 * 2 ^ y):=by
 have h0:0<=bitOr x (1 * 2 ^ y):=Pq hx (by rw[Int.one_mul];calc Int.le_of_lt (two_pos y));have h1:ib (bitOr x (1 * 2 ^ y)) y=true:=e_ _ _ y (by rw[uQ];calc ο 9);rcases Int.lt_or_eq_of_le h0 with z|z
 calc z;rw[<- z,BS.dI] at h1;cases h1
structure Lw(rs:qal)(ys:ω):Prop where
 pg:Pg rs
 p5:∀r∈rs,(vT r).length<=05
 nw:∀x,Rw.new x∈rs->Txt.startswith x "."=false
 y6:ys.length=06
 yl:∀y∈ys,y.length<=100
def JQ(ts:Φ)(q:Φ->Prop):Prop:=E3 λ(ns:qan) (rs:qal) (ys:ω)=>ts=[.lst (ns.map .int),.lst 50,.lst (ys.map .str)]/\ns.length<=63/\Lw rs ys/\∀E F,Tab false 6 E->Tab true 6 F->E.length<=63->F.length<=63->q [.dt (cu E) (cQ E),.dt (cu F) (cQ F)]
abbrev To(ns:qan)(rs:qal)(ys:ω)(ps:List (Nat×Str))(E F:List Ent)(b7 b8 b9 om:Option (T×Bool)):En:=[vw (.lst (ns.map .int)),vw (.lst 50),vw (.lst (ys.map .str)),some (.dt (cu E) (cQ E),true),some (.dt (cu F) (cQ F),true),vw (.lst (Uk (KD rs))),vw (.lst (ps.map prK)),b7,b8,b9,om]
def Yy(ns:qan)(rs:qal)(ys:ω):FS:=λd ρ=>E7 λ(ps:List (Nat×Str)) (E F:List Ent) (b7 b8:Option (T×Bool)) (y:Nat) (k:Int×Str)=>ρ=To ns rs ys ps E F b7 b8 (vw (.int (1 * 2 ^ y))) (vw (.kt (kK k)))/\Tab false 6 E/\Tab true 6 F/\E.length<=100/\F.length<=100/\(0<=k.1/\k.1<(6:Int))/\y<6 /\
 ∀E' F',Tab false 6 E'->Tab true 6 F'->E'.length<=E.length+1->F'.length<=F.length+1->d.nx (To ns rs ys ps E' F' b7 b8 (vw (.int (1 * 2 ^ y))) (vw (.kt (kK k))))
section
abbrev CG:ω:=["_law_script","_law_program_here","_law_words_here","_law_names","_law_cells","_law_news","_law_pairs_here","_law_cell","_law_number","_law_some","_law_key_here"]
def yM:aI CG qaW (aq vN):=L2.gL
def m_:(CG++(["_law_k","_law_row"]:ω)).Nodup:=by decide +kernel
def JR(D:Df K mg "_law_seeds" vN qaW f fd)(M:EC mg)(NX:cp P w K mg base "_law_pairs" qaO 2 (cH K 1 JJ)):cp P w K mg base "_law_seeds" qaW 03 (Mm K 03 JQ):=by
 show D.gQ (fnD D.F yM 9 5 λbP A outer s H E Ox hr ts q hG=>?_);have nd:=yM.nd;have hu:=bA.dG hr;have np:∀{i:Nat},aZ #[H,[],Ox] i:=gR;have hJ:=je hu;let(ns,rs,ys,rfl,h63,L,hq):=hG;have hn:=L.pg.le;show#[_,(cS (cN (i:=03) nd 9 7 (v9 pQ) np)
  (cS (cN (i:=04) nd 9 7 (v9 pQ) np)
  (cS (BA (i:=05) (ts:=["_law_k","_law_row"]) nd 9 7 9 18 (ie 18 M.enumerate (ai 1)) (λ_ _ _ _ _ _=>(cX (n:=2) 9 (aH (ay (i:=11) m_ 9 7 np) (aH (ay (i:=12) m_ 9 7 np) b_)))) (λ_ _ _ _ _ _=>(gf (bt hu (ν (ar (ae 12) 14)) (ν ax)))) (λ_ _ _ _ _ _=>(ai 11)) np)
  (cS (aF (i:=06) nd 9 7 (v9 (aN NX hr (aa (ai 1) aj))) np)
  (cS (cg kr 9 (dq (υ (gO (ae 0) (eX 14) (eX 14)))) (ay (i:=07) nd 9 7 np)
   (ak (bb (VW.vc (c6 (i4 hu (ae 05) (ν (bD aj))) (cz (rN (ν (bo (ae 07) 14)) 14))))
    (ah (aF (i:=08) nd 9 7 (v9 (bo (ν (fD (ν (bx (ae 07) 14)) 14)) 14)) np)
    (ah (aF (i:=09) nd 9 7 (v9 (oS 14 (ν (ar (ae 05) (ν (bo (ae 08) (ν (aU bf bh 18 M.len ny (aK (ae 05) aS))))))))) np)
    (ak (bb (bt hu (ν (bo (ae 07) 14)) 14)
     (ah (aF (i:=10) nd 9 7 (v9 (ar (ae 06) (ν (bo (ν (bx (ae 08) 14)) (ν (aU bf bh 18 M.len ny (aK (ae 06) aS))))))) np)
     (iQ.weak (u:=(Yy ns rs ys)) (ak (yD 03 hJ (υ (i0 (ν (d8 hJ (ae 03) (ai 10) (υ af) #[9,9,9,9])) (ae 09))) (ai 10))) ?w1))
     (ah (aF (i:=10) nd 9 7 (v9 (cq (aa (υ (ar (ae 05) (ν (bo (ν (bx (ae 08) 14)) (ν (aU bf bh 18 M.len ny (aK (ae 05) aS))))))) (aa (υ (ar (ν (bD (aa (υ ax) (aa (υ (cf (ν ax) (ν (ar (ae 2) 14)))) (aa (υ (cf (ν ax) (ν (ar (ae 2) 14)))) aj))))) (ν (bo (ν (bx (ae 08) 14)) 14)))) aj)))) np)
     (iQ.weak (u:=(Yy ns rs ys)) (ak (yD 04 hJ (υ (i0 (ν (d8 hJ (ae 04) (ai 10) (υ af) #[9,9,9,9])) (ae 09))) (ai 10))) ?w2))))))
    aM)))
  (BR (is:=[03,04]) 9 #[_,_,03,_,9,9,9,Or.inl 9,by decide,by decide,9,#[_,_,04,_,9,9,9,Or.inl 9,by decide,by decide,9,9]] 5 5)))))),λ_=>?main]
 case w1=>
  rintro d ρ ⟨ps,E,F,b7,b8,y,k,rfl,tE,tF,lE,lF,hk,hy,fin⟩;show yL (E:=E) (k:=k) (v:=bitOr (ba E k) (1 * 2 ^ y)) 9 (λQ h=>A3 (λq h=>by change q ((cx (cu E) (cQ E) (kK k)).getD (.int 0));rw[eM];calc h) (λq h=>h) h) (λQ h=>h) () ?_;exact fin _ _ (tE.put #[hk.1,λ_=>hk.2] (CF _ _ (tE.get _).1) (lu (tE.get _) (ki hy))) tF (CC _ _ _) (KO _)
 case w2=>
  rintro d ρ ⟨ps,E,F,b7,b8,y,k,rfl,tE,tF,lE,lF,hk,hy,fin⟩;show yL (E:=F) (k:=k) (v:=bitOr (ba F k) (1 * 2 ^ y)) 9 (λQ h=>A3 (λq h=>by change q ((cx (cu F) (cQ F) (kK k)).getD (.int 0));rw[eM];calc h) (λq h=>h) h) (λQ h=>h) () ?_;exact fin _ _ tE (tF.put #[hk.1,λ_=>hk.2] (CF _ _ (tF.get _).1) (lu (tF.get _) (ki hy))) (KO _) (CC _ _ _)
 case main=>
  have OZ:plainT (.lst (Uk (KD rs)))=true:=by simp only[plainT];exact fH (λ_=>rfl) _
  have zR:dep (.lst (Uk (KD rs)))<=100:=by have:oP (Uk (KD rs))<=0:=i9 (f:=λ(k:Nat)=>T.int (k:Int)) (n:=0) (λ_=>cD _) _;simp only[dep];lia
  have xT:∀y∈KD rs,y<6:=λy hy=>nP.mp (yT.mp hy).1;show#[9,?_];change (dF 50).length<=sizeLine/\dh _ _ _ _ (dF 50) _;rw[AX];show#[by rw[bN,sV];calc bH (),c7 (u:=λ(k:Nat)=>T.int (k:Int)) (p:=Ys rs) (λ_ _ _ _ _=>trivial) (λj hj k s hk=>?_) ?_];obtain⟨r,cw⟩:∃r,rs[j]?\r:=#[_,gq (nP.mp hj)];rw[TH,cw];unfold Ys at hk;rw[cw] at hk;show#[9,9,?_];cases r<;>calc#[_,aaL,hk];show#[9,rs,9,L.pg,L.p5,L.nw,λps hps=>?_];let(ms,Yl,hms):=eQ.vF T.int ns (some 33) (some 43);change iF (oV (ns.map T.int) (some 33) (some 43)) _ _ _ _;rw[Yl];show cF (f:=T.int) (xs:=ms) (λi ρ=>E6 λ(E F:List Ent) (b7 b8 b9 om:Option (T×Bool))=>ρ=To ns rs ys ps E F b7 b8 b9 om/\Tab false 6 E/\Tab true 6 F/\E.length<=i/\F.length<=i) #[[],[],none,none,none,none,9,Tab.nil _ _,Tab.nil _ _,cD _,cD _] ?_ ?_;rintro i c ρ hc ⟨E,F,b7,b8,b9,om,rfl,tE,tF,lE,lF⟩;have hi:i<ms.length:=(dA.mp hc).1;show#[gJ _,OZ,9,zR,?_];by_cases hz:KD rs=[];show i7 (c:=!eqT (.lst (Uk (KD rs))) (.lst [])) (by rw[hz];rfl) ?_;calc i7 (c:=false) 9 #[E,F,_,b8,b9,om,9,tE,tF,(),()];have aeh:ps≠[]:=hps.2.1 hz;show uc (c:=!eqT (.lst (Uk (KD rs))) (.lst [])) (by cases e:KD rs with|nil=>calc absurd e hz|cons=>rfl) #[by decide,cO (λ_=>?_) (λ_=>#[E,F,_,b8,b9,om,9,tE,tF,(),()])];show#[#[by decide,by decide],.inr #[by decide,by decide],by decide,?_];generalize c / 03 * 48271 % 65521=m;let(g1,y,hy,g2):=CD (f:=λ(k:Nat)=>T.int (k:Int)) hz m;have hyn:=xT y hy;show#[g1,_,g2,#[(),(),by decide],by decide,?_];rw[kA];show wL (λ_=>?_) (λ_=>?_);let(g3,p,hp,g4):=CD (f:=prK) aeh (m / 60);have hpn:=hps.1 p hp;show#[#[by decide,by decide],g3,_,g4,?_];calc#[ps,E,F,_,_,y,nk p.1 p.2,9,tE,tF,(),(),#[by change (0:Int)<=(p.1:Int);lia,by change (p.1:Int)<_;lia],hyn,λE2 F2 h1 h2 h3 h4=>#[E2,F2,_,_,_,_,9,h1,h2,(),()]];let(g3,z,Xh,g4):=CD (f:=λ(k:Nat)=>T.int (k:Int)) hz (m / 60);have hzn:=xT z Xh;show#[#[by decide,by decide],g3,_,g4,?_];obtain⟨w0,hw0⟩:∃w,ys[0]?\w:=#[_,gq (by have:=L.y6;lia)];obtain⟨w1,hw1⟩:∃w,ys[1]?\w:=#[_,gq (by have:=L.y6;lia)];have m0:=L.yl w0 (dX hw0);have m1:=L.yl w1 (dX hw1);have dl:(Str.ofString ".").length=1:=by decide +kernel
  show#[.str w0,ag (j:=0) (by rw[dQ,hw0];rfl),by change (Str.ofString ".").length+w0.length<=sizeLine;calc bH (),.str w1,ag (j:=1) (by rw[dQ,hw1];rfl),by change (Str.ofString ".").length+w1.length<=sizeLine;calc bH (),bH 4,#[by decide,by decide],by decide,?_];let(_,cl,oK,g5):=CD (f:=T.str) (xs:=[Str.ofString "#",Str.ofString "."++w0,Str.ofString "."++w1]) 4 (m / 3600);show#[_,g5,bH 4,?_];calc#[ps,E,F,_,_,y,nk z cl,9,tE,tF,(),(),#[by change (0:Int)<=(z:Int);lia,by change (z:Int)<_;lia],hyn,λE2 F2 h1 h2 h3 h4=>#[E2,F2,_,_,_,_,9,h1,h2,(),()]];rintro ρ ⟨E,F,b7,b8,b9,om,rfl,tE,tF,lE,lF⟩;calc hq E F tE tF () ()
end
end cj
namespace cV
open PySem L2 VT Gen K5 Lay BS x8 MK
abbrev pH(i:Int)(x:Str):Int×Str->Bool:=λk=>decide (k=(i,x))
abbrev pK(S:Int)(x:Str):Int×Str->Bool:=λk=>ib S k.1.toNat && decide (k.2=x)
def JS(ts:Φ)(q:qam):Prop:=E4 λ(E F:List Ent) (i:Int) (x:Str)=>ts=[.tup [.lst (E.map hV),.lst (F.map hV)],.int i,.str x]/\q (.vw (.int (qF (pH i x) E)))
def JT(ts:Φ)(q:qam):Prop:=E4 λ(E F:List Ent) (S:Int) (x:Str)=>ts=[.tup [.lst (E.map hV),.lst (F.map hV)],.int S,.str x]/\(∀e∈F,0<=e.1.1)/\q (.vw (.int (qF (pK S x) F)))
section
abbrev NY:ω:=["table","home","name","told","part"]
def yN:aI NY qaX (aq vb):=L2.gL
def JU(D:Df K mg "holds" vb qaX f fd):cp P w K mg base "holds" qaX 1 (cH K 03 JS):=by
 show D.gQ (jJ D.F yN 9 λbP A outer s H E Ox hr ts q hG=>?_);have nd:=yN.nd;have hu:=bA.dG hr;have np:∀{i:Nat},aZ #[H,[],Ox] i:=gR;show#[_,(ah (aF (i:=03) nd 9 7 (v9 af) np)
  (ah (cg kr 9 (dq (υ (ar (ae 0) 14))) (ay (i:=04) nd 9 7 np)
   (ak (bb (VW.vc (c6 (bt hu (ν 35) (ae 1)) (cz (bt hu (ν 35) (ae 2)))))
    (ak (tR (i:=03) nd 9 7 (ν 35) zd nT np))
    aM)))
  (ak (aL (v9 (VE.vp (ai 03))))))),λ_=>?_]
 let(E,F,i,x,rfl,hq):=hG;show#[_,aaL,?_];change iF (E.map hV) _ _ _ _;show cF (λn ρ=>E2 λv b4=>ρ=[aJ (.tup [.lst (E.map hV),.lst (F.map hV)]),aJ (.int i),aJ (.str x),aJ (.int v),b4]/\v=qF (pH i x) (E.take n)) #[_,none,9,9] ?_ ?_;rintro n e ρ he ⟨_,b4,rfl,rfl⟩;have hs:=uT (p:=pH i x) he;show#[_,aaL,cO (λz1=>#[_,aaM,cO (λz2=>?_) (λz2=>?_)]) (λz1=>?_)];have hp:pH i x e.1=true:=ο (Prod.ext z1 z2);show#[_,aaN,_,_,9,?_];rw[hs];unfold B';rw[ι hp];have hp:¬ pH i x e.1=true:=λz=>z2 (by rw[χ z]);show#[_,_,9,?_];rw[hs];unfold B';rw[θ hp];have hp:¬ pH i x e.1=true:=λz=>z1 (by rw[χ z]);show#[_,_,9,?_];rw[hs];unfold B';rw[θ hp];rintro ρ ⟨_,b4,rfl,rfl⟩;rw[Fo];calc hq
abbrev NZ:ω:=["table","rows","kind","told","part"]
def yO:aI NZ qaY (aq vd):=L2.gL
def JV(D:Df K mg "keeps" vd qaY f fd)(IH:cp P w K mg base "has" qay 1 (cH K 2 lq)):cp P w K mg base "keeps" qaY 2 (cH K 03 JT):=by
 show D.gQ (jJ D.F yO 9 λbP A outer s H E Ox hr ts q hG=>?_);have nd:=yO.nd;have hu:=bA.dG hr;have np:∀{i:Nat},aZ #[H,[],Ox] i:=gR;show#[_,(ah (aF (i:=03) nd 9 7 (v9 af) np)
  (ah (cg kr 9 (dq (υ (ar (ae 0) 14))) (ay (i:=04) nd 9 7 np)
   (ak (bb (VW.vc (c6 (dY (aN IH hr (aa (ai 1) (aa (υ 35) aj)))) (cz (bt hu (ν 35) (ae 2)))))
    (ak (tR (i:=03) nd 9 7 (ν 35) zd nT np))
    aM)))
  (ak (aL (v9 (VE.vp (ai 03))))))),λ_=>?_]
 let(E,F,S,x,rfl,Se,hq):=hG;show#[_,aaM,?_];change iF (F.map hV) _ _ _ _;show cF (λn ρ=>E2 λv b4=>ρ=[aJ (.tup [.lst (E.map hV),.lst (F.map hV)]),aJ (.int S),aJ (.str x),aJ (.int v),b4]/\v=qF (pK S x) (F.take n)) #[_,none,9,9] ?_ ?_;rintro n e ρ he ⟨_,b4,rfl,rfl⟩;have hs:=uT (p:=pK S x) he;have h0:=Se e (dX he);show#[_,aaL,9,S,e.1.1.toNat,by rw[Int.toNat_of_nonneg h0];rfl,wL (λz1=>#[_,aaM,cO (λz2=>?_) (λz2=>?_)]) (λz1=>?_)];have hp:pK S x e.1=true:=by change (_ && _)=true;rw[z1,ο z2];rfl
 show#[_,aaN,_,_,9,?_];rw[hs];unfold B';rw[ι hp];have hp:¬ pK S x e.1=true:=λz=>z2 (by rw[iO] at z;calc χ z.2);show#[_,_,9,?_];rw[hs];unfold B';rw[θ hp];have hp:¬ pK S x e.1=true:=λz=>z1 (by rw[iO] at z;calc z.1);show#[_,_,9,?_];rw[hs];unfold B';rw[θ hp];rintro ρ ⟨_,b4,rfl,rfl⟩;rw[Fo];calc hq
end
end cV
namespace VT
open PySem PySem.Spec PyProof.Rows L2
end VT
namespace cj
open PySem L2 VT Gen K5 Lay BS x8 MK
open PySem.Builtin (bitOr bitAnd)
def N0(ts:Φ)(q:qam):Prop:=∃ns:qan,ts=[.lst (ns.map .int)]/\ns.length<=63/\q (.vw (.bl true))
def CH(h:nQ.cZ x=true):x.length<=08:=by
 unfold nQ.cZ at h;simp only[iO,aaj] at h
 lia
def PY{k:Ky}(h:X' k):Nm.Hu (nY k):=by
 cases k with
 |fld x=>exact .inl #[_,9,by
  have:=CH h;have e:(((".":String):Str)++x).length=1+x.length:=by change (((".":String):Str).cps++x.cps).size=_;rw[Array.size_append];rfl
  rw[e];lia]
 |op o=>cases o with
  |nm y=>calc .inl #[_,9,by have:=CH h;lia]
  |nu i=>calc .inr #[i,9]
theorem CI(p:Pg rs):∀r∈rs,cV.XG rs r/\cV.XF r:=λr hr=>by
 have hk:=p.ky r hr;cases r with
 |get x y k=>calc#[trivial,PY hk]
 |set y k o=>calc#[trivial,PY hk]
 |call x g as=>calc#[p.cl x g as hr,trivial]
 |_=>calc#[trivial,trivial]
structure TC(rs:qal)(p:Tb)(bs cs:List Ent):Prop where
 tb:Tab false 6 bs
 tc:Tab true 6 cs
 lb:bs.length<=100000
 lc:cs.length<=100000
 cl:(bM rs bs cs 6).b=false
 eg:Tb.get #[bs,cs,false]=p.get
def PZ(hn:6<=60){N:List Mv}(hN:N.length<=1000){p:Tb}(I:Iv 6 N p)(oK:∀m∈jC rs,Fh p.get m){f:Ent->Bool}(hf:∀e:Ent,0<=e.2->(f e=true↔e.2≠0)){bs cs:List Ent}(pb:bs.Perm (p.E.filter f))(pc:cs.Perm (p.F.filter f)):TC rs p bs cs:=by
 have l1:=I.Il;have l2:=I.Im;have l3:N.length * (6+1)<=1000 * 61:=UJ hN ();have b1:∀e∈p.E,below 6 e.2:=λe he=>by rw[<- get_mem I.nE he];exact I.bl true e.1
 have b2:∀e∈p.F,below 6 e.2:=λe he=>by rw[<- get_mem I.nF he];exact I.bl false e.1
 have nd:∀{E:List Ent},(E.map (·.1)).Nodup->((E.filter f).map (·.1)).Nodup:=λ{E} h=>(List.Sublist.map _ (List.filter_sublist (l:=E))).nodup h;have tb:Tab false 6 bs:=Tab.perm (E:=p.E.filter f) #[nd I.nE,λe he=>by
  let(h1,h2):=yT.mp he;have hb:=b1 e h1;have h3:=(hf e hb.1).mp h2;let(mv,_,hk):=sW.mp (I.kE e h1);show#[#[?_,λz=>nomatch z],by have:=hb.1;lia,hb];let(g,o):=mv;cases g with
  |nm h x=>rw[f6.mp hk];calc Uz h
  |_=>cases hk] pb
 have tc:Tab true 6 cs:=Tab.perm (E:=p.F.filter f) #[nd I.nF,λe he=>by
  let(h1,h2):=yT.mp he;have hb:=b2 e h1;have h3:=(hf e hb.1).mp h2;let(mv,_,hk):=sW.mp (I.kF e h1);have BE:0<=e.1.1/\e.1.1<(6:Int):=by
   let(g,o):=mv;cases g with
   |cl h y c=>let(j,hj,ej):=gH.mp hk;rw[<- ej];calc#[Uz j,by have:=nP.mp hj;change (j:Int)<_;lia]
   |_=>cases hk
  calc#[#[BE.1,λ_=>BE.2],by have:=hb.1;lia,hb]] pc
 have eg:Tb.get #[bs,cs,false]=p.get:=funext λw=>funext λk=>by
  cases w with
  |true=>calc yH tb.nd I.nE (λe he=>by rw[pb.mem_iff,yT];calc#[λh=>h.1,λh=>#[h,(hf e (b1 e h).1).mpr he]]) k
  |false=>exact yH tc.nd I.nF (λe he=>by rw[pc.mem_iff,yT];calc#[λh=>h.1,λh=>#[h,(hf e (b2 e h).1).mpr he]]) k
 have hc:∀m'∈jC rs,Fh (Tb.get #[bs,cs,false]) m':=λm' hm=>by rw[eg];exact oK m' hm
 show#[tb,tc,by rw[pb.length_eq];have:=TK f p.E;lia,by rw[pc.length_eq];have:=TK f p.F;lia,?_,eg];calc (sr (AZ (jC rs) tb tc) hc 6 (cD _)).1
def CJ{E:List Ent}{q:Int×Str->Bool}{k:Int×Str}(h:q k=true):sub (ba E k) (qF q E):=λb hb=>by
 have hz:ba E k≠0:=λz=>by rw[z,BS.dI] at hb;cases hb
 let(e,he,ek,ev):=d9 E hz;unfold qF;rw[Ap,UG];show .inr (KL.mpr #[e,he,?_]);rw[ek,h,ev,hb];rfl
def Yz{p0 p:Tb}{as ds bs cs:List Ent}(A:TC rs p0 as ds)(B:TC rs p bs cs)(h:∀w k,sub (p0.get w k) (p.get w k)):(∀e∈as,∀q:Int×Str->Bool,q e.1=true->bitOr (qF q bs) e.2=qF q bs)/\∀e∈ds,∀q:Int×Str->Bool,q e.1=true->bitOr (qF q cs) e.2=qF q cs:=by have fin:∀(x y:Int),sub y x->bitOr x y=x:=λx y h=>eZ (uR (fR _) h) (gm _ _);show#[λe he q hq=>fin _ _ ?_,λe he q hq=>fin _ _ ?_];have h1:=h true e.1;rw[<- A.eg,<- B.eg] at h1;have h2:sub (ba as e.1) (ba bs e.1):=h1;rw[get_mem A.tb.nd he] at h2;calc mz h2 (CJ hq);have h1:=h false e.1;rw[<- A.eg,<- B.eg] at h1;have h2:sub (ba ds e.1) (ba cs e.1):=h1;rw[get_mem A.tc.nd he] at h2;calc mz h2 (CJ hq)
def YA(hl:ys.length=06)(nd:ys.Nodup)(hn:∀y∈ys,nQ.cZ y=true)(hP:o7 ys pl)(h:Pre ys pl pl.length rs)(le:6<=60):Lw rs ys:=by
 have ok:=RH hl nd hP h;show#[SV h le hn (λp hp=>jS (o9 hl hP p.1 p.2 hp).2 5),λr hr=>?_,λx hx=>nQ.gu (nQ.eW (hn x (ok _ hx))),hl,λy hy=>by have:=CH (hn y hy);lia];have cw:=ok r hr;cases r with
 |df f ps=>change (ps.map _).length<=05;rw[bN];calc jS cw.2.1 5
 |call x g as=>change (as.map Ky.op).length+1<=05;rw[bN];have:=cw.2.2.1;lia
 |_=>simp[vT]
abbrev A5(es fs:List Ent):T:=.tup [.lst (es.map hV),.lst (fs.map hV)]
def aei:FS:=λd ρ=>E11 λ(rs:qal) (p0 p:Tb) (as ds bs cs:List Ent) (b0 b1 b3 b4:Option (T×Bool))=>ρ=[b0,b1,vw (.lst 50),b3,b4,vw (A5 bs cs),vw (A5 as ds),none,none,none,none,none]/\Pg rs/\TC rs p0 as ds/\TC rs p bs cs/\(∀w k,sub (p0.get w k) (p.get w k))/\∀ρ',d.rt ρ' (.vw (.bl true))
section
abbrev YB:ω:=["_law_script","_law_words_here","_law_rows","_law_names","_law_cells","_law_table_here","_law_first","_law_home","_law_name","_law_some","_law_row","_law_kind"]
def JW:aI YB qaZ (aq lH):=L2.gL
def Tp(D:Df K mg "law" lH qaZ f fd)(M:EC mg)(sQ:cp P w K mg base "_law_cell_at" qaF 1 (cH K 2 eQ.PJ))(N1:cp P w K mg base "_law_words" qaG 1 (cH K 2 eQ.Jb))(Tq:cp P w K mg base "_law_plan" qaL 1 (cH K 2 eQ.PR))(EI:cp P w K mg base "_law_program" qaM 05 (cH K 03 eQ.yq))(N3:cp P w K mg base "_law_seeds" qaW 03 (Mm K 03 JQ))(N4:cp P w K mg base "_law_moves" qaO 2 (cH K 1 Jx))(EJ:cp P w K mg base "_law_grown" qaU 03 (qR K [true,true,false] (g2D Yt)))(N5:cp P w K mg base "_law_table" qaV 1 (cH K 2 JN))(JX:cp P w K mg base "makers" qav 06 (Mm K 1 cV.Cq))(yP:cp P w K mg base "closed" qaE 06 (cH K 2 cV.vD))(CK:cp P w K mg base "holds" qaX 1 (cH K 03 cV.JS))(CM:cp P w K mg base "keeps" qaY 2 (cH K 03 cV.JT)):dz P w K mg base iP 07 f fd qaZ (cH K 1 N0):=by
 let(ZT,YC,N6,N7,N8,N9):=N3;let(Ul,Ts,EK,EL,EM,EN):=EJ;let(YD,Um,JY,JZ,J_,Ka):=JX;show jJ D.F JW 9 λbP A outer s H E Ox hr ts q hG=>?_;have nd:=JW.nd;have hu:=bA.dG hr;have np:∀{i:Nat},aZ #[H,[],Ox] i:=gR;show#[_,(ah (aF (i:=1) nd 9 7 (v9 (aN N1 hr (aa (υ (aN sQ hr (aa (ai 0) (aa (υ af) aj)))) (aa (υ af) aj)))) np)
  (ah (aF (i:=2) nd 9 7 (v9 (aN EI hr (aa (υ (gO (ae 0) (eX 14) (eX 14))) (aa (ai 1) (aa (υ (aN Tq hr (aa (υ (aN sQ hr (aa (ai 0) (aa (υ af) aj)))) (aa (ai 1) aj)))) aj))))) np)
  (ah (NW (i:=03) (j:=04) 9 nd 9 9 7 7 np np (uq N9 23 18 N6 N7 N8 (aa (ai 0) (aa (ai 2) (aa (ai 1) aj)))))
  (ah (br (xi EN 23 18 EK EL EM (nV 03 (nV 04 (kW (υ (aN N4 hr (aa (ai 2) aj))) BD)))))
  (uN 03 np (uN 04 np (ah (aF (i:=05) nd 9 7 (v9 (aN N5 hr (aa (ai 03) (aa (ai 04) aj)))) np)
  (ah (aF (i:=06) nd 9 7 (v9 (VD.vp (uq Ka 23 18 JY JZ J_ (aa (ai 2) aj)))) np)
  (iQ.weak (u:=(aei)) (ah (bb (VW.vc (Gf (rW (ν (aN yP hr (aa (ai 2) (aa (ai 05) aj)))) (ν iE)) (zF (rW (ν (aN yP hr (aa (ai 2) (aa (ai 06) aj)))) (ν iE)))))
   (ak (aL (v9 iE)))
   aM)
  (ah (cg kr 9 (dq (υ (ar (ae 06) 14))) (cX (n:=03) 9 (aH (ay (i:=07) nd 9 7 np) (aH (ay (i:=08) nd 9 7 np) (aH (ay (i:=09) nd 9 7 np) b_))))
   (ak (bb (i4 hu (ν (i0 (ν (aN CK hr (aa (ai 05) (aa (ai 07) (aa (ai 08) aj))))) (ae 09))) (ν (aN CK hr (aa (ai 05) (aa (ai 07) (aa (ai 08) aj))))))
    (ak (aL (v9 iE)))
    aM)))
  (ah (cg kr 9 (dq (υ (ar (ae 06) 14))) (cX (n:=03) 9 (aH (ay (i:=10) nd 9 7 np) (aH (ay (i:=11) nd 9 7 np) (aH (ay (i:=09) nd 9 7 np) b_))))
   (ak (bb (i4 hu (ν (i0 (ν (aN CM hr (aa (ai 05) (aa (υ (oS 14 (ae 10))) (aa (ai 11) aj))))) (ae 09))) (ν (aN CM hr (aa (ai 05) (aa (υ (oS 14 (ae 10))) (aa (ai 11) aj))))))
    (ak (aL (v9 iE)))
    aM)))
  (ak (aL (v9 iE)))))) ?w7))))))))),λ_=>?main]
 case main=>
  let(ns,rfl,h63,hq):=hG;have Cu:(c9 (ns.getD 0 0) 06).length=06:=zY _ _;have hnm:∀y∈c9 (ns.getD 0 0) 06,nQ.cZ y=true:=z7;have Ku:(c9 (ns.getD 0 0) 06).Nodup:=xr 5;show#[9,ns,0,9,9,_,06,9,by decide,by decide,?_];generalize c9 (ns.getD 0 0) 06=ys at Cu hnm Ku ⊢;let(ms,Yl,hms):=eQ.vF T.int ns (some 2) (some 32);show#[9,ns,1,9,9,_,ys,9,Cu,λpl j9 h1 h3=>?_];show#[9,ms,ys,pl,by rw[<- Yl];rfl,(),#[Cu,λy hy=>by have:=CH (hnm y hy);lia,h3,λp hp=>jS (o9 Cu j9 p.1 p.2 hp).2 5],h1,λrs l0 hlen=>?_];have L:=YA Cu Ku hnm j9 l0 hlen;have BZ:=L.pg.len.1;show#[9,ns,rs,ys,9,h63,L,λE F tE tF lE lF=>#[_,_,9,?_]];have hN:(jC rs++PX E F).length<=1000:=by unfold PX;rw[kq,kq,bN,bN];lia
  have Yw:∀m∈jC rs++PX E F,uV 6 m:=λm hm=>by
   rcases fu.mp hm with z|z
   calc As m z;rcases fu.mp z with z|z<;>(let(e,_,rfl):=gH.mp z;trivial)
  show#[9,rs,9,L.pg,cu E,cQ E,cu F,cQ F,_,9,rs,E,F,jC rs++PX E F,9,9,hlen,hN,λm hm=>fW _ hm,Yw,AZ _ tE tF,λp Ip cl=>#[cV.vC _,cV.vC _,?_]];intro o1 o2;have l1:=Ip.Il;have l2:=Ip.Im;have l3:(jC rs++PX E F).length * (6+1)<=1000 * 61:=UJ hN ();have oK:∀m∈jC rs,Fh p.get m:=λm hm=>by by_cases z:m.2=.zr;calc Xy z;exact Av Ip hlen (cl m (u9.mpr #[hm,z]))
  show#[9,p.E,p.F,o1,o2,9,Ip.nE,Ip.nF,(),(),λbs cs pb pc=>?_];have B:=PZ hlen hN Ip oK (f:=λe=>decide (e.2 > 0)) (λe h0=>by rw[aaj];lia) pb pc;show#[9,rs,9,L.pg.B.W,(),(),CI L.pg,λm Rz O0 as ds pa pd=>?_];let(I0,L0):=ya rs (m+1);have A0:=PZ (p:=qZ rs (m+1)) hlen () I0 (yd ((ya rs m).1.bool false) O0) (f:=λe=>!decide (e.2=0)) (λe h0=>by simp) pa pd;exact#[rs,_,_,as,ds,bs,cs,_,_,_,_,9,L.pg,A0,B,λw k=>L0 _ oK w k,λ_=>hq]
 case w7=>
  rintro d ρ ⟨rs,p0,p,as,ds,bs,cs,b0,b1,b3,b4,rfl,pg,A0,B,hle,fin⟩;have hn:=pg.le;have bB:=CI pg;have BZ:=pg.len.1;have oK:∀{p:Tb}{as ds:List Ent},TC rs p as ds->∀q':qam,q' (.vw (.bl true))->cV.vD [.lst 50,A5 as ds] q':=λ{p as ds} t q' h=>
   #[rs,as,ds,jC rs++PX as ds,9,pg.B.W,(),bB,t.lb,t.lc,by have:=t.lb;have:=t.lc;unfold PX;rw[kq,kq,bN,bN];lia,λm hm=>fW _ hm,AZ _ t.tb t.tc,by rw[t.cl];calc h]
  let(q1,q2):=Yz A0 B hle;show#[9,oK B _ ?_];show#[9,oK A0 _ ?_];show#[_,aaL,cF (f:=hV) (xs:=as) (λ_ ρ=>E3 λ(b7 b8 b9:Option (T×Bool))=>ρ=[b0,b1,vw (.lst 50),b3,b4,vw (A5 bs cs),vw (A5 as ds),b7,b8,b9,none,none]) #[none,none,none,9] ?_ ?_];rintro i e ρ he ⟨b7,b8,b9,rfl⟩;show#[9,9,9,bs,cs,_,_,9,9,bs,cs,_,_,9,?_];have:=q1 e (dX he) (cV.pH e.1.1 e.1.2) (ο 9);calc i7 (c:=!decide (bitOr (qF (cV.pH e.1.1 e.1.2) bs) e.2=qF (cV.pH e.1.1 e.1.2) bs)) (by rw[ο this];rfl) #[_,_,_,9];rintro ρ ⟨b7,b8,b9,rfl⟩;show#[_,aaM,cF (f:=hV) (xs:=ds) (λ_ ρ=>E3 λ(b9 om b11:Option (T×Bool))=>ρ=[b0,b1,vw (.lst 50),b3,b4,vw (A5 bs cs),vw (A5 as ds),b7,b8,b9,om,b11]) #[b9,none,none,9] ?_ ?_];rintro i e ρ he ⟨b9,om,b11,rfl⟩;let(k1,_,_):=A0.tc.ok e (dX he);have hp:∀e∈cs,0<=e.1.1:=λe he=>(B.tc.ok e he).1.1;have BE:=k1.2 9;show#[9,9,#[k1.1,(),by decide],9,bs,cs,_,_,9,hp,#[k1.1,(),by decide],9,bs,cs,_,_,9,hp,?_];have:=q2 e (dX he) (cV.pK (1 * 2 ^ e.1.1.toNat) e.1.2) (by change (ib _ _ && decide _)=true;rw[uQ,ο 9,ο 9];rfl);calc i7 (c:=!decide (bitOr (qF (cV.pK (1 * 2 ^ e.1.1.toNat) e.1.2) cs) e.2=qF (cV.pK (1 * 2 ^ e.1.1.toNat) e.1.2) cs)) (by rw[ο this];rfl) #[_,_,_,9];rintro ρ ⟨b9,om,b11,rfl⟩;calc fin _
end
end cj
namespace jK
open PySem L2 VT
def YE(X:K.In h)(G:h.Ns mainGlobals mg){st:Stmt}{oc:Value}{od an:qar}{Dj:Array (Option Value)}{kV doc pm bP ct:Value}(a:W.nsIn K mainGlobals x\some (.ref f))(l:K.lookup f=some #[oc,od,.func (W.fnOf x x (eB st) (cn st) (aq st) .none kV doc pm an bP ct),Dj])(c:W.codeIn K bP x=true)(k:W.keepIn K (.ref f)=true)(hb:∀(kV doc pm:Value) (an:qar) (bP ct:Value) (us:qag),us.length=ps.length->bindArgs (W.fnOf x x (eB st) (cn st) (aq st) .none kV doc pm an bP ct) #[us,[]]=pure (ps.zip us)) :
  E2 λf fd=>Df K mg x st ps f fd:=by
 have F:=tK (st:=st) l c k;calc#[f,_,F,Oo X G a,F.binds hb]
theorem aej{C:qag->Prop}(h:C []):∀us:qag,us.length=0->C us
 |[],_=>h
theorem Tu{C:qag->Prop}(h:∀a,∀us:qag,us.length=n->C (a::us)):∀us:qag,us.length=n+1->C us
 |a::us,e=>h a us (Nat.succ.inj e)
def YF{C:qag->Prop}(h:∀a,C [a]):∀us:qag,us.length=1->C us:=Tu λa=>aej (h a)
def bn1{C:qag->Prop}(h:∀a,C [a]):∀us:qag,us.length=1->C us:=YF h
def bn2{C:qag->Prop}(h:∀a b,C [a,b]):∀us:qag,us.length=2->C us:=Tu λa=>bn1 (h a)
def bn3{C:qag->Prop}(h:∀a b c,C [a,b,c]):∀us:qag,us.length=03->C us:=Tu λa=>bn2 (h a)
def YG:zm:=[0,1,2,03,04,05,06,07,08,09,10,11,12,13,014,015,016,017,018,019,20,21,022,023,024,25,26,027,028,029,30,31,32,33,034,035,036,37,38,039,040,041,042,43,44,45,46,47,048,49,050,051,052,53,54,55,56,57,58,59,60,61,69,70,71,72,73,74,75,76,77,78,79,80,90,91,92,93,94,95,96,97,98,99,100,101,104,105,106,107,108,109,110,111,112,113,114,115,116,117,118,119,120,121,122,123,124,125,126,127,128,129,130,131,132,133,134,135,136,137,138,139,140,141,142,143,144,145,146,147,148,149,150,151,152,153,154,155,156,157,158,159,160,161,162,163,164,165,166,167,168,169,170,171,172,173,174,175,176,177,178,179,180,181,182,183,184,185,186,187,188,189,190,191,192,193,194,195,196,197,198,199,200,201,202,203,204,205,206,207,208,209,210,211,212,213,214,215,216,217,218,219,220,221,222,223,224,225,226,227,228,229,230,231,232,233,234,235,236,237,238,239,240,241,242,243,244,245,246,247,248,249,250,251,252,253,254,255,256,257,258,259,260,261,262,263,264,265,266,267,268,269,270,271,272,273,274,275,276,277,278,279,280,281,282,283,284,285,286,287,288,289,290,291,292,293,294,295,296,297,298,299,300,301,302,303,304,305,306,307,308,309]
abbrev OV:=Option (Option Value)
abbrev OO:=Option Obj
abbrev N(K:qaf)(x:Str):=W.nsIn K mainGlobals x
abbrev Lk(K:qaf)(a:Addr):=List.lookup a K
abbrev R(a:Addr):OV:=some (some (.ref a))
abbrev fo(x q:Str)(st:Stmt)(pm:Value)(c:Addr):OO:=some #[.type "function",none,.func (W.fnOf x q (eB st) (cn st) (aq st) .none .none .none pm none (.ref c) .none),([].toArray)]
abbrev cI(K:qaf)(c:Value)(q:Str):=W.codeIn K c q
abbrev kI(K:qaf)(f:Addr):=W.keepIn K (.ref f)
abbrev fI(K:qaf)(c:Addr)(x:Str):=W.findIn K (.ref c) x
abbrev Q4:=OV×OO×Bool×Bool
def q4(K:qaf)(x:Str)(f c:Addr):Q4:=(N K x,Lk K f,cI K (.ref c) x,kI K f)
def v4(x:Str)(st:Stmt)(f:Addr)(pm:Value)(c:Addr):Q4:=(R f,fo x x st pm c,true,true)
def BN:ω->(qag->Prop)->Prop
 |[],C=>C []
 |_::ps,C=>∀v,BN ps λus=>C (v::us)
theorem bnA:∀{ps:ω}{C:qag->Prop},BN ps C->∀us:qag,us.length=ps.length->C us
 |[],_,h,[],_=>h
 |_::_,_,h,v::us,e=>bnA (h v) us (Nat.succ.inj e)
def dM{D:Prop}(X:K.In h)(G:h.Ns mainGlobals mg){st:Stmt}{c:Addr}{pm:Value}(e:q4 K x f c=v4 x st f pm c)(k:∀{f:Addr} {fd:FuncData},Df K mg x st ps f fd->D)(hb:∀(kV doc pm:Value) (an:qar) (bP ct:Value),BN ps λus=>bindArgs (W.fnOf x x (eB st) (cn st) (aq st) .none kV doc pm an bP ct) #[us,[]]=pure (ps.zip us):=by simp only[BN];intros;rfl):D:=by unfold q4 v4 at e;simp only[Prod.mk.injEq] at e;let(_,_,d):=YE X G e.1 e.2.1 e.2.2.1 e.2.2.2 λa b c d e f=>bnA (hb a b c d e f);calc k d
def Tk(P:Program)(w:World)(base:Heap):Prop:=True
def dN{sp:Sp}(z:Tk P w base)(X:K.In h)(G:h.Ns mainGlobals mg){st:Stmt}{c:Addr}{pm:Value}(e:q4 K x f c=v4 x st f pm c)(k:∀{f:Addr} {fd:FuncData},Df K mg x st ps f fd->cp P w K mg base x ps n sp)(hb:∀(kV doc pm:Value) (an:qar) (bP ct:Value),BN ps λus=>bindArgs (W.fnOf x x (eB st) (cn st) (aq st) .none kV doc pm an bP ct) #[us,[]]=pure (ps.zip us):=by simp only[BN];intros;rfl):cp P w K mg base x ps n sp:=dM X G e k hb
abbrev tU(l:Array Value):OO:=some #[.type "tuple",none,.seq l 0,([].toArray)]
abbrev kE(w:World)(x:Str)(t:Tok)(r:Addr):DictEntry:=#[PyData.keyHash w.params x,.str x t,.ref r]
abbrev qG:Value:=.str "law_slicewise_k25_the_least_closed_table" 432
abbrev Kb:Value:=.str "slicewise.makers" 300
abbrev mD5:Value:=.str "slicewise.rows" 203
abbrev Uo:=(Q4×(Q4×Q4))×(Q4×(Q4×Q4))
abbrev N_:=OV×(OV×OV)
abbrev ZU:=Bool×Bool
abbrev XX:Type:=(((((N_×(OO×(OV×OO)))×(N_×N_))×((N_×N_)×(N_×(OV×(OV×Bool)))))×((((OO×ZU)×(Bool×ZU))×((OV×ZU)×N_))×((N_×N_)×((Bool×(OO×Bool))×(Bool×ZU)))))×(((((Bool×(OV×Bool))×(Bool×(OV×OV)))×((OV×(OO×Bool))×(Bool×(Q4×Q4))))×(Uo×Uo))×((Uo×Uo)×(Uo×Uo))))
def FF(K:qaf):XX:=((((((N K "LETTERS",(N K "LONGEST_NAME",N K "CLOSERS")),(Lk K 47,(N K "OPENERS",Lk K 46))),((N K "isinstance",(N K "int",N K "str")),(N K "bool",(N K "len",N K "all")))),(((N K "tuple",(N K "zip",N K "range")),(N K "list",(N K "enumerate",N K "min"))),((N K "sum",(N K "sorted",N K "dict")),(N K "Layout",(fI K 78 "__init__",W.isFn K (.ref 75)))))),((((Lk K 75,(cI K (.ref 74) "Layout.__init__",kI K 75)),(W.plainGet K 78 Str.empty,(W.hasDictIn K 78,W.plainOver K 78))),((fI K 78 "__setattr__",(W.makesIn K 78,kI K 78)),(fI K 78 "program",(fI K 78 "heads",fI K 78 "ends")))),(((fI K 78 "elses",(fI K 78 "homes",fI K 78 "defs")),(fI K 78 "main",(N K "Sets",fI K 99 "__init__"))),((W.isFn K (.ref 96),(Lk K 96,cI K (.ref 95) "Sets.__init__")),(kI K 96,(W.plainGet K 99 Str.empty,W.hasDictIn K 99)))))),(((((W.plainOver K 99,(fI K 99 "__setattr__",W.makesIn K 99)),(kI K 99,(fI K 99 "names",fI K 99 "cells"))),((N K "law",(Lk K 309,cI K (.ref 308) "law")),(kI K 309,(q4 K "has" 21 20,q4 K "members" 26 25)))),(((q4 K "is_name" 31 30,(q4 K "is_field" 38 37,q4 K "class_of" 45 44)),(q4 K "shape" 61 60,(q4 K "first_defs" 54 53,q4 K "list_of" 141 140))),((q4 K "read_cells" 160 159,(q4 K "call_wants" 167 166,q4 K "wants" 153 152)),(q4 K "grown" 148 147,(q4 K "makers" 110 109,q4 K "dict_of" 136 135))))),((((q4 K "holds" 124 123,(q4 K "keeps" 131 130,q4 K "closed" 117 116)),(q4 K "_law_cell_at" 174 173,(q4 K "_law_words" 181 180,q4 K "_law_operand" 188 187))),((q4 K "_law_key" 195 194,(q4 K "_law_call" 202 201,q4 K "_law_simple" 209 208)),(q4 K "_law_lay" 216 215,(q4 K "_law_plan" 221 220,q4 K "_law_program" 228 227)))),(((q4 K "_law_homes" 235 234,(q4 K "_law_class" 242 241,q4 K "_law_call_moves" 249 248)),(q4 K "_law_moves" 256 255,(q4 K "_law_had" 263 262,q4 K "_law_goals" 268 267))),((q4 K "_law_lacks" 273 272,(q4 K "_law_grown" 280 279,q4 K "_law_table" 285 284)),(q4 K "_law_names_in" 290 289,(q4 K "_law_pairs" 297 296,q4 K "_law_seeds" 302 301)))))))
def VV(w:World):XX:=((((((some (some (.str nQ.bG 205)),(some (some (.int 08 207)),R 47)),(tU ([.str "give" 235,.str "end" 236].toArray),(R 46,tU ([.str "def" 231,.str "if" 232,.str "while" 233].toArray)))),((some none,(some none,some none)),(some none,(some none,some none)))),(((some none,(some none,some none)),(some none,(some none,some none))),((some none,(some none,some none)),(R 78,(some (some (.ref 75)),true))))),((((fo "__init__" "Layout.__init__" Lay.jh (.str "slicewise.layouts" 262) 74,(true,true)),(true,(true,true))),((some (some (.builtin "object.__setattr__")),(true,true)),(some none,(some none,some none)))),(((some none,(some none,some none)),(some none,(R 99,some (some (.ref 96))))),((true,(fo "__init__" "Sets.__init__" cV.pZ Kb 95,true)),(true,(true,true)))))),(((((true,(some (some (.builtin "object.__setattr__")),true)),(true,(some none,some none))),((R 309,(fo "law" "law" cj.lH qG 308,true)),(true,(v4 "has" cV.IB 21 (.str "slicewise.bits" 187) 20,v4 "members" cV.mE 26 (.str "slicewise.bits" 187) 25)))),(((v4 "is_name" Nm.jz 31 mD5 30,(v4 "is_field" Nm.kh 38 mD5 37,v4 "class_of" cV.km 45 mD5 44)),(v4 "shape" W7.k_ 61 (.str "slicewise.programs" 229) 60,(v4 "first_defs" Lay.ip 54 (.str "slicewise.programs" 229) 53,v4 "list_of" cV.mG 141 Kb 140))),((v4 "read_cells" cV.iy 160 Kb 159,(v4 "call_wants" cV.iz 167 Kb 166,v4 "wants" cV.vg 153 Kb 152)),(v4 "grown" cV.vf 148 Kb 147,(v4 "makers" cV.pX 110 Kb 109,v4 "dict_of" cV.mF 136 Kb 135))))),((((v4 "holds" cV.vb 124 Kb 123,(v4 "keeps" cV.vd 131 Kb 130,v4 "closed" cV.pY 117 Kb 116)),(v4 "_law_cell_at" eQ.mM 174 qG 173,(v4 "_law_words" eQ.vE 181 qG 180,v4 "_law_operand" eQ.mO 188 qG 187))),((v4 "_law_key" eQ.I_ 195 qG 194,(v4 "_law_call" eQ.s_call 202 qG 201,v4 "_law_simple" eQ.qh 209 qG 208)),(v4 "_law_lay" eQ.Ja 216 qG 215,(v4 "_law_plan" eQ.AQ 221 qG 220,v4 "_law_program" eQ.mP 228 qG 227)))),(((v4 "_law_homes" cj.vG 235 qG 234,(v4 "_law_class" cj.vH 242 qG 241,v4 "_law_call_moves" cj.iC 249 qG 248)),(v4 "_law_moves" cj.vI 256 qG 255,(v4 "_law_had" cj.Jv 263 qG 262,v4 "_law_goals" cj.vJ 268 qG 267))),((v4 "_law_lacks" cj.vK 273 qG 272,(v4 "_law_grown" cj.mR 280 qG 279,v4 "_law_table" cj.vL 285 qG 284)),(v4 "_law_names_in" cj.ko 290 qG 289,(v4 "_law_pairs" cj.vM 297 qG 296,v4 "_law_seeds" cj.vN 302 qG 301)))))))
def runC(w:World)(os:OsState):HE.lookC pE YG FF (HE.kY (w).params) (w) 1805 os\VV (w):=by
 rw[PySem.W.Fast.te3135357915001837337]
 kernel_rfl
abbrev KE(w:World):qaf:=HE.Kf YG (HE.uf pE 4290 w)
abbrev dE:DefRec:=HE.WB cj.lH
theorem hd:PySem.W.LeftO pE qE O7 (HE.O6 qE [] []) (λs=>YG.map s.heap.get?) (λw=>YG.map (HE.uf pE 4290 w)) 4290/\∀w,FF (KE w)=VV w:=HE.head (p:=pE) (q:=qE) (loose:=O7) (lv:=[]) (R:=[]) (as:=YG) (N:=4290) (M:=1805) (F:=FF) (v:=VV) (by kernel_rfl) 9 (λs=>by kernel_rfl) 9 adF adG runC
def Tw{l:PySem.W.OpenLaw}{fa:Addr}(X:K.In h)(G:h.Ns mainGlobals mg)(hfa:mg "law"\.ref fa)(hF:FF K=VV w) :
  ∃fd:FuncData,(∀(s:Shared)(v:Value),BindsTo s fd #[[v],[]] [("_law_script",v)])/\∀base:Heap,K.In base->base.Ns mainGlobals mg->dz l.prog w K mg base iP 07 fa fd qaZ (cH K 1 cj.N0):=by
 have Q {β:Type} (f:XX->β):=fv f hF;have gC:=y3 X G (Q (·.1.1.1.2.1.1) :);have Kc:=y3 X G (Q (·.1.1.1.2.1.2.1) :);have Ke:=y3 X G (Q (·.1.1.1.2.1.2.2) :);have CN:=y3 X G (Q (·.1.1.1.2.2.1) :);have qt:=y3 X G (Q (·.1.1.1.2.2.2.1) :);have Tx:=y3 X G (Q (·.1.1.1.2.2.2.2) :);have qu:=y3 X G (Q (·.1.1.2.1.1.1) :);have A6:=y3 X G (Q (·.1.1.2.1.1.2.1) :);have lJ:=y3 X G (Q (·.1.1.2.1.1.2.2) :);have CO:=y3 X G (Q (·.1.1.2.1.2.1) :);have ff:=y3 X G (Q (·.1.1.2.1.2.2.1) :);have Tz:=y3 X G (Q (·.1.1.2.1.2.2.2) :);have TB:=y3 X G (Q (·.1.1.2.2.1.1) :);have sR:=y3 X G (Q (·.1.1.2.2.1.2.1) :);have N':=y3 X G (Q (·.1.1.2.2.1.2.2) :);have e:=hfa.symm.trans (Oo X G (Q (·.2.1.1.2.1.1) :));cases e;have aE:Lay.RY K 78:=#[#[(Q (·.1.2.1.1.2.1) :),(Q (·.1.2.1.1.2.2.1) :),(Q (·.1.2.1.1.2.2.2) :),(Q (·.1.2.1.2.1.1) :)],(Q (·.1.2.1.2.2.1) :),(Q (·.1.2.1.2.2.2.1) :),(Q (·.1.2.1.2.2.2.2) :),(Q (·.1.2.2.1.1.1) :),(Q (·.1.2.2.1.1.2.1) :),(Q (·.1.2.2.1.1.2.2) :),(Q (·.1.2.2.1.2.1) :)];have sS:=tK (st:=Lay.jh) (Q (·.1.2.1.1.1.1) :) (Q (·.1.2.1.1.1.2.1) :) (Q (·.1.2.1.1.1.2.2) :);have EO:Dc K mg "Layout" "Layout.__init__" Lay.jh qaw 78 75 _:=#[sS,Oo X G (Q (·.1.1.2.2.2.1) :),sS.binds (λ_ _ _ _ _ _=>(jK.bn2 λ_ _=>rfl)),#[(Q (·.1.2.1.2.1.2.1) :),(Q (·.1.1.2.2.2.2.1) :),(Q (·.1.1.2.2.2.2.2) :),(Q (·.1.2.1.2.1.2.2) :)]];have cY:cV.Ud K 99:=#[#[(Q (·.1.2.2.2.2.2.1) :),(Q (·.1.2.2.2.2.2.2) :),(Q (·.2.1.1.1.1.1) :),(Q (·.2.1.1.1.1.2.1) :)],(Q (·.2.1.1.1.2.2.1) :),(Q (·.2.1.1.1.2.2.2) :)];have CP:=tK (st:=cV.pZ) (Q (·.1.2.2.2.1.2.1) :) (Q (·.1.2.2.2.1.2.2) :) (Q (·.1.2.2.2.2.1) :);have Oa:Dc K mg "Sets" "Sets.__init__" cV.pZ qaz 99 96 _:=#[CP,Oo X G (Q (·.1.2.2.1.2.2.1) :),CP.binds (λ_ _ _ _ _ _=>(jK.bn3 λ_ _ _=>rfl)),#[(Q (·.2.1.1.1.1.2.2) :),(Q (·.1.2.2.1.2.2.2) :),(Q (·.1.2.2.2.1.1) :),(Q (·.2.1.1.1.2.1) :)]];have M5:W7.Mg5 K mg:=#[qt,lJ,ff,gC,Kc,CN,qu,CO,A6,#[47,Oo X G (Q (·.1.1.1.1.1.2.2) :),λH=>.inr #[_,_,_,(Q (·.1.1.1.1.2.1) :),9,9,Gen.RE 9,.cons #[_,9] (.cons #[_,9] (.nil))]],#[46,Oo X G (Q (·.1.1.1.1.2.2.1) :),λH=>.inr #[_,_,_,(Q (·.1.1.1.1.2.2.2) :),9,9,Gen.RE 9,.cons #[_,9] (.cons #[_,9] (.cons #[_,9] (.nil)))]]];have MF:Lay.MgF mg:=#[ff];have MLy:Lay.W9 mg:=#[qt,Tz];have N2:Nm.Mg2 mg:=#[#[_,Oo X G (Q (·.1.1.1.1.1.1) :)],#[_,Oo X G (Q (·.1.1.1.1.1.2.1) :)],gC,Ke,qt,Tx];have MP:cV.XE mg:=#[ff,sR,lJ,A6];have MD:cV.MgD mg:=#[N'];have MG:eQ.SW mg:=#[qt,lJ,qu,TB];have ML:cj.EC mg:=#[gC,Ke,Kc,lJ,ff,sR,CO,A6,qt,CN,qu];have F:=tK (st:=cj.lH) (Q (·.2.1.1.2.1.2.1) :) (Q (·.2.1.1.2.1.2.2) :) (Q (·.2.1.1.2.2.1) :);have DL:Df K mg "law" cj.lH qaZ 309 _:=#[F,hfa,F.binds (λ_ _ _ _ _ _=>YF λ_=>rfl)];show#[W.fnOf "law" "law" (eB cj.lH) (cn cj.lH) (aq cj.lH) .none (.none) (.none) (.str "law_slicewise_k25_the_least_closed_table" 432) none (.ref 308) (.none),λs v=>.of_eq 9,λbase _ _=>?_];have zT:Tk l.prog w base:=trivial;have P0:=dN zT X G (Q (·.2.1.1.2.2.2.1) :) λD=>cV.Sy D;have sT:=dM X G (Q (·.2.1.1.2.2.2.2) :) λD=>cV.Ax D MP P0;have ER:=dN zT X G (Q (·.2.1.2.1.1.1) :) λD=>Nm.MT D N2;have A7:=dM X G (Q (·.2.1.2.1.1.2.1) :) λD=>Nm.xU D N2 ER;have A8:=dM X G (Q (·.2.1.2.1.1.2.2) :) λD=>cV.yh D A7;have Ob:=dN zT X G (Q (·.2.1.2.1.2.1) :) λD=>W7.Hq D M5;have vW:=dN zT X G (Q (·.2.1.2.1.2.2.1) :) λD=>Lay.qW D MF;have yQ:=Lay.D9 EO MLy aE Ob vW;have Kg:=cV.Nk (P:=l.prog) (w:=w) (base:=base) Oa cY;have ES:=dN zT X G (Q (·.2.1.2.1.2.2.2) :) λD=>cV.AA D MP;have vX:=dM X G (Q (·.2.1.2.2.1.1) :) λD=>cV.q9 D cY sT;have vY:=dN zT X G (Q (·.2.1.2.2.1.2.1) :) λD=>cV.q_ D MP aE;have Oc:=dM X G (Q (·.2.1.2.2.1.2.2) :) λD=>cV.II D aE cY vX A8 sT vY;have CQ:=dM X G (Q (·.2.1.2.2.2.1) :) λD=>cV.IQ D aE MP Oc;have Kh:=dM X G (Q (·.2.1.2.2.2.2.1) :) λD=>cV.Ei D aE cY yQ Kg CQ ES;have ET:=dN zT X G (Q (·.2.1.2.2.2.2.2) :) λD=>cV.AO D MD;have Od:=dN zT X G (Q (·.2.2.1.1.1.1) :) λD=>cV.JU D;have Oe:=dM X G (Q (·.2.2.1.1.1.2.1) :) λD=>cV.JV D P0;have Ki:=dM X G (Q (·.2.2.1.1.1.2.2) :) λD=>cV.Ew D aE cY yQ Kg CQ ET;have qv:=dN zT X G (Q (·.2.2.1.1.2.1) :) λD=>eQ.AR D MG;have vZ:=dN zT X G (Q (·.2.2.1.1.2.2.1) :) λD=>eQ.Jc D MG;have c8:=dN zT X G (Q (·.2.2.1.1.2.2.2) :) λD=>eQ.AS D;have A9:=dM X G (Q (·.2.2.1.2.1.1) :) λD=>eQ.SX D c8;have yR:=dM X G (Q (·.2.2.1.2.1.2.1) :) λD=>eQ.ND D MG c8;have rm:=dM X G (Q (·.2.2.1.2.1.2.2) :) λD=>eQ.EA D c8 A9 yR;have A_:=dM X G (Q (·.2.2.1.2.2.1) :) λD=>eQ.S9 D MG c8 rm;have yS:=dN zT X G (Q (·.2.2.1.2.2.2.1) :) λD=>eQ.NF D MG;have qw:=dM X G (Q (·.2.2.1.2.2.2.2) :) λD=>eQ.AV D MG c8 A_;have lK:=dN zT X G (Q (·.2.2.2.1.1.1) :) λD=>cj.Jz D ML;have v5:=dN zT X G (Q (·.2.2.2.1.1.2.1) :) λD=>cj.Jy D ML;have lL:=dN zT X G (Q (·.2.2.2.1.1.2.2) :) λD=>cj.rh D ML;have v7:=dM X G (Q (·.2.2.2.1.2.1) :) λD=>cj.JA D ML lK v5 lL;have qx:=dN zT X G (Q (·.2.2.2.1.2.2.1) :) λD=>cj.Tf D;have v8:=dN zT X G (Q (·.2.2.2.1.2.2.2) :) λD=>cj.JE D ML;have v_:=dM X G (Q (·.2.2.2.2.1.1) :) λD=>cj.JF D ML qx v8;have wc:=dM X G (Q (·.2.2.2.2.1.2.1) :) λD=>cj.A4 D ML qx v_;have we:=dN zT X G (Q (·.2.2.2.2.1.2.2) :) λD=>cj.JP D ML;have nM:=dN zT X G (Q (·.2.2.2.2.2.1) :) λD=>cj.yF D ML;have wg:=dM X G (Q (·.2.2.2.2.2.2.1) :) λD=>cj.JM D ML lK nM;have wj:=dM X G (Q (·.2.2.2.2.2.2.2) :) λD=>cj.JR D ML wg;calc cj.Tp DL ML qv vZ yS qw wj v7 wc we Kh Ki Od Oe
def walk{l:PySem.W.OpenLaw}{q:Program}{loose:ω}{XP:(qae)->Heap->Prop}{d:DefRec}{K:World->qaf}(hn:l.most\63)(OC:d.params.defaults=[])(F:∀(w:World) (mg:qae) (fa:Addr) (h:Heap),(K w).In h->h.Ns mainGlobals mg->mg d.name\.ref fa ->
    ∃fd:FuncData,(∀(s:Shared) (u:Value),BindsTo s fd #[[u],[]] [("_law_script",u)])/\∀base:Heap,(K w).In base->base.Ns mainGlobals mg->dz l.prog w (K w) mg base iP 07 fa fd qaZ (cH (K w) 1 cj.N0)) :
  PySem.W.WalkO q loose XP (λw h=>(K w).In h) l.row.toRowW d [] (λf vs=>PySem.call f vs):=by
 show Zd.wK hn OC λw s₀ s₁ mg mb fa o pm cd doc a vs ns G Y ho hd f9 Vu QV hints hlen hg=>?_;let(fd,hb,hF):=F w mg fa _ Y G.T.g Vu;exact F4 (CX:=iP) (sp:=cH (K w) 1 cj.N0) (k:=07) Y G.T.g G.T.b G.T.builtins G.T.nolimit hg QV hints (jS hlen 5) #[9,by decide,by decide] hF hb (λH _ hS=>
  #[[.lst (ns.map .int)],[],[],λ_ r=>r=.vw (.bl true),Kn,λ_ z=>(nomatch z),λ_ z=>(nomatch z),ic 9 (aB.cons (by
     simp only[At];show#[a,ns.map V.int,9,hS.imp (λz=>#[z,λm=>nomatch m]) id,?_];clear hS;clear hints hlen;induction ns with
     |nil=>calc aB.nil
     |cons n ns ih=>calc aB.cons bJ ih) aB.nil),#[ns,9,hlen,9],λus r hr v H' _ z=>by
     subst hr;have:=z.1;simpa only[At] using this]) λ_ _ _ z=>z
end jK
open PySem PySem.W PyProof.Rows
set_option maxRecDepth 100000 in
set_option maxHeartbeats 0 in
theorem PySem.Challenge.cw_slicewise_k25_the_least_closed_table_holds : PySem.Challenge.rw_slicewise_k25_the_least_closed_table.Holds := by
 w_on
 show PySem.W.holds_law jK.RD λRD=>?_;show PySem.W.holds_openX (q:=jK.qE) (loose:=jK.O7) (Xt:=HE.O6 jK.qE [] []) (XP:=PySem.W.XL jK.qE []) (d:=jK.dE) (kwd:=[]) (N:=4290) jK.hd.1 (λs e=>PySem.W.xl_of s (Bool.and_eq_true_iff.mp e).1) PySem.W.XL.keeps (by kernel_rfl) (by kernel_rfl) (by kernel_rfl) (λs e=>PySem.W.recFacts_of (Bool.and_eq_true_iff.mp e).2) (by kernel_rfl) RD (by kernel_rfl) #[9,9,9,9,9,by decide +kernel] ?hw ?hc
 (case hw=>w_witness2)
 calc HE.GW (jK.walk (l:=PySem.Challenge.rw_slicewise_k25_the_least_closed_table) (K:=jK.KE) 9 9 (λw mg fa h KX G Vu=>jK.Tw KX G Vu (jK.hd.2 w)))
