import PyProof.Rows.All
import Wide.All
import OpenK.AllK
import Wide.FinOn
import Lean
import PyProof.EqAt
import PyProof.EqKinds
import PyProof.TupleCall
import PyProof.NeKinds
import PyProof.Rows.SumAny
import PyProof.StrBlockL
import PyProof.StrBlockI
import PyProof.FitsReplace
import PyProof.Rows.SeqMore
import PyProof.Rows.TupAdd
import PyProof.Draws
import PyProof.ZipIter
import OpenK.ZGo
import PyProof.ListNew
import PyProof.Rows.SortStr
import PyProof.Rows.SortWalk
import PyProof.IsRules
import KE.KDictLaws
import PyProof.DictWalks
import PyProof.WalkInts
import PyProof.Rows.SetFrom
import PyProof.SetRoads
import PyProof.Rows.SortShellK
import PyProof.Rows.SortKeyStr
import PyProof.Rows.SortRuns
import PyProof.Rows.SortPure
import PyProof.DictItems
import PyProof.Rows.DictItemsRows
import KE.KPairComp
import PyProof.Rows.BitMore
import KE.KDictOf
import PyProof.CollectIter
import PyProof.SeqRoads2
import PySem.Challenge.RW_slicewise_k24_closed_tables
set_option Elab.async false
set_option linter.all false
set_option genSizeOf false
set_option genInjectivity false
set_option compiler.extract_closed false
set_option genSizeOfSpec false
set_option bootstrap.genMatcherCode false
set_option maxRecDepth 100000
set_option maxHeartbeats 8000000
open Lean in
def pT(n:Nat)(s:Syntax):MacroM (TSyntax `rcasesPat):=match n with
 |0=>Macro.throwUnsupported
 |n+1=>match s with
  |`(($a,$b,*))=>do
   let l←(List.toArray (a::b.getElems.toList)).mapM (λx=>pT n x.raw)
   `(rcasesPat|⟨$l,*⟩)
  |`(_)=>`(rcasesPat|_)
  |_=>if s.isIdent then `(rcasesPat|$(.mk s):ident) else Macro.throwUnsupported
local macro_rules|`(tactic|let $p:term:=$e)=>do `(tactic|obtain $(←pT 9 p):rcasesPat:=$e)
local macro_rules|`(tactic|show $e)=>`(tactic|refine $e)
local macro_rules|`(tactic|calc $e:term)=>`(tactic|exact $e)
local macro_rules|`($a\$b)=>`($a=some $b)
local macro_rules(kind:=Lean.Parser.Command.declaration)|s=>do
 if s.getPos?.isNone then Lean.Macro.throwUnsupported
 let q←`(command|noncomputable def x:=0)
 return (if s[0][4].getNumArgs=0&&(s[1].getKind==``Lean.Parser.Command.definition||s[1].getKind==``Lean.Parser.Command.abbrev) then s.setArg 0 (s[0].setArg 4 q.raw[0][4]) else s).rewriteBottomUp (λx=>x.setInfo .none)
local macro_rules|`(#[$x,*])=>`(⟨$x,*⟩)
local macro_rules|`(())=>`(by lia)
set_option hygiene false
local macro_rules|`(9)=>`(rfl)
local macro_rules|`(8)=>`(s.heap.objs.size)
local macro_rules|`(7)=>`((.inl rfl))
local macro_rules|`(6)=>`(rs.length)
local macro_rules|`(5)=>`((by decide))
local macro_rules|`(4)=>`((by simp))
local macro_rules|`(3)=>`((ν af))
local macro_rules|`(14)=>`((model prog w))
local macro_rules|`(19)=>`(X.env)
local macro_rules|`(22)=>`((model X.prog X.w))
local macro_rules|`(23)=>`((by decide +kernel))
local macro_rules|`(24)=>`((by rfl))
local macro_rules|`(27)=>`(ts.length)
local macro_rules|`(28)=>`((bE rs))
local macro_rules|`(29)=>`((hr.mono (by decide)))
local macro_rules|`(32)=>`((.ref s.heap.objs.size))
local macro_rules|`(34)=>`(xs.length)
local macro_rules|`(35)=>`((bD X ts sc cl C fp s H))
local macro_rules|`(36)=>`((s.heap.objs.size+1))
local macro_rules|`(39)=>`(X.prog)
local macro_rules|`(40)=>`((υ (cn (aa (ai 04) (aa (υ (ar (ae 03) (ν af))) aj)))))
local macro_rules|`(41)=>`(X.env.scope)
local macro_rules|`(42)=>`((rs.map aV))
local macro_rules|`(43)=>`((aP.refl H))
local macro_rules|`(48)=>`((.ListComp elt [#[tg,iter,ifs,0]] sc pos))
local macro_rules|`(50)=>`(s.heap)
local macro_rules|`(51)=>`(s1.heap.objs.size)
local macro_rules|`(52)=>`((.Name x p))
abbrev ζ:=@PySem.wpAny_bind
abbrev η:=@PySem.wpAny_pure
abbrev θ:=@if_neg
abbrev ι:=@if_pos
abbrev μ:=@PyProof.Rows.wpS_bind
abbrev ξ:=@PyProof.Rows.wpS_pure
abbrev ο:=@decide_eq_true
abbrev π:=@PySem.sizeLine_eq
abbrev ς:=@decide_eq_false
abbrev χ:=@PySem.wpAny_call_entry
abbrev ψ:=@of_decide_eq_true
abbrev Γ:=@PySem.wpAny_callSpecial?_slot
abbrev Δ:=@PySem.wpAny_newObj_type
abbrev Θ:=@PySem.wpAny_setField_rec
abbrev Λ:=@PySem.wpAny_field
abbrev Ξ:=@PySem.wpAny_truthy_bool
abbrev Ψ:=@PySem.wpAny_mono
abbrev Ω:=@congrArg
abbrev fv:=@or_false
abbrev v9:=@PySem.wpAny_holding
abbrev aaa:=@beq_eq_false_iff_ne
abbrev aab:=@PySem.wpAny_typeNameOfWhole_itemiter
abbrev aac:=@PyProof.Rows.wpS_forRange
abbrev aad:=@PySem.wpAny_seqItems
abbrev aae:=@PySem.wpAny_typeNameOfWhole_keyiter
abbrev aaf:=@decide_eq_true_eq
abbrev aag:=@PyProof.Rows.bitNot_nonneg
abbrev aah:=@PySem.wpAny_rule
abbrev aai:=@PySem.wpAny_typeNameOf_itemiter
abbrev aaj:=@PySem.wpAny_passesOwn
abbrev aak:=@PySem.wpAny_dictEntries
abbrev aal:=@PySem.wpAny_getItem_str_slice
abbrev aam:=@PySem.wpAny_typeOf
abbrev aan:=@PyProof.Rows.wpS_modify
abbrev aao:=@PySem.wpAny_dictEpoch
abbrev aap:=@PySem.wpAny_attempt
abbrev aaq:=@PySem.codeAny_mono
abbrev aar:=@PyProof.Rows.bitNot_bitNot
abbrev aas:=@PySem.codeAny_builtin
abbrev aat:=@PySem.wpAny_Call_Name_kw
abbrev aau:=@PySem.tupleKind_room_in1
abbrev aav:=@PySem.wpAny_pyIter_list
abbrev aaw:=@PySem.wpAny_setField
abbrev aax:=@PyProof.Rows.wpS_mono
abbrev aay:=@PySem.wpAny_isOneOf_itemiter
abbrev aaz:=@PySem.wpAny_isInstance
abbrev aaA:=@PySem.wpAny_of_eq
abbrev aaB:=@PySem.wpAny_updateSeq_pair
abbrev aaC:=@PySem.wpAny_execs_nil
abbrev aaD:=@PySem.post_val_or_str
abbrev aaE:=@beq_iff_eq
abbrev aaF:=@PySem.typeIs_int
abbrev aaG:=@PySem.wpAny_fieldsOf
abbrev aaH:=@PySem.wpAny_onRaise
abbrev aaI:=@PySem.plainId_quiet
abbrev aaJ:=@if_false
abbrev aaK:=@if_true
variable{w:PySem.World}{s s':PySem.Shared}{n i j m t' ep:Nat}{x y qual:PySem.Str}{a f C dx it:PySem.Addr}{A:PySem.Around}{P prog:PySem.Program}{e b c iter:PySem.Expr}{fd:PySem.FuncData}{α β:Type}{base h h':PySem.Heap}{p apos bF dH pos' tp p2:PySem.Pos}{u:PySem.Value}{O:HD}{o:PySem.Obj}{B:Prop}{sc:PySem.Scope}
abbrev HD:=List (Option PySem.Addr)
abbrev qaa:=List (PySem.Addr×PySem.Obj)
abbrev qad:=PySem.Value->PySem.Shared->Prop
abbrev qae:=PySem.Str->Option PySem.Value
abbrev qaf:=PySem.W.Frag
abbrev qag:=List PySem.Value
abbrev zm:=List PySem.Addr
abbrev ω:=List PySem.Str
abbrev qan:=List Int
abbrev qao:=List Nat
abbrev qap:=List PySem.Expr
abbrev qaq:=List PySem.Stmt
abbrev qar:=Option PySem.Addr
abbrev qav:List PySem.Str:=["program"]
abbrev qaw:List PySem.Str:=["self","program"]
abbrev qax:List PySem.Str:=["thing"]
abbrev qay:List PySem.Str:=["rows","row"]
abbrev qaz:List PySem.Str:=["self","names","cells"]
abbrev qaA:List PySem.Str:=["sets","rows","kind"]
abbrev qaB:List PySem.Str:=["layout","names","place"]
abbrev qaC:List PySem.Str:=["layout","sets","place"]
abbrev qaD:List PySem.Str:=["layout","sets"]
abbrev qaE:List PySem.Str:=["program","table"]
abbrev qaF:List PySem.Str:=["_law_script","_law_k"]
abbrev qaG:List PySem.Str:=["_law_cell","_law_many"]
abbrev qaH:List PySem.Str:=["_law_number","_law_words_here"]
abbrev qaI:List PySem.Str:=["_law_number","_law_name","_law_words_here","_law_later"]
abbrev qaJ:List PySem.Str:=["_law_number","_law_words_here","_law_later"]
abbrev qaK:List PySem.Str:=["_law_rows","_law_stack","_law_cell","_law_words_here","_law_later"]
abbrev qaL:List PySem.Str:=["_law_cell","_law_words_here"]
abbrev qaM:List PySem.Str:=["_law_cells","_law_words_here","_law_plan_here"]
abbrev qaN:List PySem.Str:=["_law_key_here"]
abbrev qaO:List PySem.Str:=["_law_program_here"]
abbrev qaP:List PySem.Str:=["_law_program_here","_law_home","_law_row"]
abbrev qaQ:List PySem.Str:=["_law_names","_law_cells","_law_origin"]
abbrev qaR:List PySem.Str:=["_law_names","_law_goal"]
abbrev qaS:List PySem.Str:=["_law_row"]
abbrev qaT:List PySem.Str:=["_law_names","_law_cells","_law_move"]
abbrev qaU:List PySem.Str:=["_law_some","_law_cell","_law_news_here"]
abbrev qaV:List PySem.Str:=["_law_names","_law_cells","_law_cell","_law_program_here","_law_words_here","_law_news_here"]
abbrev qaW:List PySem.Str:=["_law_script"]
abbrev f9(x:PySem.Str):Prop:=(x==("__debug__":PySem.Str))=false
abbrev q_(x:PySem.Str):Prop:=(x==("__classdict__":PySem.Str))=false
abbrev bL:=@List.length_map
abbrev dy:=@List.getElem?_eq_some_iff
abbrev c9:=@PySem.Heap.get?_push_of_some
abbrev f_:=@List.getElem?_eq_getElem
abbrev eM:=@List.mem_of_getElem?
abbrev cY:=@List.mem_cons
abbrev cv:=@Nat.le_refl
abbrev d4:=@List.getElem?_map
abbrev fM:=@List.mem_cons_self
abbrev eG:=@List.not_mem_nil
abbrev fP:=@List.mem_singleton
abbrev gT:=@List.mem_cons_of_mem
abbrev il:=@List.mem_append_left
abbrev iC:=@List.mem_append_right
abbrev gU:=@PySem.Heap.get?_push_size
abbrev dz:=@PySem.Heap.lt_size
abbrev gc:=@List.mem_append
abbrev iD:=@List.size_toArray
abbrev nL:=@List.getElem?_append_left
abbrev m4:=@PySem.F.slot_list_append
abbrev m5:=@PySem.F.type_list_append
abbrev jk:=@Bool.false_ne_true
abbrev fO:=@List.map_cons
abbrev iE:=@Bool.and_eq_true
abbrev nM:=@Int.eq_ofNat_of_zero_le
abbrev sM:=@List.getElem?_append_right
abbrev e_:=@Nat.zero_le
abbrev gf:=@Nat.ne_of_lt
abbrev j6:=@Int.toNat_natCast
abbrev lq:=@List.length_append
abbrev gy:=@List.mem_map
abbrev lu:=@PySem.PassesOwn.never
abbrev rf:=@List.filterMap_cons
abbrev qt:=@Nat.lt_of_lt_of_le
abbrev lx:=@PySem.boot_len
abbrev jR:=@Nat.le_trans
abbrev vG:=@List.getElem?_set_ne
abbrev m6:=@List.mem_range
abbrev oa:=@List.nodup_cons
abbrev rh:=@List.length_range
abbrev qo:=@List.map_append
abbrev qu:=@Int.emod_nonneg
abbrev vH:=@List.append_assoc
abbrev sN:=@List.mem_flatMap
abbrev yp:=@List.length_dropLast
abbrev vI:=@List.length_cons
abbrev ye:=@Int.emod_lt_of_pos
abbrev Ep:=@List.getLast?_eq_getElem?
abbrev yq:=@PySem.W.mg_none_of
abbrev D8:=@List.getElem?_set_self
abbrev Er:=@List.getElem?_replicate
abbrev D9:=@Array.getElem?_toList
abbrev qv:=@List.map_map
abbrev B7:=@Array.toList_append
abbrev Ar:=@Nat.lt_succ_self
abbrev As:=@List.append_nil
abbrev Es:=@List.map_congr_left
abbrev B8:=@List.getElem_mem
abbrev Sv:=@PySem.F.slot_dict_keyiterator_next
abbrev yr:=@Bool.true_and
abbrev B9:=@List.length_zip
abbrev Jj:=@List.replicate_succ
abbrev JA:=@List.mem_iff_getElem?
abbrev Ni:=@List.length_eq_zero_iff
abbrev B_:=@PySem.Heap.size_push
abbrev D_:=@List.mem_filter
abbrev Tw:=@PySem.F.slot_dict_itemiterator_next
abbrev JB:=@Array.length_toList
abbrev Nj:=@List.getElem?_range
abbrev Jk:=@Nat.lt_succ_of_lt
abbrev B':=@Nat.lt_irrefl
abbrev Ca:=@List.any_cons
abbrev Nk:=@List.getElem?_eq_none
abbrev Cb:=@Nat.ne_of_gt
abbrev Sw:=@List.getD_eq_getElem?_getD
abbrev OH:=@List.getElem?_dropLast
abbrev Nl:=@PySem.mem_of_lookup
abbrev OI:=@List.length_replicate
abbrev OJ:=@List.perm_append_comm
abbrev JC:=@List.lookup_cons
abbrev JD:=@List.all_eq_true
abbrev Nn:=@List.zip_cons_cons
abbrev Ea:=@Int.zero_add
abbrev JE:=@PySem.F.kt_called_dict
abbrev Jl:=@Bool.false_and
abbrev Jm:=@List.nodup_nil
abbrev JF:=@List.foldl_cons
abbrev Sx:=@List.take_of_length_le
abbrev Sy:=@Option.map_eq_some_iff
abbrev Np:=@List.length_take
abbrev Nq:=@List.any_eq_true
abbrev Tx:=@List.mem_or_eq_of_mem_set
abbrev Tz:=@List.drop_eq_getElem_cons
abbrev Jn:=@Nat.min_self
abbrev Sz:=@List.getElem?_mapIdx
abbrev JG:=@PySem.Paired.length
abbrev OL:=@List.take_length
abbrev Jo:=@Nat.le_succ
abbrev TB:=@Array.getElem?_eq_none
abbrev XY:=@PyProof.Rows.callWith_type1
abbrev SA:=@Int.natCast_nonneg
abbrev SE:=@List.set_cons_succ
abbrev OM:=@Bool.eq_iff_iff
abbrev ON:=@PySem.W.kia_one
abbrev TC:=@List.take_append_drop
abbrev TF:=@List.length_filter_le
abbrev XZ:=@PySem.F.slot_tuple_iterator_next
abbrev X0:=@Array.perm_iff_toList_perm
abbrev Nr:=@PySem.W.mg_of
abbrev SF:=@List.foldl_append
abbrev SH:=@List.ext_getElem?
abbrev X1:=@List.pairwise_iff_getElem
abbrev TH:=@List.getLast?_concat
abbrev TJ:=@Array.toList_extract
abbrev X2:=@Classical.byContradiction
abbrev SI:=@Option.bind_some
abbrev TK:=@PySem.Heap.SameBut.update
abbrev TL:=@List.length_pos_iff
abbrev Zd:=@PyProof.Rows.slot_tuple_getitem
abbrev X3:=@List.getElem?_cons_zero
abbrev X4:=@PySem.F.plainAttrs_dict
abbrev SJ:=@List.find?_cons
abbrev Ze:=@PySem.F.slot_list_getattribute
abbrev X5:=@PySem.Calls.callWith_builtin
abbrev TM:=@List.flatten_cons
abbrev TN:=@List.take_add_one
abbrev X6:=@List.length_singleton
abbrev X7:=@Bool.beq_eq_decide_eq
abbrev TQ:=@List.length_drop
abbrev X8:=@List.mem_of_mem_drop
abbrev X9:=@Array.toList_reverse
abbrev X_:=@PySem.Around.under_plainId
abbrev SK:=@Bool.false_or
abbrev X':=@PySem.Heap.get?_update_ne
abbrev TR:=@Option.map_some
abbrev TU:=@List.range_succ
abbrev TV:=@Nat.not_lt_zero
abbrev Zf:=@List.getElem?_zip_eq_some
abbrev SM:=@Nat.le_of_lt
abbrev Ya:=@List.mem_filterMap
abbrev Zg:=@PySem.F.args_tuple_add_2
abbrev Yb:=@List.filterMap_map
abbrev SN:=@List.map_nil
abbrev Yc:=@Nat.lt_of_le_of_lt
abbrev Yd:=@PySem.Obj.data_mapFields
abbrev SQ:=@Nat.lt_trans
abbrev Zh:=@List.filterMap_cons_some
abbrev TX:=@Bool.and_false
abbrev Zi:=@PySem.F.entry_tuple_add
abbrev Zj:=@List.filter_cons_of_pos
abbrev Zk:=@List.filter_cons_of_neg
abbrev Ye:=@List.reverse_perm
abbrev Zl:=@PySem.F.slot_tuple_add
abbrev Zm:=@List.zipWith_cons_cons
abbrev Yf:=@List.filter_cons
inductive E2{t0 t1:Type}(p:t0->t1->Prop):Prop
 |mk (a:t0) (b:t1) (h:p a b)
inductive E3{t0 t1 t2:Type}(p:t0->t1->t2->Prop):Prop
 |mk (a:t0) (b:t1) (c:t2) (h:p a b c)
inductive E4{t0 t1 t2 t3:Type}(p:t0->t1->t2->t3->Prop):Prop
 |mk (a:t0) (b:t1) (c:t2) (d:t3) (h:p a b c d)
inductive E5{t0 t1 t2 t3 t4:Type}(p:t0->t1->t2->t3->t4->Prop):Prop
 |mk (a:t0) (b:t1) (c:t2) (d:t3) (e:t4) (h:p a b c d e)
inductive E6{t0 t1 t2 t3 t4 t5:Type}(p:t0->t1->t2->t3->t4->t5->Prop):Prop
 |mk (a:t0) (b:t1) (c:t2) (d:t3) (e:t4) (f:t5) (h:p a b c d e f)
inductive E7{t0 t1 t2 t3 t4 t5 t6:Type}(p:t0->t1->t2->t3->t4->t5->t6->Prop):Prop
 |mk (a:t0) (b:t1) (c:t2) (d:t3) (e:t4) (f:t5) (g:t6) (h:p a b c d e f g)
inductive E8{t0 t1 t2 t3 t4 t5 t6 t7:Type}(p:t0->t1->t2->t3->t4->t5->t6->t7->Prop):Prop
 |mk (a:t0) (b:t1) (c:t2) (d:t3) (e:t4) (f:t5) (g:t6) (h:t7) (h:p a b c d e f g h)
inductive E9{t0 t1 t2 t3 t4 t5 t6 t7 t8:Type}(p:t0->t1->t2->t3->t4->t5->t6->t7->t8->Prop):Prop
 |mk (a:t0) (b:t1) (c:t2) (d:t3) (e:t4) (f:t5) (g:t6) (h:t7) (i:t8) (h:p a b c d e f g h i)
inductive E11{t0 t1 t2 t3 t4 t5 t6 t7 t8 t9 TY:Type}(p:t0->t1->t2->t3->t4->t5->t6->t7->t8->t9->TY->Prop):Prop
 |mk (a:t0) (b:t1) (c:t2) (d:t3) (e:t4) (f:t5) (g:t6) (h:t7) (i:t8) (j:t9) (k:TY) (h:p a b c d e f g h i j k)
inductive E12{t0 t1 t2 t3 t4 t5 t6 t7 t8 t9 TY t11:Type}(p:t0->t1->t2->t3->t4->t5->t6->t7->t8->t9->TY->t11->Prop):Prop
 |mk (a:t0) (b:t1) (c:t2) (d:t3) (e:t4) (f:t5) (g:t6) (h:t7) (i:t8) (j:t9) (k:TY) (l:t11) (h:p a b c d e f g h i j k l)
namespace L2
open PySem PySem.Spec PyProof.Rows
abbrev Key:=Sum Int Str
def rj:Key->Value->Bool
 |.inl k,v=>Value.isInt k v
 |.inr x,v=>Value.isStrOf x v
def Zn(w:World):Key->Int
 |.inl k=>hashInt k
 |.inr x=>hashStr w x
theorem ck:∀{k:Key}{v:Value},rj k v=true->(∃i t,k=Sum.inl i/\v=Value.int i t)\/(∃x t,k=Sum.inr x/\v=Value.str x t)
 |.inl i,v,h=>by let(t,e):=Value.isInt_shape h;calc .inl #[i,t,9,e]
 |.inr x,v,h=>by let(t,e):=Value.isStrOf_shape h;calc .inr #[x,t,9,e]
def Cc(i:Int)(t:Tok):rj (.inl i) (.int i t)=true:=by simp[rj,Value.isInt]
def Cd(x:Str)(t:Tok):rj (.inr x) (.str x t)=true:=by simp[rj,Value.isStrOf]
def OQ(a b:Int):decide ((Sum.inl a:Key)=Sum.inl b)=(a==b):=by by_cases e:a=b;subst e;simp;have h:¬ (Sum.inl a:Key)=Sum.inl b:=λq=>e (Sum.inl.inj q);rw[ς h];calc (aaa.mpr e).symm
def OR(a b:Str):decide ((Sum.inr a:Key)=Sum.inr b)=decide (a=b):=by by_cases e:a=b;subst e;simp;have h:¬ (Sum.inr a:Key)=Sum.inr b:=λq=>e (Sum.inr.inj q);rw[ς h,ς e]
def OS(a:Int)(b:Str):decide ((Sum.inl a:Key)=Sum.inr b)=false:=ς (λq=>nomatch q)
def OT(a:Str)(b:Int):decide ((Sum.inr a:Key)=Sum.inl b)=false:=ς (λq=>nomatch q)
def bM(prog:Program)(w:World):PySem.KeyKind prog w Key where
 is:=rj
 hash:=Zn w
 inj:=λv a b ha hb=>by
  rcases ck ha with⟨i,t,rfl,rfl⟩|⟨x,t,rfl,rfl⟩
  rcases ck hb with⟨j,u,rfl,e⟩|⟨y,u,rfl,e⟩
  injection e with e1 _;rw[e1]
  calc nomatch e;rcases ck hb with⟨j,u,rfl,e⟩|⟨y,u,rfl,e⟩
  calc nomatch e;injection e with e1 _;rw[e1]
 byValue:=λk v h=>by rcases ck h with⟨i,t,rfl,rfl⟩|⟨x,t,rfl,rfl⟩<;>rfl
 pyHash:=λhv h=>by
  rcases ck hv with⟨i,t,rfl,rfl⟩|⟨x,t,rfl,rfl⟩
  calc wpAny_pyHash_int h;exact wpAny_pyHash_str h
 eqBool:=λhu hv h=>by
  rcases ck hu with⟨i,t,rfl,rfl⟩|⟨x,t,rfl,rfl⟩
  rcases ck hv with⟨j,u,rfl,rfl⟩|⟨y,u,rfl,rfl⟩
  rw[OQ] at h;calc wpAny_eqBool_int h;rw[OS] at h;calc SeqAt.EqAt.int_str i t y u _ _ _ _ h;rcases ck hv with⟨j,u,rfl,rfl⟩|⟨y,u,rfl,rfl⟩
  rw[OT] at h;calc SeqAt.EqAt.str_int x t j u _ _ _ _ h;rw[OR] at h;exact wpAny_eqBool_str h
 «strs»:=λk x t v h=>by
  rcases ck h with⟨i,u,rfl,e⟩|⟨y,u,rfl,e⟩
  calc nomatch e;injection e with e1 _
  subst e1;cases v<;>rfl
def vO(prog:Program)(w:World)(i:Int)(t:Tok):(bM prog w).is (.inl i) (.int i t)=true:=Cc i t
def vP(prog:Program)(w:World)(x:Str)(t:Tok):(bM prog w).is (.inr x) (.str x t)=true:=Cd x t
inductive V where
 |bK|bl (b:Bool)|int (i:Int)|str (x:Str)|Zo (b:Array UInt8)|Zp (b:UInt64)|ref (a:Addr)|ty (n:String)
 deriving DecidableEq
def RelV:V->Value->Prop
 |.bK,u=>u=Value.none
 |.bl b,u=>u=Value.bool b
 |.int i,u=>∃t,u=Value.int i t
 |.str x,u=>∃t,u=Value.str x t
 |.Zo b,u=>∃t,u=Value.bytes b t
 |.Zp b,u=>∃t,u=Value.float b t
 |.ref a,u=>u=Value.ref a
 |.ty n,u=>u=Value.type n
abbrev Vals:List V->qag->Prop:=Paired RelV
def Vals.length{xs:List V}{us:qag}(r:Vals xs us):34=us.length:=JG r
theorem Vals.get:∀{xs:List V}{us:qag}{i:Nat}{x:V},Vals xs us->xs[i]?\x->∃u,us[i]?\u/\RelV x u
 |_,_,_,_,.nil,e=>by simp at e
 |_,_,0,_,.cons r _,e=>by simp at e;subst e;calc#[_,9,r]
 |_,_,i+1,x,.cons _ t,e=>by let(u,h1,h2):=Vals.get t (by simpa using e);calc#[u,by simpa using h1,h2]
theorem Vals.set{x:V}{u:Value}(r:RelV x u):∀{xs:List V}{us:qag}(i:Nat),Vals xs us->Vals (xs.set i x) (us.set i u)
 |_,_,_,.nil=>.nil
 |_,_,0,.cons _ t=>.cons r t
 |_,_,i+1,.cons q t=>.cons q (Vals.set r i t)
theorem Vals.append:∀{xs ys:List V}{us ws:qag},Vals xs us->Vals ys ws->Vals (xs++ys) (us++ws)
 |_,_,_,_,.nil,s=>s
 |_,_,_,_,.cons r t,s=>.cons r (Vals.append t s)
theorem Vals.take:∀{xs:List V}{us:qag}(n:Nat),Vals xs us->Vals (xs.take n) (us.take n)
 |_,_,0,_=>.nil
 |_,_,_+1,.nil=>.nil
 |_,_,n+1,.cons r t=>.cons r (Vals.take n t)
theorem Vals.drop:∀{xs:List V}{us:qag}(n:Nat),Vals xs us->Vals (xs.drop n) (us.drop n)
 |_,_,0,r=>r
 |_,_,_+1,.nil=>.nil
 |_,_,n+1,.cons _ t=>Vals.drop n t
def j9:Option V->Option Value->Prop
 |some v,some u=>RelV v u
 |none,none=>True
 |_,_=>False
def KV{κ:Type}:List (κ×V)->List (κ×Value)->Prop:=Paired λ(p:κ×V) (q:κ×Value)=>p.1=q.1/\RelV p.2 q.2
def kV:Key->V
 |.inl i=>.int i
 |.inr x=>.str x
inductive HO where
 |lst (xs:List V)
 |tup (xs:List V)
 |dK (bf:List (Key×V))|dT (bf:List (List Key×V))
 |set (S:Int->Bool) (n:Nat)
 |ins (C dx:Addr) (fs:List (Str×V))
 |own (x:Addr)
 |xd (fs:List (Str×V))
 |met (f x:Addr)
 |Zq (lo hi:Int)
 |jS (o:Obj) (u:HO)
 |OU (ps:Array Value)
 |ext (φ:Heap->Prop)
abbrev Hp:=Addr->Option HO
def upd(H:Hp)(a:Addr)(o:HO):Hp:=λb=>if b=a then some o else H b
def aG{H:Hp}{o:HO}:upd H a o a\o:=by unfold upd;rw[ι 9]
def az{H:Hp}{b:Addr}{o:HO}(h:b≠a):upd H a o b=H b:=by unfold upd;rw[θ h]
def Au{H:Hp}{b:Addr}{o u:HO}(h:H a\o)(h':H b\u)(d:o≠u):a≠b:=by intro e;subst e;rw[h] at h';calc d (Option.some.inj h')
def bx{H:Hp}{b:Addr}{o:HO}(h:H a\o)(h':H b=none):a≠b:=by intro e;subst e;rw[h] at h';cases h'
section
variable(P:Program)(w:World)
def bO(H:Hp)(h:Heap)(a:Addr):HO->Prop
 |.lst xs=>34<=sizeLine/\∃(aN:qag)(n:Nat),Vals xs aN/\h.get? a=some {cls:=.type "list",data:=.seq aN.toArray n}
 |.tup xs=>34<=sizeLine/\∃aN:qag,Vals xs aN/\IsTup h a aN.toArray
 |.dK bf=>bf.length<=sizeLine/\(a==sysModules)=false/\∃vs,KV bf vs/\h.DictOf (bM P w) a vs
 |.dT bf=>bf.length<=sizeLine/\(a==sysModules)=false/\∃xs:List (List Key×Addr×Value),
  Paired (λ(p:List Key×V) (q:List Key×Addr×Value)=>p.1=q.1/\H q.2.1\.tup (p.1.map kV)/\RelV p.2 q.2.2) bf xs /\
  ∃o es ep,h.get? a\o/\o.ExactDict/\o.data=.dict es ep/\es.toList=xs.map (entryOfKey (tupleKind (bM P w)))/\(xs.map (·.1)).Nodup
 |.set S n=>h.SetOf (intKind P w) a S n
 |.ins C dx fs=>H dx\.own a/\fs.length<=1000/\dx≠a/\h.get? a\W.instObj C dx /\
  ∃mA,h.Ns1 dx mA/\(∀f,j9 (fs.lookup f) (mA f))/\PySem.Within mA (fs.map (·.1))
 |.own _=>∃o,h.get? a\o
 |.xd fs=>∃mA,h.Ns1 a mA/\∀f,j9 (fs.lookup f) (mA f)
 |.Zq lo hi=>∃t u v,h.get? a=some {cls:=.type "range",data:=.fields ([.int lo t,.int hi u,.int 1 v].toArray)}
 |.jS o u=>h.get? a\o/\bO H h a u
 |.OU ps=>h.get? a=some {cls:=.none,data:=.fields ps}
 |.met f x=>h.get? a\W.methodObj (.ref f) (.ref x)
 |.ext φ=>φ h/\(∃o,h.get? a\o)/\∀h1 h2:Heap,φ h1->(∀o,h1.get? a\o->h2.get? a\o)->φ h2
def jl(H:Hp)(h:Heap):Prop:=∀a o,H a\o->bO P w H h a o
end
section
variable{H H':Hp}{o:HO}
def bO.lt(x:bO P w H h a o):a<h.objs.size:=by
 cases o with
 |lst xs=>let(_,_,_,_,e):=x;calc dz e
 |tup xs=>let(_,_,_,p):=x;calc p.lt
 |dK bf=>let(_,_,_,_,o,_,_,e,_):=x;calc dz e
 |dT bf=>let(_,_,_,_,o,_,_,e,_):=x;calc dz e
 |set S n=>let(o,_,_,_,e,_):=x;calc dz e
 |ins C dx fs=>let(_,_,_,e,_):=x;calc dz e
 |own y=>let(_,e):=x;calc dz e
 |xd fs=>let(_,(_,_,_,e,_),_):=x;calc dz e
 |Zq lo hi=>let(_,_,_,e):=x;calc dz e
 |jS ob u=>let(e,_):=x;calc dz e
 |OU ps=>calc dz (show h.get? a\_ from x)
 |met f y=>calc dz (show h.get? a\_ from x)
 |ext φ=>let(_,(_,e),_):=x;calc dz e
theorem Paired.m7{α β:Type}{F G:α->β->Prop}:∀{l₁:List α}{l₂:List β},Paired F l₁ l₂->(∀a b,F a b->G a b)->Paired G l₁ l₂
 |_,_,.nil,_=>.nil
 |_,_,.cons r t,f=>.cons (f _ _ r) (Paired.m7 t f)
def bO.ly(x:bO P w H h a o)(k:∀b u,(b=a\/H b\.own a)->h.get? b\u->h'.get? b\u)(ho:∀b,H b\.own a->H' b\.own a)(ht:∀b xs,H b\.tup xs->H' b\.tup xs):bO P w H' h' a o:=by
 induction o with
 |lst xs=>let(z,aN,n,r,e):=x;calc#[z,aN,n,r,k _ _ 7 e]
 |tup xs=>let(z,aN,r,ob,e,c):=x;calc#[z,aN,r,ob,k _ _ 7 e,c]
 |dK bf=>let(z,y,vs,r,ob,es,ep,e,c):=x;calc#[z,y,vs,r,ob,es,ep,k _ _ 7 e,c]
 |dT bf=>let(z,y,xs,r,ob,es,ep,e,c):=x;calc#[z,y,xs,Paired.m7 r λp q z=>#[z.1,ht _ _ z.2.1,z.2.2],ob,es,ep,k _ _ 7 e,c]
 |set S n=>let(ob,es,ep,t,e,c):=x;calc#[ob,es,ep,t,k _ _ 7 e,c]
 |ins C dx fs=>let(d,z,ne,e,mA,(od,es,ep,e2,c),r):=x;calc#[ho _ d,z,ne,k _ _ 7 e,mA,#[od,es,ep,k _ _ (.inr d) e2,c],r]
 |own y=>let(ob,e):=x;calc#[ob,k _ _ 7 e]
 |xd fs=>let(mA,(od,es,ep,e,c),r):=x;calc#[mA,#[od,es,ep,k _ _ 7 e,c],r]
 |Zq lo hi=>let(t,u,v,e):=x;calc#[t,u,v,k _ _ 7 e]
 |jS ob u ih=>let(e,q):=x;calc#[k _ _ 7 e,ih q]
 |OU ps=>have e:=x;calc k a _ 7 e
 |met f y=>have e:=x;calc k a _ 7 e
 |ext φ=>let(p,(o,e),st):=x;calc#[st _ _ p λo q=>k _ _ 7 q,#[o,k _ _ 7 e],st]
def jl.lt(x:jl P w H h)(e:H a\o):a<h.objs.size:=(x a o e).lt
def jl.fresh(x:jl P w H h)(e:h.objs.size<=a):H a=none:=by
 cases q:H a with
 |none=>rfl
 |some u=>calc absurd (qt (x.lt q) e) (B' _)
def jl.kept(x:jl P w H h)(k:∀b u,h.get? b\u->h'.get? b\u):jl P w H h':=λa o e=>
 (x a o e).ly (λb u _ q=>k b u q) (λ_ q=>q) λ_ _ q=>q
def jl.laid(x:jl P w H h)(k:∀b u,h.get? b\u->h'.get? b\u)(hp:h.objs.size<=a)(new:bO P w (upd H a o) h' a o):jl P w (upd H a o) h':=λb u e=>by have hn:=x.fresh hp;by_cases hb:b=a;subst hb;rw[aG] at e;cases e;calc new;rw[az hb] at e;calc (x b u e).ly (λc v _ q=>k c v q) (λc q=>by rw[az (bx q hn)];calc q) λc xs q=>by rw[az (bx q hn)];calc q
end
def Rd(H:Hp)(a:Addr)(u:HO):Prop:=H a=some u\/∃o,H a\.jS o u
def Rd.ok{H:Hp}{u:HO}(r:Rd H a u)(x:jl P w H h):bO P w H h a u:=by
 obtain r|⟨o,r⟩:=r
 calc x a u r;let(_,q):=x a _ r;calc q
def TZ:Option HO->Prop
 |some (.lst _)=>True
 |some (.dK _)=>True
 |some (.dT _)=>True
 |some (.set _ _)=>True
 |some (.ins _ _ _)=>True
 |some (.ext _)=>True
 |_=>False
section
variable{H:Hp}{x e:Addr}{o':HO}
def jl.write(ok:jl P w H h)(mu:TZ (H x))(he:e=x\/H e\.own x)(k:∀b u,b≠e->h.get? b\u->h'.get? b\u)(Nt:∃u,h'.get? e\u)(new:bO P w (upd H x o') h' x o'):jl P w (upd H x o') h':=λb u q=>by
 have T1:∀c y,H c\.own y->c≠x:=λc y r z=>by subst z;rw[r] at mu;exact mu
 have Zr:∀c xs,H c\.tup xs->c≠x:=λc xs r z=>by subst z;rw[r] at mu;exact mu
 by_cases hb:b=x;subst hb;rw[aG] at q;cases q;calc new;rw[az hb] at q;by_cases Eb:b=e;have q':H b\.own x:=by
  obtain z|z:=he
  calc absurd (Eb.trans z) hb;rw[Eb];exact z
 rw[q] at q';cases q';let(v,hv):=Nt;calc#[v,by rw[Eb];calc hv];show (ok b u q).ly (λc v hc r=>k c v ?_ r) (λc r=>by rw[az (T1 c b r)];calc r) λc xs r=>by rw[az (Zr c xs r)];exact r
 obtain rfl|hc:=hc
 calc Eb;rintro rfl;obtain z|z:=he
 calc T1 c b hc z;rw[hc] at z;cases z;calc hb 9
end
structure Un(fs ex:zm)(H H':Hp)(h h':Heap):Prop where
 keep:∀b o,h.get? b\o->H b=none->b∉fs->b∉ex->h'.get? b\o
 slot:∀b o,h.get? b\o->H b=none->b∈fs->b∉ex->∃sl,h'.get? b=some {o with slots:=sl}
 free:∀b o,h.get? b\o->H b=none->b∉ex->H' b=none
 there:∀b o,h.get? b\o->b∉ex->∃o',h'.get? b\o'
 vQ:∀b xs,H b\.tup xs->H' b\.tup xs
 sO:∀b o u,H b\.jS o u->H' b\.jS o u
 vR:∀b ps,H b\.OU ps->∃more,H' b\.OU (ps++more)
section
variable{fs Zs ex Zt:zm}{H H1 H2:Hp}{h1 h2:Heap}{x e:Addr}{o:HO}
def Un.any(u:Un fs ex H H1 h h1){b:Addr}{ob:Obj}(q:h.get? b\ob)(n:H b=none)(hx:b∉ex):∃sl,h1.get? b=some {ob with slots:=sl}:=by by_cases hb:b∈fs;calc u.slot b ob q n hb hx;calc#[ob.slots,u.keep b ob q n hb hx]
def Un.kept(k:∀b u,h.get? b\u->h'.get? b\u):Un fs ex H H h h' :=
 #[λb ob q _ _ _=>k b ob q,λb ob q _ _ _=>#[ob.slots,k b ob q],λ_ _ _ n _=>n,λb ob q _=>#[ob,k b ob q],λ_ _ q=>q,λ_ _ _ q=>q,λ_ ps q=>#[([].toArray),by rw[q];simp]]
def Un.refl:Un fs ex H H h h:=Un.kept λ_ _ q=>q
def Un.laid(k:∀b u,h.get? b\u->h'.get? b\u)(hp:h.objs.size<=a)(hn:H a=none):Un fs ex H (upd H a o) h h' where
 keep:=λb u q _ _ _=>k b u q
 slot:=λb u q _ _ _=>#[u.slots,k b u q]
 free:=λb u q n _=>by rw[az (gf (qt (dz q) hp))];exact n
 there:=λb u q _=>#[u,k b u q]
 vQ:=λb xs q=>by rw[az (bx q hn)];exact q
 sO:=λb u xs q=>by rw[az (bx q hn)];exact q
 vR:=λb ps q=>#[([].toArray),by rw[az (bx q hn),q];simp]
def Un.write(mu:TZ (H x))(he:e=x\/H e\.own x)(k:∀b u,b≠e->h.get? b\u->h'.get? b\u)(Nt:∃u,h'.get? e\u):Un fs ex H (upd H x o) h h':=by
 have hx:∀b,H b=none->b≠x:=λb n z=>by subst z;rw[n] at mu;exact mu
 have hb:∀b,H b=none->b≠e:=λb n z=>by
  subst z;obtain r|r:=he
  calc hx b n r;rw[n] at r;cases r
 have hm:∀b u,H b\u->¬ TZ (some u)->b≠x:=λb u q nm z=>by subst z;rw[q] at mu;exact nm mu
 show#[λb u q n _ _=>k b u (hb b n) q,λb u q n _ _=>#[u.slots,k b u (hb b n) q],λb u q n _=>by rw[az (hx b n)];exact n,λb u q _=>?_,
  λb xs q=>by rw[az (hm b _ q λz=>z)];calc q,λb u xs q=>by rw[az (hm b _ q λz=>z)];calc q,λb ps q=>#[([].toArray),by rw[az (hm b _ q λz=>z),q];simp]]
 by_cases Eb:b=e;subst Eb;calc Nt;calc#[u,k b u Eb q]
end
def Yg(h:Heap)(H:Hp):zm:=(List.range h.objs.size).filter λa=>(H a).isSome
def vS(h:Heap)(H:Hp):Heap:=W.hideAll h (Yg h H)
def Ce(h:Heap)(H:Hp):(vS h H).objs.size=h.objs.size:=W.hideAll_size _ _
def Et{H:Hp}{b:Addr}(e:h.get? b\o)(n:H b=none):(vS h H).get? b\o :=
 W.hideAll_get _ e λhm=>by have q:=(D_.mp hm).2;rw[n] at q;simp at q
def JI{H:Hp}{b:Addr}(e:(vS h H).get? b\o):h.get? b\o/\H b=none:=by
 have e':=W.of_hideAll (Yg h H) e;show#[e',?_];cases q:H b with
 |none=>rfl
 |some x=>have hm:b∈Yg h H:=D_.mpr #[m6.mpr (dz e'),by simp[q]];have z:(vS h H).get? b=none:=W.hideAll_none (Yg h H) hm;rw[z] at e;cases e
structure Mod(K:qaf)(mg:qae)(base:Heap):Prop where
 Yh:K.In base
 glob:base.Ns mainGlobals mg
 blt:∃mb,base.Ns builtinsNs mb/\∀x:Str,x≠"__name__"->mb x=bootBuiltins x
 nolimit:base.NoLimit
structure Cx where
 prog:Program
 w:World
 K:qaf
 mg:qae
 base:Heap
 A:Around
 N:ω
 s₀:Shared
 H₀:Hp
 env:Env
 outer:List Env
 stack:List Env
 ex:zm
 fn:Str->Bool
 calm:Bool
 pn:qaa
 xe:qad
def Ec(l:List Env):zm:=l.filterMap (·.frame)
abbrev Cx.fs(X:Cx):zm:=Ec X.outer
def m8(sc:Scope)(x:Str):Prop:=sc.names.lookup x=some .local\/sc.names.lookup x\.cell\/sc.names.lookup x\.free
theorem _root_.jvv{sc x}(h:(match sc.names.lookup x with|some .local|some .cell|some .free=>true|_=>false)=true):m8 sc x:=by unfold m8;split at h<;>simp_all
def Loc(sc:Scope)(x:Str):Prop:=sc.names.lookup x=some .local\/sc.names.lookup x\.cell
def Look(env:Env)(h:Heap)(m:qae)(x:Str)(u:Value):Prop :=
 (env.kindOf x\.local/\m x\u)\/((env.kindOf x\.cell\/env.kindOf x\.free)/\∃c,env.cells.lookup x\c/\h.IsCell c (some u))
structure Cx.Ok(X:Cx):Prop where
 mod:Mod X.K X.mg X.base
 kind:X.env.scope.kind=.function
 glob:X.env.globals=mainGlobals
 blt:X.env.builtins=builtinsNs
 above:X.s₀.heap.objs.size<=X.env.locals
 inj:∀x y c,X.env.cells.lookup x\c->X.env.cells.lookup y\c->x=y
 has:∀x,(X.env.kindOf x\.cell\/X.env.kindOf x\.free)->∃c,X.env.cells.lookup x\c
 T2:∀x c,X.fn x=true->X.env.cells.lookup x\c->X.s₀.heap.objs.size<=c
 hd:X.calm=true->X.A.handled=none
 frames:X.A.frames\X.stack
 Yi:X.stack=X.outer\/(X.stack=19::X.outer/\X.env.frame\X.env.locals)
 exf:∀b∈X.ex,b≠X.env.locals/\∀x c,X.env.cells.lookup x\c->c≠b
 bs:∀b o,X.base.get? b\o->X.s₀.heap.get? b\o/\X.H₀ b=none
 JJ:X.base.objs.size<=X.s₀.heap.objs.size
 Eu:∀b o,X.base.get? b\o->b∉X.ex
 JK:∀b∈X.ex,b∉X.fs
 m9:X.s₀.heap.FunFrames X.base X.outer
 OW:∀b∈X.fs,X.H₀ b=none
structure Inv(X:Cx)(ε:qaa)(σ:List (Option V))(H:Hp)(s:Shared):Prop where
 ok:X.Ok
 os:s.os=X.s₀.os
 bare:AllBare s.gens
 base:Un X.fs X.ex X.H₀ H X.s₀.heap 50
 loc:∃m,s.heap.Ns X.env.locals m/\∀(i:Nat)(x:Str)(v:V),X.N[i]?\x->σ[i]?\some v->m8 41 x->∃u,RelV v u/\Look 19 50 m x u
 cell:∀x c,X.env.cells.lookup x\c->∃v,s.heap.IsCell c v
 free:H X.env.locals=none
 iF:∀x c,X.env.cells.lookup x\c->H c=none
 pin:∀p∈X.pn++ε,s.heap.get? p.1\p.2/\H p.1=none/\p.1≠X.env.locals/\p.1∉X.fs/\∀v,p.2.data≠.cell v
 bC:jl 39 X.w H 50
 len:σ.length=X.N.length
section
variable{X:Cx}{ε:qaa}{σ:List (Option V)}{H H':Hp}
def Cx.Ok.Zu(ok:X.Ok){b:Addr}(e:X.base.get? b\o):b∉X.fs:=λhb=>by have:=(ok.m9.mem hb).1;rw[e] at this;cases this
def Inv.bs(I:Inv X ε σ H s):∀b o,X.base.get? b\o->s.heap.get? b\o/\H b=none:=λb o e=>
 #[I.base.keep b o (I.ok.bs b o e).1 (I.ok.bs b o e).2 (I.ok.Zu e) (I.ok.Eu b o e),I.base.free b o (I.ok.bs b o e).1 (I.ok.bs b o e).2 (I.ok.Eu b o e)]
def Inv.bk(I:Inv X ε σ H s):∀b o,X.base.get? b\o->s.heap.get? b\o:=λb o e=>(I.bs b o e).1
def Inv.mod(I:Inv X ε σ H s):Mod X.K X.mg X.base:=I.ok.mod
def Inv.vJ(I:Inv X ε σ H s):X.K.In 50:=I.ok.mod.Yh.keeps I.bk
def Inv.lt(I:Inv X ε σ H s):X.env.locals<8:=let #[_,hn,_]:=I.loc;hn.lt
def Inv.sz(I:Inv X ε σ H s):X.s₀.heap.objs.size<=8:=jR I.ok.above (SM I.lt)
def Inv.Zv(I:Inv X ε σ H s)(h:8<=a):a∉X.fs:=λhb=>by let(_,o,ho,_):=I.ok.m9.mem hb;calc absurd (qt (dz ho) (jR I.sz h)) (B' _)
def Inv.JM(I:Inv X ε σ H s):∀x c,X.env.cells.lookup x\c->c≠X.env.locals:=λx c e z=>by let(v,o,ho,hd):=I.cell x c e;let(m,(o',es,ep,m_,T3,_),_):=I.loc;rw[z,m_] at ho;cases ho;rw[T3] at hd;cases hd
def Inv.m9(I:Inv X ε σ H s):s.heap.FunFrames X.base X.outer:=by
 have all:∀l,(∀b∈Ec l,b∈X.fs)->X.s₀.heap.FunFrames X.base l->s.heap.FunFrames X.base l:=by
  intro l;induction l with
  |nil=>intro _ _;trivial
  |cons env r ih=>intro hs hl;let(hk,(L,o,hf,hn,ho,hd),hr):=hl;have hL:=hs L (by unfold Ec;rw[rf,hf];calc fM);let(sl,e):=I.base.slot L o ho (I.ok.OW L hL) hL λz=>I.ok.JK L z hL;exact#[hk,#[L,_,hf,hn,e,hd],ih (λb hb=>hs b (by unfold Ec;rw[rf,hf];calc gT _ hb)) hr]
 calc all X.outer (λ_ hb=>hb) I.ok.m9
def Inv.stack(I:Inv X ε σ H s):s.heap.FunFrames X.base X.stack:=by
 obtain e|⟨e,hf⟩:=I.ok.Yi
 rw[e];calc I.m9;rw[e];let(m,hn,_):=I.loc;calc .cons (by rw[I.ok.kind];decide) hf hn (Heap.get?_none_of_le (jR I.ok.JJ I.ok.above)) I.m9
def Inv.yt(I:Inv X ε σ H s):∀b∈Ec X.stack,b∈X.env.locals::X.fs:=λb hb=>by
 obtain e|⟨e,hf⟩:=I.ok.Yi
 rw[e] at hb;calc gT _ hb;rw[e] at hb;unfold Ec at hb;rw[rf,hf] at hb;calc hb
def Inv.Av(I:Inv X ε σ H s):∀b∈Ec X.stack,H b=none:=λb hb=>by
 rcases cY.mp (I.yt b hb) with e|hb
 rw[e];calc I.free;let(_,o,ho,_):=I.ok.m9.mem hb;calc I.base.free b o ho (I.ok.OW b hb) λz=>I.ok.JK b z hb
def Inv.step{g':Array GenState}{d':Drawn}{ch:zm}(I:Inv X ε σ H s)(Jp:∀b∈ch,(b∈X.ex\/X.s₀.heap.objs.size<=b)/\b≠X.env.locals/\(∀x c,X.env.cells.lookup x\c->c≠b)/\∀p∈X.pn++ε,p.1≠b)(keep:∀b o,b≠X.env.locals->b∉X.fs->b∉ch->s.heap.get? b\o->H b=none->h'.get? b\o)(slot:∀b o,b≠X.env.locals->b∈X.fs->b∉ch->s.heap.get? b\o->H b=none->∃sl,h'.get? b=some {o with slots:=sl})(free:∀b o,b∉ch->s.heap.get? b\o->H b=none->H' b=none)(there:∀b o,b∉ch->s.heap.get? b\o->∃o',h'.get? b\o')(vQ:∀b xs,H b\.tup xs->H' b\.tup xs)(sO:∀b o u,H b\.jS o u->H' b\.jS o u)(vR:∀b ps,H b\.OU ps->∃more,H' b\.OU (ps++more))(ns:∀m,s.heap.Ns X.env.locals m->h'.Ns X.env.locals m)(bC:jl 39 X.w H' h')(hg:AllBare g') :
  Inv X ε σ H' {s with heap:=h',gens:=g',drawn:=d',toks:=t'}:=by
 have neL:∀b o,X.s₀.heap.get? b\o->b≠X.env.locals:=λb o e=>gf (qt (dz e) I.ok.above);have Yj:∀b o,X.s₀.heap.get? b\o->b∉X.ex->b∉ch:=λb o e hx hb=>by
  rcases (Jp b hb).1 with z|z
  calc hx z;exact absurd (qt (dz e) z) (B' _)
 have cellK:∀x c,X.env.cells.lookup x\c->∀v,s.heap.IsCell c v->h'.IsCell c v:=λx c e v #[o,ho,hd]=>by have Ew:=λz=>(Jp c z).2.2.1 x c e 9;by_cases hc:c∈X.fs;let(sl,q):=slot c o (I.JM x c e) hc Ew ho (I.iF x c e);calc#[_,q,hd];exact#[o,keep c o (I.JM x c e) hc Ew ho (I.iF x c e),hd]
 show#[I.ok,I.os,hg,#[λb o e n hb hx=>?_,λb o e n hb hx=>?_,λb o e n hx=>?_,λb o e hx=>?_,λb xs e=>vQ b xs (I.base.vQ b xs e),λb o xs e=>sO b o xs (I.base.sO b o xs e),λb ps e=>?_],?_,λx c e=>?_,?_,λx c e=>?_,λp hp=>?_,bC,I.len];calc keep b o (neL b o e) hb (Yj b o e hx) (I.base.keep b o e n hb hx) (I.base.free b o e n hx);let(sl,e1):=I.base.slot b o e n hb hx;let(sl',e2):=slot b _ (neL b o e) hb (Yj b o e hx) e1 (I.base.free b o e n hx);calc#[sl',e2];let(o',e1):=I.base.there b o e hx;calc free b o' (Yj b o e hx) e1 (I.base.free b o e n hx);let(o',e1):=I.base.there b o e hx;calc there b o' (Yj b o e hx) e1;let(m1,e1):=I.base.vR b ps e;let(m2,e2):=vR b _ e1;calc#[m1++m2,by rw[e2,Array.append_assoc]];let(m,hn,hl):=I.loc;show#[m,ns m hn,λi x v e1 e2 e3=>?_];let(u,r,l):=hl i x v e1 e2 e3;show#[u,r,?_];obtain l|⟨k,c,e,z⟩:=l
 calc .inl l;calc .inr #[k,c,e,cellK x c e _ z];let(v,z):=I.cell x c e;calc#[v,cellK x c e v z];let(m,(o,_,_,ho,_),_):=I.loc;calc free _ o (λz=>(Jp _ z).2.1 9) ho I.free;let(v,o,ho,hd):=I.cell x c e;calc free c o (λz=>(Jp c z).2.2.1 x c e 9) ho (I.iF x c e);let(e,n,ne,nf,d):=I.pin p hp;have Ew:=λz=>(Jp p.1 z).2.2.2 p hp 9;calc#[keep p.1 p.2 ne nf Ew e n,free p.1 p.2 Ew e n,ne,nf,d]
def Inv.un(I:Inv X ε σ H s)(u:Un X.fs [] H H' 50 h')(bC:jl 39 X.w H' h'):Inv X ε σ H' {s with heap:=h',toks:=t'}:=by
 let(m,(o,es,ep,ho,r),_):=id I.loc;let(sl,hL):=u.any ho I.free 4;calc I.step (ch:=[]) (λ_ z=>nomatch z) (λb o _ hb _ e n=>u.keep b o e n hb 4) (λb o _ hb _ e n=>u.slot b o e n hb 4) (λb o _ e n=>u.free b o e n 4) (λb o _ e=>u.there b o e 4) u.vQ u.sO u.vR (λm' hm=>by let(o',JN,OX,m_,r'):=hm;rw[ho] at m_;cases m_;calc#[_,JN,OX,hL,r']) bC I.bare
def Inv.call{g':Array GenState}{d':Drawn}{ch:zm}(I:Inv X ε σ H s)(u:Un (Ec X.stack) ch H H' 50 h')(bC:jl 39 X.w H' h')(hg:AllBare g')(Jp:∀b∈ch,(b∈X.ex\/X.s₀.heap.objs.size<=b)/\b≠X.env.locals/\(∀x c,X.env.cells.lookup x\c->c≠b)/\∀p∈X.pn++ε,p.1≠b) :
  Inv X ε σ H' {s with heap:=h',gens:=g',drawn:=d',toks:=t'}:=by
 let(m,(o,es,ep,ho,r),_):=id I.loc;let(sl,hL):=u.any ho I.free λz=>(Jp _ z).2.1 9;calc I.step Jp (λb o hL hb hc e n=>u.keep b o e n (λz=>(cY.mp (I.yt b z)).elim hL hb) hc) (λb o _ _ hc e n=>u.any e n hc) (λb o hc e n=>u.free b o e n hc) (λb o hc e=>u.there b o e hc) u.vQ u.sO u.vR (λm' hm=>by let(o',JN,OX,m_,r'):=hm;rw[ho] at m_;cases m_;calc#[_,JN,OX,hL,r']) bC hg
def Inv.turned(I:Inv X ε σ H s)(k:∀b o,b≠it->s.heap.get? b\o->h'.get? b\o)(hn:H it=none)(hL:it≠X.env.locals)(h1:it∈X.ex\/X.s₀.heap.objs.size<=it)(h2:∀x c,X.env.cells.lookup x\c->c≠it)(h3:∀p∈X.pn++ε,p.1≠it):Inv X ε σ H {s with heap:=h',toks:=t'}:=by
 have JO:∀b u,H b\u->b≠it:=λb u e z=>by rw[z,hn] at e;cases e
 show I.step (ch:=[it]) (λb hb=>?_) (λb o _ _ hc e _=>k b o (λz=>hc (by simp[z])) e) (λb o _ _ hc e _=>#[o.slots,k b o (λz=>hc (by simp[z])) e]) (λ_ _ _ _ n=>n)
  (λb o hc e=>#[o,k b o (λz=>hc (by simp[z])) e]) (λ_ _ e=>e) (λ_ _ _ e=>e) (λb ps e=>#[([].toArray),by rw[e];simp]) (λm hm=>?_) (λb u e=>?_) I.bare
 have e:b=it:=by simpa using hb
 subst e;calc#[h1,hL,h2,h3];let(o,es,ep,ho,r):=hm;calc#[o,es,ep,k _ o (Ne.symm hL) ho,r];show (I.bC b u e).ly (λc v hc q=>k c v ?_ q) (λ_ q=>q) λ_ _ q=>q;obtain z|z:=hc
 rw[z];calc JO b u e;calc JO c _ z
def Inv.tok(I:Inv X ε σ H s)(t:Nat):Inv X ε σ H {s with toks:=t}:=I.un Un.refl I.bC
def Inv.kept(I:Inv X ε σ H s)(k:∀b u,s.heap.get? b\u->h'.get? b\u):Inv X ε σ H {s with heap:=h',toks:=t'}:=I.un (Un.kept k) (I.bC.kept k)
def Inv.laid{o:HO}(I:Inv X ε σ H s)(k:∀b u,s.heap.get? b\u->h'.get? b\u)(hp:8<=a)(new:bO 39 X.w (upd H a o) h' a o) :
 Inv X ε σ (upd H a o) {s with heap:=h',toks:=t'}:=I.un (Un.laid k hp (I.bC.fresh hp)) (I.bC.laid k hp new)
def Inv.write{x e:Addr}{o:HO}(I:Inv X ε σ H s)(mu:TZ (H x))(he:e=x\/H e\.own x)(k:∀b u,b≠e->s.heap.get? b\u->h'.get? b\u)(Nt:∃u,h'.get? e\u)(new:bO 39 X.w (upd H x o) h' x o):Inv X ε σ (upd H x o) {s with heap:=h',toks:=t'}:=I.un (Un.write mu he k Nt) (I.bC.write mu he k Nt new)
def Inv.weak{σ':List (Option V)}(I:Inv X ε σ H s)(hl:σ'.length=σ.length)(w:∀(i:Nat) v,σ'[i]?\some v->σ[i]?\some v):Inv X ε σ' H s :=
 #[I.ok,I.os,I.bare,I.base,let #[m,hn,Jq]:=I.loc;#[m,hn,λi x v e1 e2 e3=>Jq i x v e1 (w i v e2) e3],I.cell,I.free,I.iF,I.pin,I.bC,hl.trans I.len]
def Inv.Aw{Ax:qaa}(I:Inv X ε σ H s)(h:∀p∈Ax,s.heap.get? p.1\p.2/\H p.1=none/\p.1≠X.env.locals/\p.1∉X.fs/\∀v,p.2.data≠.cell v):Inv X Ax σ H s :=
 #[I.ok,I.os,I.bare,I.base,I.loc,I.cell,I.free,I.iF,λp hp=>(gc.mp hp).elim (λz=>I.pin p (il _ z)) (h p),I.bC,I.len]
def vT{N:ω}(hN:N.Nodup)(a:N[i]?\x)(b:N[j]?\x):i=j:=by let(h1,e1):=dy.mp a;let(h2,e2):=dy.mp b;calc (List.getElem_inj hN).mp (e1.trans e2.symm)
def rm{M:Model}{E:qad}{v:V}{Q:Unit->Shared->Prop}(I:Inv X ε σ H s)(hN:X.N.Nodup)(hi:X.N[i]?\x)(hx:Loc 41 x)(r:RelV v u)(h:∀s',Inv X ε (σ.set i (some v)) H s'->(∃a,Heap.SameBut a 50 s'.heap/\(a=X.env.locals\/X.env.cells.lookup x\a))->Q Unit.unit s')(hf:X.fn x=true\/X.env.scope.names.lookup x\.local:=by first|calc .inl rfl|calc .inr rfl|assumption):wpAny M A (storeName 19 x u) Q E s:=by
 let(m,hn,hl):=id I.loc;have OY:(X.env.scope.kind==.class || (X.env.scope.kind==.module && X.env.locals != X.env.globals))=false:=by rw[I.ok.kind];rfl
 have hiσ:i<σ.length:=by rw[I.len];exact (dy.mp hi).1
 have JM:=I.JM;have tracked:∀{a:Addr}{h':Heap},(∃o,s.heap.get? a\o/\H a=none)->Heap.SameBut a 50 h'->jl 39 X.w H h':=λ{a h'} ha hs b ob e=>by
  let(_,_,Nu):=ha;show (I.bC b ob e).ly (λc w' hc q=>(hs.2 c ?_).trans q) (λ_ q=>q) λ_ _ q=>q;rintro rfl;obtain rfl|hc:=hc
  rw[Nu] at e;cases e;rw[Nu] at hc;cases hc
 obtain hk|hk:=hx
 show wpAny_storeName_local hk hn (λh' hn' hs=>?_) OY;let(oL,_,_,T4,_):=id hn;show h _ #[I.ok,I.os,I.bare,#[λb o e n hb hx=>?_,λb o e n hb hx=>?_,I.base.free,λb o e hx=>?_,I.base.vQ,I.base.sO,I.base.vR],#[_,hn',λj y v' e1 e2 e3=>?_],λy c e=>?_,I.free,I.iF,λp hp=>?_,tracked #[oL,T4,I.free] hs,by simpa using I.len] #[_,hs,.inl 9];calc (hs.2 b (gf (qt (dz e) I.ok.above))).trans (I.base.keep b o e n hb hx);let(sl,e1):=I.base.slot b o e n hb hx;calc#[sl,(hs.2 b (gf (qt (dz e) I.ok.above))).trans e1];let(o',e1):=I.base.there b o e hx;calc#[o',(hs.2 b (gf (qt (dz e) I.ok.above))).trans e1];by_cases hj:j=i;subst hj;rw[hi] at e1;cases e1;rw[D8 hiσ] at e2;cases e2;calc#[u,r,.inl #[hk,by simp]];rw[vG (Ne.symm hj)] at e2;let(u',r',q):=hl j y v' e1 e2 e3;show#[u',r',?_];obtain⟨k,e⟩|⟨k,c,e,z⟩:=q
 show .inl #[k,?_];have:y≠x:=λe=>hj (vT hN e1 (e▸hi));simp[this,e];calc .inr #[k,c,e,z.sameBut hs (JM y c e)];let(w',z):=I.cell y c e;calc#[w',z.sameBut hs (JM y c e)];let(e,n,ne,nf,d):=I.pin p hp;calc#[(hs.2 p.1 ne).trans e,n,ne,nf,d];have Zw:X.fn x=true:=by
  obtain z|z:=hf
  calc z;rw[z] at hk;cases hk
 let(c,hc):=I.ok.has x (.inl hk);let(w',z):=I.cell x c hc;show wpAny_storeName_cell I.ok.kind hk hc z (λh' og hs=>?_);let(oc,hoc,Zx):=id z;show h {s with heap:=h'} #[I.ok,I.os,I.bare,#[λb o e n hb hx=>?_,λb o e n hb hx=>?_,I.base.free,λb o e hx=>?_,I.base.vQ,I.base.sO,I.base.vR],#[m,hn.sameBut hs (Ne.symm (JM x c hc)),λj y v' e1 e2 e3=>?_],λy c' e=>?_,I.free,I.iF,λp hp=>?_,tracked #[oc,hoc,I.iF x c hc] hs,by simpa using I.len] #[c,hs,.inr hc];calc (hs.2 b (gf (qt (dz e) (I.ok.T2 x c Zw hc)))).trans (I.base.keep b o e n hb hx);let(sl,e1):=I.base.slot b o e n hb hx;calc#[sl,(hs.2 b (gf (qt (dz e) (I.ok.T2 x c Zw hc)))).trans e1];let(o',e1):=I.base.there b o e hx;calc#[o',(hs.2 b (gf (qt (dz e) (I.ok.T2 x c Zw hc)))).trans e1];by_cases hj:j=i;subst hj;rw[hi] at e1;cases e1;rw[D8 hiσ] at e2;cases e2;calc#[u,r,.inr #[.inl hk,c,hc,og]];rw[vG (Ne.symm hj)] at e2;let(u',r',q):=hl j y v' e1 e2 e3;show#[u',r',?_];obtain q|⟨k,c',e,z'⟩:=q
 calc .inl q;show .inr #[k,c',e,z'.sameBut hs ?_];rintro rfl;calc hj (vT hN e1 (I.ok.inj _ _ _ e hc▸hi));by_cases hcc:c'=c;subst hcc;calc#[_,og];let(w2,z2):=I.cell y c' e;calc#[w2,z2.sameBut hs hcc];let(e,n,ne,nf,d):=I.pin p hp;show#[(hs.2 p.1 ?_).trans e,n,ne,nf,d];intro q;rw[q,hoc] at e;have q':=Option.some.inj e;calc d w' (by rw[<- q'];calc Zx)
def oh{M:Model}{E:qad}{v:V}{Q:Unit->Shared->Prop}(I:Inv X ε σ H s)(hN:X.N.Nodup)(hi:X.N[i]?\x)(hx:Loc 41 x)(r:RelV v u)(h:∀s',Inv X ε (σ.set i (some v)) H s'->Q Unit.unit s')(hf:X.fn x=true\/X.env.scope.names.lookup x\.local:=by first|calc .inl rfl|calc .inr rfl|assumption):wpAny M A (storeName 19 x u) Q E s :=
 rm I hN hi hx r (λs' I' _=>h s' I') hf
def Inv.T5{ch:zm}(I:Inv X ε σ H s)(ho:s'.os=s.os)(u:Un (Ec X.stack) ch H H' 50 s'.heap)(bC:jl 39 X.w H' s'.heap)(hg:AllBare s'.gens)(Jp:∀b∈ch,(b∈X.ex\/X.s₀.heap.objs.size<=b)/\b≠X.env.locals/\(∀x c,X.env.cells.lookup x\c->c≠b)/\∀p∈X.pn++ε,p.1≠b):Inv X ε σ H' s':=by let(h',g',d',t',o'):=s';have e:=ho;subst e;calc I.call u bC hg Jp
end
abbrev XK:=Value->qar->Hp->Prop
abbrev St:=List (Option V)
abbrev VK:=V->Hp->Prop
abbrev TE:=St->Hp->VK->Prop
abbrev TT:=St->Hp->(Bool->Hp->Prop)->Prop
abbrev TA:=St->Hp->(List V->Hp->Prop)->Prop
structure Ends where
 nx:St->Hp->Prop
 rt:VK
 bk:St->Hp->Prop:=λ_ _=>False
 ct:St->Hp->Prop:=λ_ _=>False
abbrev TS:=Ends->St->Hp->Prop
def EP(X:Cx)(ε:qaa)(σ:St)(Q:VK)(u:Value)(s':Shared):Prop:=E2 λv H'=>Inv X ε σ H' s'/\RelV v u/\Q v H'
def TP(X:Cx)(ε:qaa)(σ:St)(Q:Bool->Hp->Prop)(b:Bool)(s':Shared):Prop:=∃H',Inv X ε σ H' s'/\Q b H'
def AP(X:Cx)(ε:qaa)(σ:St)(Q:List V->Hp->Prop)(us:qag)(s':Shared):Prop:=E2 λvs H'=>Inv X ε σ H' s'/\Vals vs us/\Q vs H'
def SP(X:Cx)(ε:qaa)(D:Ends)(f:Flow)(s':Shared):Prop :=
 match f with
 |.next=>∃σ' H',Inv X ε σ' H' s'/\D.nx σ' H'
 |.brk=>∃σ' H',Inv X ε σ' H' s'/\D.bk σ' H'
 |.cont=>∃σ' H',Inv X ε σ' H' s'/\D.ct σ' H'
 |.ret u=>∃v σ' H',Inv X ε σ' H' s'/\RelV v u/\D.rt v H'
def PE(X:Cx)(e:Expr)(t:TE):Prop :=
 ∀(ε:qaa)(s:Shared)(σ:St)(H:Hp)(Q:VK),Inv X ε σ H s->t σ H Q->wpAny 22 X.A (eval e 19) (EP X ε σ Q) X.xe s
def PT(X:Cx)(e:Expr)(t:TT):Prop :=
 ∀(ε:qaa)(s:Shared)(σ:St)(H:Hp)(Q:Bool->Hp->Prop),Inv X ε σ H s->t σ H Q->wpAny 22 X.A (isTrue e 19 (eval e 19)) (TP X ε σ Q) X.xe s
def PW(X:Cx)(e:Expr)(t:TT):Prop :=
 ∀(whole:Sem Value)(ε:qaa)(s:Shared)(σ:St)(H:Hp)(Q:Bool->Hp->Prop),Inv X ε σ H s->t σ H Q->wpAny 22 X.A (isTrue e 19 whole) (TP X ε σ Q) X.xe s
def PW.pt{X:Cx}{t:TT}(h:PW X e t):PT X e t:=h _
def PA(X:Cx)(es:qap)(t:TA):Prop :=
 ∀(pos:Pos)(ε:qaa)(s:Shared)(σ:St)(H:Hp)(Q:List V->Hp->Prop),Inv X ε σ H s->t σ H Q->wpAny 22 X.A (spliced (backTo pos (starEach es 19))) (AP X ε σ Q) X.xe s
def PS(X:Cx)(st:Stmt)(t:TS):Prop :=
 ∀(ε:qaa)(s:Shared)(σ:St)(H:Hp)(D:Ends),Inv X ε σ H s->t D σ H->wpAny 22 X.A (exec st 19) (SP X ε D) X.xe s
def jF(X:Cx)(st:qaq)(t:TS):Prop :=
 ∀(ε:qaa)(s:Shared)(σ:St)(H:Hp)(D:Ends),Inv X ε σ H s->t D σ H->wpAny 22 X.A (execs st 19) (SP X ε D) X.xe s
def cz{t:Sem α}{Q Q':α->Shared->Prop}{M:Model}{E:qad}(h:wpAny M A t Q E s)(hQ:∀a s,Q a s->Q' a s):wpAny M A t Q' E s:=Ψ h hQ λ_ _ x=>x
section
variable{X:Cx}
def Ex(i:Nat):TE:=λσ H Q=>∃v,σ[i]?\some v/\Q v H
def tC(v:V):TE:=λ_ H Q=>Q v H
def cA{pos:Pos}(hN:X.N[i]?\x)(hv:m8 41 x)(hd:f9 x:=by decide)(gv:q_ x:=by decide):PE X (.Name x pos) (Ex i):=by
 intro ε s σ H Q I h;let(v,e,h):=h;let(m,hn,hl):=I.loc;let(u,r,l):=hl i x v hN e hv;have fin:EP X ε σ Q u s:=#[v,H,I,r,h];obtain⟨hk,hm⟩|⟨hk,c,hc,Ay⟩:=l
 calc wpAny_Name (wpAny_loadName_local I.ok.kind hk hn hm fin) hd;obtain hk|hk:=hk
 calc wpAny_Name (wpAny_loadName_cell I.ok.kind hk hc Ay fin) hd;calc wpAny_Name (wpAny_loadName_free I.ok.kind hk hc Ay fin gv) hd
def OZ{i j pos}:PE X (.Constant (.int i) j pos) (tC (.int i)):=λ_ _ _ H _ I h=>wpAny_Constant_int #[.int i,H,I.tok _,#[_,9],h]
def T6{b j pos}:PE X (.Constant (.bool b) j pos) (tC (.bl b)):=λ_ _ _ H _ I h=>Constant_bool #[.bl b,H,I,9,h]
def O0{j pos}:PE X (.Constant .none j pos) (tC .bK):=λ_ _ _ H _ I h=>Constant_none #[.bK,H,I,9,h]
def O5{x j pos}:PE X (.Constant (.str x) j pos) (tC (.str x)):=λ_ _ _ H _ I h=>Calls.Constant_str #[.str x,H,I.tok _,#[_,9],h]
def Gl(X:Cx)(x:Str):Prop:=X.env.kindOf x=some .globalImplicit
def sP{E:qad}{ε:qaa}{σ:St}{H:Hp}{pos:Pos}{Q:qad}(I:Inv X ε σ H s)(hg:Gl X x)(hm:X.mg x\u)(h:Q u s)(hd:f9 x:=by decide):wpAny 22 X.A (eval (.Name x pos) 19) Q E s :=
 Calls.Name_function_global I.ok.kind hg (Calls.loadGlobal_global (by rw[I.ok.glob];calc I.mod.glob.keeps I.bk) hm h) hd
def lC{E:qad}{ε:qaa}{σ:St}{H:Hp}{pos:Pos}{Q:qad}(I:Inv X ε σ H s)(hg:Gl X x)(hm:X.mg x=none)(hv:bootBuiltins x\u)(h:Q u s)(hn:x≠"__name__":=by decide)(hd:f9 x:=by decide):wpAny 22 X.A (eval (.Name x pos) 19) Q E s:=by let(mb,h1,h2):=I.mod.blt;calc Calls.Name_function_global I.ok.kind hg (Calls.loadGlobal_builtin (by rw[I.ok.glob];calc I.mod.glob.keeps I.bk) hm (by rw[I.ok.blt];calc h1.keeps I.bk) ((h2 x hn).trans hv) h) hd
def JP{v:V}{pos:Pos}(hg:Gl X x)(hm:X.mg x\u)(r:RelV v u)(hd:f9 x:=by decide):PE X (.Name x pos) (tC v) :=
 λ_ _ _ H _ I h=>sP I hg hm #[v,H,I,r,h] hd
def JQ{v:V}{pos:Pos}(hg:Gl X x)(hm:X.mg x=none)(hv:bootBuiltins x\u)(r:RelV v u)(hn:x≠"__name__":=by decide)(hd:f9 x:=by decide):PE X (.Name x pos) (tC v) :=
 λ_ _ _ H _ I h=>lC I hg hm hv #[v,H,I,r,h] hn hd
variable{a:Expr}{ta tb:TE}{pos:Pos}
def tB(t:TE):TT:=λσ H Q=>t σ H λx H1=>∃c,x=.bl c/\Q c H1
def Ey{t:TE}(h:PE X e t)(he:∀whole,isTrue e 19 whole=(do let v <- whole;standAt e.pos;holding [v] (truthy v)):=by intro _;rfl):PT X e (tB t):=by intro ε s σ H Q I hw;show isTrue_plain (cz (h ε s σ H _ I hw) λv s1 #[x,H1,I1,r1,q1]=>?_) (he _);let(d,rfl,q):=q1;cases r1;calc Ξ #[H1,I1,q]
variable{tA T7:TT}{rest:qap}
def Zy(t u:TT):TT:=λσ H Q=>t σ H λc H1=>if c=true then u σ H1 Q else Q false H1
def tOr(t u:TT):TT:=λσ H Q=>t σ H λc H1=>if c=true then Q true H1 else u σ H1 Q
def Zz(t:TT):TT:=λσ H Q=>t σ H λc H1=>Q (!c) H1
def pw_and1(ha:PT X a tA):PW X (.BoolOp .And [a] pos) tA:=by
 intro wh ε s σ H Q I h;show isTrue_and (cz (ha ε s σ H Q I h) λc s1 e=>?_);cases c with
 |true=>calc isTrue_and_nil e
 |false=>calc e
def pw_or1(ha:PT X a tA):PW X (.BoolOp .Or [a] pos) tA:=by
 intro wh ε s σ H Q I h;show isTrue_or (cz (ha ε s σ H Q I h) λc s1 e=>?_);cases c with
 |false=>calc isTrue_or_nil e
 |true=>calc e
def pw_and(ha:PT X a tA)(hb:PW X (.BoolOp .And (b::rest) pos) T7):PW X (.BoolOp .And (a::b::rest) pos) (Zy tA T7):=by
 intro wh ε s σ H Q I h;show isTrue_and (cz (ha ε s σ H _ I h) λc s1 #[H1,I1,q1]=>?_);cases c with
 |true=>calc hb wh ε s1 σ H1 Q I1 q1
 |false=>calc#[H1,I1,q1]
def pw_or(ha:PT X a tA)(hb:PW X (.BoolOp .Or (b::rest) pos) T7):PW X (.BoolOp .Or (a::b::rest) pos) (tOr tA T7):=by
 intro wh ε s σ H Q I h;show isTrue_or (cz (ha ε s σ H _ I h) λc s1 #[H1,I1,q1]=>?_);cases c with
 |true=>calc#[H1,I1,q1]
 |false=>calc hb wh ε s1 σ H1 Q I1 q1
def O6(ha:PT X a tA):PT X (.UnaryOp .Not a pos) (Zz tA):=by intro ε s σ H Q I h;calc isTrue_not (ha ε s σ H (λc H1=>Q (!c) H1) I h)
def T8(ta tb:TE):TE:=λσ H Q=>ta σ H λx H1=>∃c,x=.bl c/\if c=true then tb σ H1 Q else Q (.bl false) H1
def ZA(ta tb:TE):TE:=λσ H Q=>ta σ H λx H1=>∃c,x=.bl c/\if c=true then Q (.bl true) H1 else tb σ H1 Q
def T9(ta:TE):TE:=λσ H Q=>ta σ H λx H1=>∃c,x=.bl c/\Q (.bl (!c)) H1
def O7{op}{t:TE}(h:PE X a t):PE X (.BoolOp op [a] pos) t:=λε s σ H Q I hw=>BoolOp_one (h ε s σ H Q I hw)
def O8(ha:PE X a ta)(hb:PE X (.BoolOp .And (b::rest) pos) tb):PE X (.BoolOp .And (a::b::rest) pos) (T8 ta tb):=by
 intro ε s σ H Q I h;show BoolOp_and (cz (ha ε s σ H _ I h) λv s1 #[x,H1,I1,r1,q1]=>?_);let(c,rfl,q1):=q1;cases r1;show Ξ ?_;cases c with
 |true=>calc hb ε s1 σ H1 Q I1 q1
 |false=>calc#[.bl false,H1,I1,9,q1]
def T_(ha:PE X a ta)(hb:PE X (.BoolOp .Or (b::rest) pos) tb):PE X (.BoolOp .Or (a::b::rest) pos) (ZA ta tb):=by
 intro ε s σ H Q I h;show BoolOp_or (cz (ha ε s σ H _ I h) λv s1 #[x,H1,I1,r1,q1]=>?_);let(c,rfl,q1):=q1;cases r1;show Ξ ?_;cases c with
 |false=>calc hb ε s1 σ H1 Q I1 q1
 |true=>calc#[.bl true,H1,I1,9,q1]
def O9(ha:PE X a ta):PE X (.UnaryOp .Not a pos) (T9 ta):=by intro ε s σ H Q I h;show UnaryOp_ (cz (ha ε s σ H _ I h) λv s1 #[x,H1,I1,r1,q1]=>?_);let(c,rfl,q1):=q1;cases r1;calc not_of (Ξ #[.bl (!c),H1,I1,9,q1])
def tIf(t:TT)(ta tb:TE):TE:=λσ H Q=>t σ H λc H1=>if c=true then ta σ H1 Q else tb σ H1 Q
def Ez(hc:PT X c tA)(ha:PE X a ta)(hb:PE X b tb):PE X (.IfExp c a b pos) (tIf tA ta tb):=by
 intro ε s σ H Q I h;show wpAny_IfExp (cz (hc ε s σ H _ I h) λd s1 #[H1,I1,q1]=>?_);cases d with
 |true=>calc ha ε s1 σ H1 Q I1 q1
 |false=>calc hb ε s1 σ H1 Q I1 q1
end
def fQ(K:qaf)(H:Hp)(a:Addr)(xs:List V):Prop :=
 Rd H a (.lst xs) \/
  ∃(o:Obj)(aN:Array Value)(n:Nat),K.lookup a\o/\o.cls=.type "list"/\o.dict=none/\o.data=.seq aN n/\aN.size<=sizeLine/\Vals xs aN.toList
def dJ(K:qaf)(H:Hp)(a:Addr)(xs:List V):Prop :=
 Rd H a (.tup xs) \/
  ∃(o:Obj)(aN:Array Value)(n:Nat),K.lookup a\o/\o.cls=.type "tuple"/\o.data=.seq aN n/\aN.size<=sizeLine/\Vals xs aN.toList
def ZC:Value->Option V
 |.none=>some .bK
 |.bool b=>some (.bl b)
 |.int i _=>some (.int i)
 |.str x _=>some (.str x)
 |.bytes b _=>some (.Zo b)
 |.float b _=>some (.Zp b)
 |.ref a=>some (.ref a)
 |.type n=>some (.ty n)
 |_=>none
def RelV.abs{x:V}(r:RelV x u):ZC u\x:=by
 cases x with
 |bK=>cases r;rfl
 |bl _=>cases r;rfl
 |ref _=>cases r;rfl
 |ty _=>cases r;rfl
 |_=>let(t,rfl):=r;rfl
def RelV.inj{x y:V}(r:RelV x u)(q:RelV y u):x=y:=Option.some.inj (r.abs.symm.trans q.abs)
theorem Vals.inj:∀{xs ys:List V}{us:qag},Vals xs us->Vals ys us->xs=ys
 |_,_,_,.nil,.nil=>rfl
 |_,_,_,.cons r t,.cons r' t'=>by rw[r.inj r',Vals.inj t t']
section
variable{X:Cx}{ε:qaa}{σ:St}{H:Hp}{xs ys:List V}
def fQ.of{K:qaf}(h:H a\.lst xs):fQ K H a xs:=.inl (.inl h)
def dJ.of{K:qaf}(h:H a\.tup xs):dJ K H a xs:=.inl (.inl h)
theorem Inv.list(I:Inv X ε σ H s)(h:fQ X.K H a xs):∃aN:qag,Vals xs aN/\PlainL 50 a aN.toArray/\34<=sizeLine:=by
 obtain h|⟨o,aN,n,hk,hc,hd,hs,hz,r⟩:=h
 let(z,aN,n,r,e):=h.ok I.bC;calc#[aN,r,#[_,n,e,9,9,9],z];show#[aN.toList,r,#[o,n,I.vJ a o hk,hc,hd,by simpa using hs],?_];have e:=r.length;simp only[JB] at e
 lia
theorem Inv.tuple(I:Inv X ε σ H s)(h:dJ X.K H a xs):∃aN:qag,Vals xs aN/\IsTup 50 a aN.toArray/\34<=sizeLine:=by
 obtain h|⟨o,aN,n,hk,hc,hs,hz,r⟩:=h
 let(z,aN,r,p):=h.ok I.bC;calc#[aN,r,p,z];show#[aN.toList,r,#[o,I.vJ a o hk,hc,n,by simpa using hs],?_];have e:=r.length;simp only[JB] at e
 lia
def Inv.j_(I:Inv X ε σ H s)(h:fQ X.K H a xs)(h':fQ X.K H a ys):xs=ys:=by
 let(aN,r,(o,n,e,_,_,d),_):=I.list h;let(ni,r',(o',n',e',_,_,d'),_):=I.list h';rw[e] at e';cases e';rw[d] at d';injection d' with d1 _
 have:aN=ni:=by simpa using Ω Array.toList d1
 subst this;calc r.inj r'
def Inv.lH(I:Inv X ε σ H s)(h:dJ X.K H a xs)(h':dJ X.K H a ys):xs=ys:=by
 let(aN,r,(o,e,_,n,d),_):=I.tuple h;let(ni,r',(o',e',_,n',d'),_):=I.tuple h';rw[e] at e';cases e';rw[d] at d';injection d' with d1 _
 have:aN=ni:=by simpa using Ω Array.toList d1
 subst this;calc r.inj r'
end
abbrev Cx.qw(X:Cx)(E:qad):Cx:={X with xe:=E}
abbrev Cx.Ed(X:Cx):Cx:=X.qw λ_ _=>False
def Cx.Ok.qw{X:Cx}(ok:X.Ok)(E:qad):(X.qw E).Ok :=
 #[ok.mod,ok.kind,ok.glob,ok.blt,ok.above,ok.inj,ok.has,ok.T2,ok.hd,ok.frames,ok.Yi,ok.exf,ok.bs,ok.JJ,ok.Eu,ok.JK,ok.m9,ok.OW]
def Cx.Ok.lJ{X:Cx}{E:qad}(ok:(X.qw E).Ok):X.Ok :=
 #[ok.mod,ok.kind,ok.glob,ok.blt,ok.above,ok.inj,ok.has,ok.T2,ok.hd,ok.frames,ok.Yi,ok.exf,ok.bs,ok.JJ,ok.Eu,ok.JK,ok.m9,ok.OW]
section
variable{X:Cx}{ε:qaa}{σ:St}{H:Hp}{E:qad}
def Inv.qw(I:Inv X ε σ H s)(E:qad):Inv (X.qw E) ε σ H s:=#[I.ok.qw E,I.os,I.bare,I.base,I.loc,I.cell,I.free,I.iF,I.pin,I.bC,I.len]
def Inv.lJ(I:Inv (X.qw E) ε σ H s):Inv X ε σ H s:=#[I.ok.lJ,I.os,I.bare,I.base,I.loc,I.cell,I.free,I.iF,I.pin,I.bC,I.len]
def SP.lJ{D:Ends}{f:Flow}(h:SP (X.qw E) ε D f s'):SP X ε D f s':=by
 cases f with
 |ret u=>let(v,σ',H',I,r,q):=h;calc#[v,σ',H',I.lJ,r,q]
 |_=>let(σ',H',I,q):=h;calc#[σ',H',I.lJ,q]
def jF.Ed{st:qaq}{t:TS}(h:jF X.Ed st t):jF X st t:=λε s σ H D I hw=>
 Ψ (h ε s σ H D (I.qw _) hw) (λ_ _ q=>q.lJ) λ_ _ z=>False.elim z
end
section
variable{X:Cx}{st:Stmt}{rest:qaq}{t u:TS}{te:TE}{pos:Pos}
def Nv:TS:=λD σ H=>D.nx σ H
def ZD(t u:TS):TS:=λD σ H=>t {D with nx:=u D} σ H
def Az:jF X [] Nv:=λ_ _ σ H _ I h=>aaC #[σ,H,I,h]
def iG(h1:PS X st t)(h2:jF X rest u):jF X (st::rest) (ZD t u):=by
 intro ε s σ H D I h;show wpAny_execs_cons (cz (h1 ε s σ H {D with nx:=u D} I h) λf s1 q=>?_);cases f with
 |next=>let(σ',H',I',q):=q;calc h2 ε s1 σ' H' D I' q
 |ret v=>calc q
 |_=>calc q
def ka(h1:PS X st t):jF X [st] t:=by
 intro ε s σ H D I h;show wpAny_execs_cons (cz (h1 ε s σ H D I h) λf s1 q=>?_);cases f with
 |next=>calc aaC q
 |ret v=>calc q
 |_=>calc q
def JR:PS X (.Pass pos) Nv:=λ_ _ σ H _ I h=>wpAny_Pass #[σ,H,I,h]
def Inv.quiet{ε:qaa}{σ:St}{H:Hp}(I:Inv X ε σ H s):interactive 19=false:=by simp[interactive,I.ok.kind]
def T'(te:TE):TS:=λD σ H=>te σ H λ_ H1=>D.nx σ H1
def JS(he:PE X e te)(hs:swapsWith e none pos.line 19=pure false:=by rfl):PS X (.Expr e pos) (T' te):=by intro ε s σ H D I h;calc wpAny_Expr_any (cz (he ε s σ H _ I h) λv s1 #[x,H1,I1,r1,q1]=>#[σ,H1,I1,q1]) I.quiet hs
def ZE(te:TE):TS:=λD σ H=>te σ H D.rt
def yu(he:PE X e te):PS X (.Return (some e) pos) (ZE te):=by intro ε s σ H D I h;calc wpAny_Return_some (cz (he ε s σ H _ I h) λv s1 #[x,H1,I1,r1,q1]=>#[x,σ,H1,I1,r1,q1])
def ZF(c:TT)(t u:TS):TS:=λD σ H=>c σ H λb H1=>if b=true then t D σ H1 else u D σ H1
def Nx{a b:qaq}{tc:TT}(hc:PT X c tc)(ha:jF X a t)(hb:jF X b u):PS X (.If c a b pos) (ZF tc t u):=by
 intro ε s σ H D I h;show wpAny_If (cz (hc ε s σ H _ I h) λd s1 #[H1,I1,q1]=>?_);cases d with
 |true=>calc ha ε s1 σ H1 D I1 q1
 |false=>calc hb ε s1 σ H1 D I1 q1
end
abbrev TG:=V->St->Hp->(St->Hp->Prop)->Prop
abbrev JT:=List V->St->Hp->(St->Hp->Prop)->Prop
def PG(X:Cx)(target:Expr)(t:TG):Prop :=
 ∀(ε:qaa)(s:Shared)(σ:St)(H:Hp)(v:V)(u:Value)(Q:St->Hp->Prop),Inv X ε σ H s->RelV v u->t v σ H Q ->
  wpAny 22 X.A (assign target 19 u) (λ_ s'=>∃σ' H',Inv X ε σ' H' s'/\Q σ' H') X.xe s
def EA(X:Cx)(ts:qap)(t:JT):Prop :=
 ∀(ε:qaa)(s:Shared)(σ:St)(H:Hp)(vs:List V)(us:qag)(Q:St->Hp->Prop),Inv X ε σ H s->Vals vs us->t vs σ H Q ->
  wpAny 22 X.A (assignInOrder ((assignEach ts 19).map (·.2)) us) (λ_ s'=>∃σ' H',Inv X ε σ' H' s'/\Q σ' H') X.xe s
abbrev O_:=V->V->V->Hp->(Hp->Prop)->Prop
def Ua(X:Cx)(t:O_):Prop :=
 ∀(ε:qaa)(s:Shared)(σ:St)(H:Hp)(o i v:V)(ov iv u:Value)(Q:Hp->Prop),Inv X ε σ H s->RelV o ov->RelV i iv->RelV v u->t o i v H Q ->
  wpAny 22 X.A (setItem ov iv u) (λ_ s'=>∃H',Inv X ε σ H' s'/\Q H') X.xe s
abbrev ZG:=V->V->Hp->VK->Prop
def PIp(X:Cx)(op:Operator)(t:ZG):Prop :=
 ∀(ε:qaa)(s:Shared)(σ:St)(H:Hp)(x y:V)(v u:Value)(Q:VK),Inv X ε σ H s->RelV x v->RelV y u->t x y H Q ->
  wpAny 22 X.A (inplaceOp op v u) (EP X ε σ Q) X.xe s
section
variable{X:Cx}{pos:Pos}
def oj(i:Nat):TG:=λv σ H Q=>Q (σ.set i (some v)) H
def JU(hN:X.N.Nodup)(hi:X.N[i]?\x)(hx:Loc 41 x)(hf:X.fn x=true\/X.env.scope.names.lookup x\.local:=by first|calc .inl rfl|calc .inr rfl|assumption):PG X (.Name x pos) (oj i):=by intro ε s σ H v u Q I r h;calc wpAny_assign_Name (oh I hN hi hx r (λs' I'=>#[_,H,I',h]) hf)
def ZH:JT:=λvs σ H Q=>vs=[]/\Q σ H
def Ub(t:TG)(u:JT):JT:=λvs σ H Q=>E2 λv r=>vs=v::r/\t v σ H λσ' H'=>u r σ' H' Q
def JV:EA X [] ZH:=by intro ε s σ H vs us Q I r h;let(e,h):=h;subst e;cases r;calc assignInOrder_nil #[σ,H,I,h]
def EB{es:qap}{t:TG}{u:JT}(h1:PG X e t)(h2:EA X es u)(hs:(assignEach (e::es) 19).map (·.2)=assign e 19::(assignEach es 19).map (·.2):=by rfl):EA X (e::es) (Ub t u):=by
 intro ε s σ H vs us Q I r h;let(v,vr,e1,h):=h;subst e1;cases r with
 |cons r rr=>rw[hs];calc assignInOrder_cons (cz (h1 ε s σ H _ _ _ I r h) λ_ s1 #[σ1,H1,I1,q1]=>h2 ε s1 σ1 H1 _ _ Q I1 rr q1)
def ZI(K:qaf)(n:Nat)(t:JT):TG:=λv σ H Q=>E2 λa xs=>v=.ref a/\dJ K H a xs/\34=n/\t xs σ H Q
def Pa{es:qap}{k:Nat}{t:JT}(hc:X.calm=true)(h:EA X es t)(hn:(assignEach es 19).length=n:=by rfl)(EC:(assignEach es 19).findIdx? (·.1)=none:=by rfl):PG X (.Tuple es k pos) (ZI X.K n t):=by intro ε s σ H v u Q I r hw;let(a,xs,e1,hq,hl,hw):=hw;subst e1;cases r;let(aN,rv,ht,hz):=I.tuple hq;show assign_Tuple_tuple (I.ok.hd hc) ht (by simp[hn,<- hl,rv.length]) EC λh' hx=>?_;have I1:=I.kept (t':=s.toks) λb o e=>hx b o (gf (dz e)) e;calc h ε _ σ H xs _ Q I1 (by simpa using rv) hw
def ZJ(to ti:TE)(t:O_):TG:=λv σ H Q=>to σ H λo H1=>ti σ H1 λi H2=>t o i v H2 λH3=>Q σ H3
def Pb{o i:Expr}{to ti:TE}{t:O_}(ho:PE X o to)(hi:PE X i ti)(hs:Ua X t)(ha:∀v,assign (.Subscript o i pos) 19 v=(do
    let ov <- holding [v] (eval o X.env)
    let iv <- holding [v,ov] (eval i X.env)
    standAt pos
    holding [v,ov,iv] (setItem ov iv v)
    release [v,ov,iv] []):=by intro _;rfl):PG X (.Subscript o i pos) (ZJ to ti t):=by
 intro ε s σ H v u Q I r h;calc ζ (v9 (cz (ho ε s σ H _ I h) λov s1 #[x,H1,I1,r1,q1]=>ζ (v9 (cz (hi ε s1 σ H1 _ I1 q1) λiv s2 #[y,H2,I2,r2,q2]=>ζ (wpAny_standAt (ζ (v9 (cz (hs ε s2 σ H2 x y v ov iv u _ I2 r1 r2 r q2) λ_ s3 #[H3,I3,q3]=>wpAny_release #[σ,H3,I3,q3]))))))))
def JW(te:TE)(g:TG):TS:=λD σ H=>te σ H λx H1=>g x σ H1 D.nx
def ED{tg:Expr}{te:TE}{g:TG}(he:PE X e te)(hg:PG X tg g)(hs:swapsWithSole [tg] e pos.line 19=pure false:=by rfl)(hw:swappedStores [tg] e 19=pure none:=by rfl)(h1:(assignEach [tg] 19).map (·.2)=[assign tg 19]:=by rfl):PS X (.Assign [tg] e pos) (JW te g):=by intro ε s σ H D I h;show wpAny_Assign_stores (cz (he ε s σ H _ I h) λv s1 #[x,H1,I1,r1,q1]=>?_) hs hw;rw[h1];calc cz (hg ε s1 σ H1 x v _ I1 r1 q1) λ_ s2 q=>q
def sQ{te:TE}(hN:X.N.Nodup)(hi:X.N[i]?\x)(hx:Loc 41 x)(he:PE X e te)(hs:swapsWith e (some (.Name x pos')) pos.line 19=pure false:=by rfl)(hf:X.fn x=true\/X.env.scope.names.lookup x\.local:=by first|calc .inl rfl|calc .inr rfl|assumption) :
  PS X (.Assign [.Name x pos'] e pos) (JW te (oj i)):=by
 intro ε s σ H D I h;calc wpAny_Assign_Name (cz (he ε s σ H _ I h) λv s1 #[y,H1,I1,r1,q1]=>oh I1 hN hi hx r1 (λs2 I2=>#[_,H1,I2,q1]) hf) hs
def ZL(i:Nat)(te:TE)(ti:ZG):TS:=λD σ H=>∃x,σ[i]?\some x/\te σ H λy H1=>ti x y H1 λz H2=>D.nx (σ.set i (some z)) H2
def Pc{te:TE}{op:Operator}{ti:ZG}(hN:X.N.Nodup)(hi:X.N[i]?\x)(hx:Loc 41 x)(he:PE X e te)(ho:PIp X op ti)(hf:X.fn x=true\/X.env.scope.names.lookup x\.local:=by first|calc .inl rfl|calc .inr rfl|assumption) :
  PS X (.AugAssign (.Name x pos') op e pos) (ZL i te ti):=by
 intro ε s σ H D I h;let(v,e1,h):=h;let(m,hn,hl):=I.loc;have vis:m8 41 x:=by obtain k|k:=hx;calc .inl k;exact .inr (.inl k)
 let(u,r,l):=hl i x v hi e1 vis;show wpAny_AugAssign_Name ?_;have go:wpAny 22 X.A (eval e 19) (λw s₂=>wpAny 22 X.A (inplaceOp op u w) (λr s₃=>wpAny 22 X.A (storeName 19 x r) (λ_=>SP X ε D .next) X.xe s₃) X.xe s₂) X.xe s:=cz (he ε s σ H _ I h) λw s1 #[y,H1,I1,r1,q1]=>cz (ho ε s1 σ H1 v y u w _ I1 r r1 q1) λz s2 #[zv,H2,I2,r2,q2]=>oh I2 hN hi hx r2 (λs3 I3=>#[_,H2,I3,q2]) hf;obtain⟨hk,hm⟩|⟨hk,c,hc,Ay⟩:=l
 calc wpAny_loadName_local I.ok.kind hk hn hm go;obtain hk|hk:=hk
 calc wpAny_loadName_cell I.ok.kind hk hc Ay go;obtain k|k:=hx
 have:X.env.scope.names.lookup x\.free:=hk;rw[k] at this;cases this;have:X.env.scope.names.lookup x\.free:=hk;rw[k] at this;cases this
end
section
variable{X:Cx}{pos:Pos}
def Pe(c:TT)(tb:TS):TS:=λD σ H=>∃W:Nat->St->Hp->Prop,(∃m,W m σ H)/\∀m σ H,W m σ H ->
 c σ H λb H1=>if b=true then ∃N:St->Hp->Prop,(∀σ' H',N σ' H'->∃m',m'<m/\W m' σ' H')/\tb {D with nx:=N,ct:=N,bk:=D.nx} σ H1 else D.nx σ H1
def vU{body:qaq}{tc:TT}{tb:TS}(hp:PassesOwn 22 X.A 19 X.xe)(hc:PT X c tc)(hb:jF X body tb):PS X (.While c body [] pos) (Pe tc tb):=by
 intro ε s σ H D I h;let(W,(m0,w0),turn):=h;show wpAny_While (codeAny_whileLoop (λn s'=>∃σ' H',Inv X ε σ' H' s'/\W n σ' H') ?_ m0 #[σ,H,I,w0]);rintro n s1 ⟨σ1,H1,I1,w1⟩;show aaj hp (cz (hc ε s1 σ1 H1 _ I1 (turn n σ1 H1 w1)) λb s2 #[H2,I2,q2]=>?_);cases b with
 |true=>
  let(N,hN,q2):=q2;show aaj hp (cz (hb ε s2 σ1 H2 _ I2 q2) λf s3 q3=>?_);cases f with
  |next=>let(σ3,H3,I3,n3):=q3;let(m',hm,w3):=hN σ3 H3 n3;calc#[m',hm,σ3,H3,I3,w3]
  |cont=>let(σ3,H3,I3,n3):=q3;let(m',hm,w3):=hN σ3 H3 n3;calc#[m',hm,σ3,H3,I3,w3]
  |brk=>calc q3
  |ret v=>calc q3
 |false=>calc aaC #[σ1,H2,I2,q2]
end
structure It where
 go:Nat->Hp->Prop
 SR:Nat->Hp->V->Hp->Prop
 stop:Nat->Hp->Prop
def lK(X:Cx)(ε:qaa)(H:Hp)(b:Addr):Prop :=
 H b=none/\b≠X.env.locals/\b∉X.fs/\(b∈X.ex\/X.s₀.heap.objs.size<=b)/\(∀x c,X.env.cells.lookup x\c->c≠b)/\∀p∈X.pn++ε,p.1≠b
def Inv.nq{X:Cx}{ε:qaa}{σ:St}{H H':Hp}{b:Addr}(I:Inv X ε σ H s)(hb:8<=b)(hn:H' b=none):lK X ε H' b:=by show#[hn,Cb (qt I.lt hb),I.Zv hb,.inr (jR I.sz hb),λx c e z=>?_,λp hp z=>?_];let(v,q):=I.cell x c e;calc absurd (qt q.lt (by rw[z];calc hb)) (B' _);calc absurd (qt (dz (I.pin p hp).1) (by rw[z];calc hb)) (B' _)
structure Turn(P:Program)(w:World)(K:qaf)(tg:Expr)(J:It)(fp:zm)(it:Addr)(tn:Nat->Heap->Prop):Prop where
 mem:it∈fp
 obj:∀i h,tn i h->∀b∈fp,∃o,h.get? b\o/\∀v,o.data≠.cell v
 keep:∀i h h',tn i h->(∀b∈fp,∀o,h.get? b\o->h'.get? b\o)->tn i h'
 item:∀(X:Cx),39=P->X.w=w->X.K=K->X.calm=true->∀(i:Nat)(ε:qaa)(s:Shared)(σ:St)(H:Hp)(E:qad),Inv X ε σ H s->(∀b∈fp,lK X ε H b)->tn i 50->J.go i H ->
  wpAny (model P w) X.A (pyNext (.ref it)) (λr s1=>∃u,r\u /\
   wpAny (model P w) X.A (letOwnedTupleGo tg (.ref it) u) (λ_ s2=>∃x H',Inv X ε σ H' s2/\RelV x u/\J.SR i H x H'/\tn (i+1) s2.heap/\∀b∈fp,H' b=none) E s1) E s
 done:∀(X:Cx),39=P->X.w=w->X.K=K->X.calm=true->∀(i:Nat)(ε:qaa)(s:Shared)(σ:St)(H:Hp)(E:qad),Inv X ε σ H s->(∀b∈fp,lK X ε H b)->tn i 50->J.stop i H ->
  wpAny (model P w) X.A (pyNext (.ref it)) (λr s1=>r=none/\Inv X ε σ H s1) E s
 self:∀(A:Around)(i:Nat)(s:Shared)(Q:qad)(E:qad),tn i 50->Q (.ref it) s->wpAny (model P w) A (pyIter (.ref it)) Q E s
abbrev TI:=St->Hp->(It->Hp->Prop)->Prop
def PIE(X:Cx)(ε:qaa)(σ:St)(tg:Expr)(R:It->Hp->Prop)(Yk:Value)(s2:Shared):Prop :=
 ∃(it:Addr)(fp:zm)(tn:Nat->Heap->Prop)(J:It)(H':Hp),Yk=.ref it/\Inv X ε σ H' s2/\Turn 39 X.w X.K tg J fp it tn/\tn 0 s2.heap/\(∀b∈fp,lK X ε H' b)/\R J H'
def PI(X:Cx)(tg iter:Expr)(wi:TI):Prop :=
 ∀(ε:qaa)(s:Shared)(σ:St)(H:Hp)(R:It->Hp->Prop),Inv X ε σ H s->wi σ H R ->
  wpAny 22 X.A (eval iter 19) (λv s1=>wpAny 22 X.A (pyIter v) (PIE X ε σ tg R) X.xe s1) X.xe s
def vV{M:Model}{E:qad}{tg:Expr}{n:String}{vs:Array Value}{Q:Unit->Shared->Prop}(ho:s.heap.get? it\o)(hc:o.cls=.type n)(hd:o.data=.fields vs)(hn:["enumerate","zip","dict_itemiterator","dict_reverseitemiterator","odict_iterator","itertools.zip_longest","itertools.pairwise"].contains n=false)(hQ:Q Unit.unit s):wpAny M A (letOwnedTupleGo tg (.ref it) u) Q E s:=by
 cases tg<;>first
  |calc η hQ
  | (cases u<;>first
      |calc η hQ
      | (show ζ (wpAny_load ho ?_)
         rw[hc,hd];change wpAny M A (if (["enumerate","zip","dict_itemiterator","dict_reverseitemiterator","odict_iterator","itertools.zip_longest","itertools.pairwise"].contains n && vs[0]?==some (rawInt _))=true then _ else _) Q E s;rw[θ (by intro h;rw[hn,Jl] at h;cases h)];calc η hQ))
def ZM(K:qaf)(a:Addr):It :=
 #[λi H=>∃xs x,fQ K H a xs/\xs[i]?\x,λi H x H'=>H'=H/\∀xs,fQ K H a xs->xs[i]?\x,λi H=>∃xs,fQ K H a xs/\34<=i]
def ZN(K:qaf)(a:Addr):It :=
 #[λi H=>∃xs x,dJ K H a xs/\xs[i]?\x,λi H x H'=>H'=H/\∀xs,dJ K H a xs->xs[i]?\x,λi H=>∃xs,dJ K H a xs/\34<=i]
def Yl(lo:Int)(n:Nat):It:=#[λi _=>i<n,λi H x H'=>H'=H/\x=.int (lo+i),λi _=>n<=i]
def Cf{K:qaf}{tg:Expr}(a it:Addr):Turn P w K tg (ZM K a) [it] it (λi h=>h.IsListIter it a i) where
 mem:=by simp
 obj:=λi h st b hb=>by
  have e:b=it:=by simpa using hb
  subst e;let(o,e,c,d):=st;exact#[o,e,λv z=>by rw[d] at z;cases z]
 keep:=λi h h' st k=>st.at λo e=>k it 4 o e
 item:=by intro X hP hw hK hc i ε s σ H E I hf st hg;subst hP hw hK;let(xs,x,hq,hx):=hg;let(aN,rv,p,hz):=I.list hq;let(u,hu,ru):=rv.get hx;let(f0,f1,f2,f3,f4,f5):=hf it 4;show wpAny_pyNext_list_item st p.isList (by simpa using hu) λh' bh sb=>?_;have I1:=I.turned (t':=s.toks) (λb o hb e=>(sb.2 b hb).trans e) f0 f1 f3 f4 f5;let(o,e,c,d):=id bh;exact#[u,9,vV e c d 5 #[x,H,I1,ru,#[9,λys hy=>by rw[I.j_ hy hq];calc hx],bh,λb hb=>(hf b hb).1]]
 done:=by intro X hP hw hK hc i ε s σ H E I hf st hg;subst hP hw hK;let(xs,hq,hx):=hg;let(aN,rv,p,hz):=I.list hq;let(f0,f1,f2,f3,f4,f5):=hf it 4;have hl:=rv.length;exact wpAny_pyNext_list_end (I.ok.hd hc) st p.isList (by simp;lia) λh' eb=>#[9,I.turned (t':=s.toks) (λb o hb e=>eb b o hb e) f0 f1 f3 f4 f5]
 self:=λ_ _ _ _ _ st h=>wpAny_pyIter_listiter st h
def yw{K:qaf}{tg:Expr}(a it:Addr):Turn P w K tg (ZN K a) [it] it (λi h=>h.IsTupleIter it a i) where
 mem:=by simp
 obj:=λi h st b hb=>by
  have e:b=it:=by simpa using hb
  subst e;let(o,e,c,d):=st;exact#[o,e,λv z=>by rw[d] at z;cases z]
 keep:=λi h h' st k=>st.at λo e=>k it 4 o e
 item:=by intro X hP hw hK hc i ε s σ H E I hf st hg;subst hP hw hK;let(xs,x,hq,hx):=hg;let(aN,rv,p,hz):=I.tuple hq;let(u,hu,ru):=rv.get hx;let(f0,f1,f2,f3,f4,f5):=hf it 4;show wpAny_pyNext_tuple_item st (show s.heap.IsTuple a aN.toArray from p) (by simpa using hu) λh' bh sb=>?_;have I1:=I.turned (t':=s.toks) (λb o hb e=>(sb.2 b hb).trans e) f0 f1 f3 f4 f5;let(o,e,c,d):=id bh;exact#[u,9,vV e c d 5 #[x,H,I1,ru,#[9,λys hy=>by rw[I.lH hy hq];calc hx],bh,λb hb=>(hf b hb).1]]
 done:=by intro X hP hw hK hc i ε s σ H E I hf st hg;subst hP hw hK;let(xs,hq,hx):=hg;let(aN,rv,p,hz):=I.tuple hq;let(f0,f1,f2,f3,f4,f5):=hf it 4;have hl:=rv.length;exact wpAny_pyNext_tuple_end (I.ok.hd hc) st (show s.heap.IsTuple a aN.toArray from p) (by simp;lia) λh' eb=>#[9,I.turned (t':=s.toks) (λb o hb e=>eb b o hb e) f0 f1 f3 f4 f5]
 self:=λ_ _ _ _ _ st h=>wpAny_pyIter_tupleiter st h
def yx{K:qaf}{tg:Expr}(it:Addr)(lo:Int)(n:Nat):Turn P w K tg (Yl lo n) [it] it (λi h=>IsRangeIter h it (lo+(i:Nat) * 1) ((n:Int)-(i:Nat)) 1) where
 mem:=by simp
 obj:=λi h st b hb=>by
  have e:b=it:=by simpa using hb
  subst e;exact#[_,st,λv z=>by have z':=z;cases z']
 keep:=λi h h' st k=>k it 4 _ st
 item:=by intro X hP hw hK hc i ε s σ H E I hf st hg;subst hP hw hK;let(f0,f1,f2,f3,f4,f5):=hf it 4;have W:=Walks.range (prog:=39) (w:=X.w) (I.ok.hd hc) it lo 1 n;show W.item i s _ _ hg st λv h' tk hv bh kk=>?_;let(t,rfl):=hv;have I1:Inv X ε σ H {s with heap:=h',toks:=tk}:=I.turned (λb o hb e=>kk b o (by simpa using hb) e) f0 f1 f3 f4 f5;show#[_,9,vV bh 9 9 5 #[.int (lo+i),H,I1,#[t,?_],#[9,9],bh,λb hb=>(hf b hb).1]];rw[Int.mul_one]
 done:=by intro X hP hw hK hc i ε s σ H E I hf st hg;subst hP hw hK;let(f0,f1,f2,f3,f4,f5):=hf it 4;exact wpAny_pyNext_range_end (I.ok.hd hc) st (by have:n<=i:=hg;lia) λh' eb=>#[9,I.turned (λb o hb e=>eb b o hb e) f0 f1 f3 f4 f5]
 self:=λ_ _ _ _ _ st h=>wpAny_pyIter_rangeiter st h
section
variable{X:Cx}{tg:Expr}
theorem EF{ε:qaa}{σ:St}{H:Hp}{R:It->Hp->Prop}{E:qad}{lo hi:Int}{t u v:Tok}{tk:Nat}(I:Inv X ε σ H s)(h1 : -(2 ^ 62)<=lo)(h2:lo<2 ^ 62)(h3 : -(2 ^ 62)<=hi)(h4:hi<2 ^ 62)(q:R (Yl lo (hi-lo).toNat) H):wpAny 22 X.A (pyIter 32) (PIE X ε σ tg R) E {s with heap:=s.heap.push {cls:=.type "range",data:=.fields ([.int lo t,.int hi u,.int 1 v].toArray)},toks:=tk}:=by
 show wpAny_pyIter_range (IsRange.new ..) (small_one h1 h2 h3 h4) ?_;have I1:Inv X ε σ H {s with heap:=s.heap.push {cls:=.type "range",data:=.fields ([.int lo t,.int hi u,.int 1 v].toArray)},toks:=tk}:=I.kept λb o e=>c9 _ e;show#[(s.heap.push {cls:=.type "range",data:=.fields ([.int lo t,.int hi u,.int 1 v].toArray)}).objs.size,[(s.heap.push {cls:=.type "range",data:=.fields ([.int lo t,.int hi u,.int 1 v].toArray)}).objs.size],_,_,H,9,
  I1.kept λb o e=>c9 _ e,yx _ lo (hi-lo).toNat,?_,λb hb=>?_,q]
 have e1:lo+((0:Nat):Int) * 1=lo:=by simp
 have e2:(((hi-lo).toNat:Nat):Int)-((0:Nat):Int)=Builtin.Range.rangeSize lo hi 1:=by rw[rangeSize_one];split<;>lia
 rw[e1,e2];calc gU _ 9;have e:b=(s.heap.push {cls:=.type "range",data:=.fields ([.int lo t,.int hi u,.int 1 v].toArray)}).objs.size:=by simpa using hb
 subst e;calc I1.nq (cv _) (I1.bC.fresh (cv _))
def Uc(ta:TA):TI:=λσ H R=>ta σ H λvs H1=>∃j:Int,vs=[.int j]/\-(2 ^ 62)<=j/\j<2 ^ 62/\R (Yl 0 j.toNat) H1
theorem Cg{a:Expr}{ta:TA}{pos:Pos}(hg:Gl X "range")(hm:X.mg "range"=none)(ha:PA X [a] ta)(hs:starEach [a] 19=[(false,eval a 19)]:=by rfl):PI X tg (.Call (.Name "range" p) [a] [] pos) (Uc ta):=by
 intro ε s σ H R I h;show Call_ (lC I hg hm boot_range (XY (cz (ha pos ε s σ H _ I h) λus s1 #[vs,H1,I1,r1,q1]=>?_) hs 9));let(j,e,q1,q2,q):=q1;subst e;cases r1 with
 |cons r rr=>cases rr;let(t,rfl):=r;calc call_range_1 (EF I1 () () q1 q2 (by simpa using q))
def ZO(wi:TI)(g:TG)(tb:TS):TS:=λD σ H=>wi σ H λJ H1=>∃W:Nat->Nat->St->Hp->Prop,(∃m,W 0 m σ H1)/\∀i m σ H,W i m σ H ->
 (J.stop i H/\D.nx σ H)\/(J.go i H/\∃N:St->Hp->Prop,(∀σ' H',N σ' H'->∃m',m'<m/\W (i+1) m' σ' H')/\∀x H',J.SR i H x H'->g x σ H' λσ2 H2=>tb {D with nx:=N,ct:=N,bk:=D.nx} σ2 H2)
def om(fp:zm)(h:Heap):qaa:=fp.filterMap λb=>(h.get? b).map λo=>(b,o)
def gW{fp:zm}{b:Addr}(hb:b∈fp)(e:h.get? b\o):(b,o)∈om fp h:=Ya.mpr #[b,hb,by rw[e];rfl]
def Ci{fp:zm}{p:Addr×Obj}(hp:p∈om fp h):p.1∈fp/\h.get? p.1\p.2:=by
 let(b,hb,e):=Ya.mp hp;cases q:h.get? b with
 |none=>rw[q] at e;cases e
 |some o=>rw[q] at e;have e':=Option.some.inj e;subst e';calc#[hb,q]
def Inv.pinned{ε:qaa}{σ:St}{H:Hp}{fp:zm}(I:Inv X ε σ H s)(hf:∀b∈fp,lK X ε H b)(ho:∀b∈fp,∃o,s.heap.get? b\o/\∀v,o.data≠.cell v):Inv X (ε++om fp 50) σ H s :=
 I.Aw λp hp=>(gc.mp hp).elim (λz=>I.pin p (iC _ z)) λz=>by let(hb,e):=Ci z;let(f0,f1,f2,_):=hf p.1 hb;let(o,e',d):=ho p.1 hb;rw[e] at e';cases e';calc#[e,f0,f1,f2,d]
def Inv.kc{ε pl:qaa}{σ:St}{H:Hp}(I:Inv X (ε++pl) σ H s):Inv X ε σ H s:=I.Aw λp hp=>I.pin p (iC _ (il _ hp))
def yy{body:qaq}{wi:TI}{g:TG}{tb:TS}{pos:Pos}(hp:PassesOwn 22 X.A 19 X.xe)(hc:X.calm=true)(hi:PI X tg iter wi)(hg:PG X tg g)(hb:jF X body tb)(hs:∀x,foldedSetIterable iter 19 x=pure x:=by intro _;rfl):PS X (.For tg iter body [] pos) (ZO wi g tb):=by
 intro ε s σ H D I h;show wpAny_For (cz (hi ε s σ H _ I h) λv s1 h1=>cz h1 λYk s2 h2=>?_) hs;let(it,fp,tn,J,H2,e,I2,T,sR,f2,W,(m0,w0),turn):=h2;subst e;have Pf:∀{H':Hp},(∀b∈fp,H' b=none)->∀b∈fp,lK X ε H' b:=λhn b hb=>#[hn b hb,(f2 b hb).2];show codeAny_forLoop_any (λn s'=>∃i σ' H',Inv X ε σ' H' s'/\tn i s'.heap/\(∀b∈fp,H' b=none)/\W i n σ' H') ?_ m0 #[0,σ,H2,I2,sR,λb hb=>(f2 b hb).1,w0];rintro n s3 ⟨i,σ3,H3,I3,Ph,Ud,w3⟩;rcases turn i n σ3 H3 w3 with⟨stop,qn⟩|⟨go,N,hN,step⟩
 . show aaj hp (cz (T.done X 9 9 9 hc i ε s3 σ3 H3 X.xe I3 (Pf Ud) Ph stop) λr s4 #[hr,I4]=>?_);subst hr;exact aaC #[σ3,H3,I4,qn]
 show aaj hp (cz (T.item X 9 9 9 hc i ε s3 σ3 H3 X.xe I3 (Pf Ud) Ph go) λr s4 #[u,hr,h4]=>?_);subst hr;show aaj hp (cz h4 λ_ s5 #[x,H5,I5,r5,y5,Ny,ZP]=>?_);have I5':=I5.pinned (Pf ZP) (T.obj _ _ Ny);show aaj hp (cz (hg _ s5 σ3 H5 x u _ I5' r5 (step x H5 y5)) λ_ s6 #[σ6,H6,I6,q6]=>aaj hp (cz (hb _ s6 σ6 H6 _ I6 q6) λf s7 q7=>?_));have again:∀{σ7:St}{H7:Hp},Inv X (ε++om fp s5.heap) σ7 H7 s7->N σ7 H7->∃m,m<n/\∃i σ' H',Inv X ε σ' H' s7/\tn i s7.heap/\(∀b∈fp,H' b=none)/\W i m σ' H':=λ{σ7 H7} I7 n7=>by let(m',hm,w7):=hN σ7 H7 n7;show#[m',hm,i+1,σ7,H7,I7.kc,T.keep _ _ _ Ny λb hb o e=>(I7.pin (b,o) (iC _ (iC _ (gW hb e)))).1,λb hb=>?_,w7];let(o,e,d):=T.obj _ _ Ny b hb;exact (I7.pin (b,o) (iC _ (iC _ (gW hb e)))).2.1
 cases f with
 |brk=>let(σ7,H7,I7,q7):=q7;calc#[σ7,H7,I7.kc,q7]
 |ret v=>let(x7,σ7,H7,I7,r7,q7):=q7;calc#[x7,σ7,H7,I7.kc,r7,q7]
 |_=>let(σ7,H7,I7,n7):=q7;calc again I7 n7
end
abbrev R2:=V->V->Hp->VK->Prop
def eX(X:Cx)(f:Value->Value->Sem Value)(r:R2):Prop :=
 ∀(ε:qaa)(s:Shared)(σ:St)(H:Hp)(x y:V)(v u:Value)(Q:VK),Inv X ε σ H s->RelV x v->RelV y u->r x y H Q ->
  wpAny 22 X.A (f v u) (EP X ε σ Q) X.xe s
def ZQ(X:Cx)(f:Value->Sem Value)(r:V->Hp->VK->Prop):Prop :=
 ∀(ε:qaa)(s:Shared)(σ:St)(H:Hp)(x:V)(v:Value)(Q:VK),Inv X ε σ H s->RelV x v->r x H Q ->
  wpAny 22 X.A (f v) (EP X ε σ Q) X.xe s
def cV(X:Cx)(f:Value)(r:List V->Hp->VK->Prop):Prop :=
 ∀(ε:qaa)(s:Shared)(σ:St)(H:Hp)(xs:List V)(us:qag)(Q:VK),Inv X ε σ H s->Vals xs us->r xs H Q ->
  wpAny 22 X.A (call f us) (EP X ε σ Q) X.xe s
def Ue(r:R2)(ta tb:TE):TE:=λσ H Q=>ta σ H λx H1=>tb σ H1 λy H2=>r x y H2 Q
def tUn(r:V->Hp->VK->Prop)(ta:TE):TE:=λσ H Q=>ta σ H λx H1=>r x H1 Q
def rI(C:Int->Int->Prop)(g:Int->Int->V):R2:=λx y H Q=>E2 λi j=>x=.int i/\y=.int j/\C i j/\Q (g i j) H
def qp(g:Int->Int->V):R2:=λx y H Q=>E2 λi j=>x=.int i/\y=.int j/\Q (g i j) H
def rU(g:Int->V):V->Hp->VK->Prop:=λx H Q=>∃i,x=.int i/\Q (g i) H
section
variable{X:Cx}{a:Expr}{ta tb tc:TE}{pos:Pos}
def Pj(ha:PE X a ta)(hb:PE X b tb){ε:qaa}{σ:St}{H:Hp}{R:V->V->Hp->Prop}(I:Inv X ε σ H s)(h:ta σ H λx H1=>tb σ H1 λy H2=>R x y H2){Q:qad}{f:Value->Value->Sem Value}(hf:∀v u s2 x y H2,Inv X ε σ H2 s2->RelV x v->RelV y u->R x y H2->wpAny 22 X.A (f v u) Q X.xe s2) :
 wpAny 22 X.A (eval a 19) (λv s₁=>wpAny 22 X.A (eval b 19) (λu s₂=>wpAny 22 X.A (f v u) Q X.xe s₂) X.xe s₁) X.xe s:=cz (ha ε s σ H _ I h) λv s1 #[x,H1,I1,r1,q1]=>cz (hb ε s1 σ H1 _ I1 q1) λu s2 #[y,H2,I2,r2,q2]=>hf v u s2 x y H2 I2 r1 r2 q2
def Nz{op:Operator}{r:R2}(ho:eX X (binaryOp op) r)(ha:PE X a ta)(hb:PE X b tb):PE X (.BinOp a op b pos) (Ue r ta tb):=by intro ε s σ H Q I h;calc wpAny_BinOp (Pj ha hb I h λv u s2 x y H2 I2 rx ry q=>ho ε s2 σ H2 x y v u Q I2 rx ry q)
def Ug{op:UnaryOp}{r:V->Hp->VK->Prop}(ho:ZQ X (unaryOp op) r)(ha:PE X a ta):PE X (.UnaryOp op a pos) (tUn r ta):=by intro ε s σ H Q I h;calc UnaryOp_ (cz (ha ε s σ H _ I h) λv s1 #[x,H1,I1,r1,q1]=>ho ε s1 σ H1 x v Q I1 r1 q1)
def SS{f:Value->Value->Sem Value}{C:Int->Int->Prop}{g:Int->Int->Int}(rule:∀(i j:Int) (t u:Tok) (s:Shared) (Q:qad) (E:qad),C i j->Q (.int (g i j) s.toks) {s with toks:=s.toks+1}->wpAny 22 X.A (f (.int i t) (.int j u)) Q E s) :
  eX X f (rI C λi j=>.int (g i j)):=by
 intro ε s σ H x y v u Q I rx ry h;let(i,j,rfl,rfl,hc,q):=h;let(t,rfl):=rx;let(t',rfl):=ry;calc rule i j t t' s _ _ hc #[.int (g i j),H,I.tok _,#[_,9],q]
def Cj{f:Value->Value->Sem Value}{g:Int->Int->Int}(rule:∀(i j:Int) (t u:Tok) (s:Shared) (Q:qad) (E:qad),Q (.int (g i j) s.toks) {s with toks:=s.toks+1}->wpAny 22 X.A (f (.int i t) (.int j u)) Q E s) :
  eX X f (qp λi j=>.int (g i j)):=by
 intro ε s σ H x y v u Q I rx ry h;let(i,j,rfl,rfl,q):=h;let(t,rfl):=rx;let(t',rfl):=ry;calc rule i j t t' s _ _ #[.int (g i j),H,I.tok _,#[_,9],q]
def Pk{f:Value->Value->Sem Value}{g:Int->Int->Bool}(rule:∀(i j:Int) (t u:Tok) (s:Shared) (Q:qad) (E:qad),Q (.bool (g i j)) s->wpAny 22 X.A (f (.int i t) (.int j u)) Q E s) :
  eX X f (qp λi j=>.bl (g i j)):=by
 intro ε s σ H x y v u Q I rx ry h;let(i,j,rfl,rfl,q):=h;let(t,rfl):=rx;let(t',rfl):=ry;calc rule i j t t' s _ _ #[.bl (g i j),H,I,9,q]
def Uh(i j:Int):Prop:=0<j/\j<1073741824
def JX(i j:Int):Prop:=0<=j/\j<=1000000/\i.natAbs<2 ^ 64
def EG(i j:Int):Prop:=(-(2 ^ 64)<i/\i<2 ^ 64)\/(-(2 ^ 64)<j/\j<2 ^ 64)
def EG.ok{i j:Int}(h:EG i j):IntMulOk i j:=by
 obtain⟨h1,h2⟩|⟨h1,h2⟩:=h
 calc .of_left (intBits_le_64 h1 h2);calc .of_right (intBits_le_64 h1 h2)
def yz(k:Nat):(0:Int)<=2 ^ k:=SA _
def Pm:eX X (binaryOp .Add) (qp λi j=>.int (i+j)):=Cj λ_ _ _ _ _ _ _ q=>add_int q
def Pn:eX X (binaryOp .Sub) (qp λi j=>.int (i-j)):=Cj λ_ _ _ _ _ _ _ q=>sub_int q
def Po:eX X (binaryOp .Mult) (rI EG λi j=>.int (i * j)):=SS λ_ _ _ _ _ _ _ hc q=>mul_int q hc.ok
theorem JY:eX X (binaryOp .FloorDiv) (rI Uh λi j=>.int (i / j)):=SS λi j _ _ _ _ _ hc q=>by have h1:=hc.1;have h2:=hc.2;calc floordiv_int () (by rw[Int.fdiv_eq_ediv_of_nonneg i ()];calc q) (.inl (PyProof.noPylong_small ()))
theorem Pp:eX X (binaryOp .Mod) (rI (λ_ j=>0<j) λi j=>.int (i % j)):=SS λi j _ _ _ _ _ hc q=>mod_int' () (by rw[Int.fmod_eq_emod_of_nonneg i ()];calc q)
def Pq:eX X (binaryOp .Pow) (rI JX λi j=>.int (i ^ j.toNat)):=SS λ_ _ _ _ _ _ _ hc q=>pow_int_small hc.1 hc.2.1 hc.2.2 q
def Pr:eX X (binaryOp .LShift) (rI JX λi j=>.int (i * 2 ^ j.toNat)):=SS λ_ _ _ _ _ _ _ hc q=>lshift_int_small hc.1 hc.2.1 hc.2.2 q
def Pt:eX X (binaryOp .RShift) (rI (λ_ j=>0<=j) λi j=>.int (i / 2 ^ j.toNat)):=SS λi j _ _ _ _ _ hc q=>
 rshift_int hc (by rw[Int.fdiv_eq_ediv_of_nonneg i (yz _)];calc q)
def Pu:eX X (binaryOp .BitAnd) (qp λi j=>.int (Builtin.bitAnd i j)):=Cj λ_ _ _ _ _ _ _ q=>and_int q
def Ui:eX X (binaryOp .BitOr) (qp λi j=>.int (Builtin.bitOr i j)):=Cj λ_ _ _ _ _ _ _ q=>or_int q
def JZ:eX X (inplaceOp .Add) (qp λi j=>.int (i+j)):=Cj λ_ _ _ _ _ _ _ q=>iadd_int q
def Pw:eX X (inplaceOp .BitOr) (qp λi j=>.int (Builtin.bitOr i j)):=Cj λ_ _ _ _ _ _ _ q=>ior_int q
def unI{f:Value->Sem Value}{g:Int->Int}(rule:∀(i:Int) (t:Tok) (s:Shared) (Q:qad) (E:qad),Q (.int (g i) s.toks) {s with toks:=s.toks+1}->wpAny 22 X.A (f (.int i t)) Q E s) :
  ZQ X f (rU λi=>.int (g i)):=by
 intro ε s σ H x v Q I rx h;let(i,rfl,q):=h;let(t,rfl):=rx;calc rule i t s _ _ #[.int (g i),H,I.tok _,#[_,9],q]
def Px:ZQ X (unaryOp .USub) (rU λi=>.int (-i)):=unI λ_ _ _ _ _ q=>neg_int q
end
section
variable{X:Cx}{a:Expr}{ta tb tc:TE}{pos:Pos}
def yA{ε:qaa}{σ:St}{H:Hp}{Q:VK}{k k':Bool}(I:Inv X ε σ H s)(q:Q (.bl k) H)(e:k=k'):EP X ε σ Q (.bool k') s:=by subst e;calc#[.bl k,H,I,9,q]
def Uj:eX X (compareOp .Lt) (qp λi j=>.bl (decide (i<j))):=Pk λ_ _ _ _ _ _ _ q=>lt_int q
def NA:eX X (compareOp .LtE) (qp λi j=>.bl (decide (i<=j))):=Pk λ_ _ _ _ _ _ _ q=>le_int q
def Uk:eX X (compareOp .Gt) (qp λi j=>.bl (decide (j<i))):=Pk λ_ _ _ _ _ _ _ q=>gt_int q
def Ck:eX X (compareOp .In) (λx y H Q=>∃i j,x=.str i/\y=.str j/\Q (.bl (!(Builtin.Str.occurrences j i 0 j.length 1).isEmpty)) H):=by intro ε s σ H x y v u Q I rx ry h;let(i,j,rfl,rfl,q):=h;let(t,rfl):=rx;let(t',rfl):=ry;calc in_str (yA I q 9)
def J1:eX X (compareOp .IsNot) (λx y H Q=>y=.bK/\Q (.bl (!decide (x=.bK))) H):=by
 intro ε s σ H x y v u Q I rx ry h;let(rfl,q):=h;cases ry;show isnot_none_gen (yA I q ?_);cases x<;>first
  | (cases rx;rfl)
  | (let(t,rfl):=rx;rfl)
def eX.or{f:Value->Value->Sem Value}{r r':R2}(h:eX X f r)(h':eX X f r'):eX X f (λx y H Q=>r x y H Q\/r' x y H Q):=by
 intro ε s σ H x y v u Q I rx ry q;obtain q|q:=q
 calc h ε s σ H x y v u Q I rx ry q;calc h' ε s σ H x y v u Q I rx ry q
def iH(b:Expr){op:CmpOp}(h:op≠.In:=by decide)(h2:op≠.NotIn:=by decide):behindInMarks op b=false:=by
 have e1:(op==CmpOp.In)=false:=by cases op<;>first|rfl|exact absurd 9 h
 have e2:(op==CmpOp.NotIn)=false:=by cases op<;>first|rfl|exact absurd 9 h2
 cases b<;>simp[behindInMarks,e1,e2]
def J_{op:CmpOp}{r:R2}(ho:eX X (compareOp op) r)(ha:PE X a ta)(hb:PE X b tb)(hm:behindInMarks op b=false):PE X (.Compare a [op] [b] pos) (Ue r ta tb):=by intro ε s σ H Q I h;calc wpAny_Compare1 (Pj ha hb I h λv u s2 x y H2 I2 rx ry q=>ho ε s2 σ H2 x y v u Q I2 rx ry q) hm
def NB(t:TE):TT:=λσ H Q=>t σ H λx H'=>∃k,x=.bl k/\Q k H'
def Ka{op:CmpOp}{r:R2}(ho:eX X (compareOp op) r)(ha:PE X a ta)(hb:PE X b tb)(hm:behindInMarks op b=false):PT X (.Compare a [op] [b] pos) (NB (Ue r ta tb)):=by
 intro ε s σ H Q I h;show wpAny_isTrue_Compare1 (cz (ha ε s σ H _ I h) λv s1 #[x,H1,I1,r1,q1]=>cz (hb ε s1 σ H1 _ I1 q1) λu s2 #[y,H2,I2,r2,q2] =>
  cz (ho ε s2 σ H2 x y v u _ I2 r1 r2 q2) λc s3 #[z,H3,I3,r3,k,e,q3]=>?_) hm
 subst e;cases r3;calc Ξ #[H3,I3,q3]
def EH(r r':R2)(ta tb tc:TE):TE:=λσ H Q=>ta σ H λx H1=>tb σ H1 λy H2=>r x y H2 λz H3=>∃k,z=.bl k /\
 (if k=true then tc σ H3 λw' H4=>r' y w' H4 Q else Q (.bl false) H3)
def EI{op Py:CmpOp}{r r':R2}(ho:eX X (compareOp op) r)(m_:eX X (compareOp Py) r')(ha:PE X a ta)(hb:PE X b tb)(hc:PE X c tc)(hm:lastMarks [op,Py] [b,c]=false:=by with_unfolding_all rfl):PT X (.Compare a [op,Py] [b,c] pos) (NB (EH r r' ta tb tc)):=by
 intro ε s σ H Q I h;show isTrue_chain (cz (ha ε s σ H _ I h) λv s1 #[x,H1,I1,r1,q1]=>test_link (cz (hb ε s1 σ H1 _ I1 q1) λu s2 #[y,H2,I2,r2,q2] =>
  cz (ho ε s2 σ H2 x y v u _ I2 r1 r2 q2) λd s3 #[z,H3,I3,r3,k,e,q3]=>?_)) hm
 subst e;cases r3;show Ξ ?_;cases k with
 |false=>let(k',e',q'):=q3;cases e';calc ite_ff #[H3,I3,q']
 |true=>show ite_tt (test_last (cz (hc ε s3 σ H3 _ I3 q3) λw' s4 #[z',H4,I4,r4,q4]=>cz (m_ ε s4 σ H4 y z' u w' _ I4 r2 r4 q4) λd' s5 #[z2,H5,I5,r5,k2,e2,q5]=>?_));subst e2;cases r5;calc Ξ #[H5,I5,q5]
def lL:(sizeLine:Nat)<2 ^ 63:=by rw[π];decide
def yB:eX X (binaryOp .Add) (λx y H Q=>∃i j,x=.str i/\y=.str j/\i.length+j.length<=sizeLine/\Q (.str (i++j)) H):=by intro ε s σ H x y v u Q I rx ry h;let(i,j,rfl,rfl,hz,q):=h;let(t,rfl):=rx;let(t',rfl):=ry;calc add_str (λt' tk=>#[.str (i++j),H,I.tok _,#[_,9],q]) hz
def vals1{x:V}{us:qag}(r:Vals [x] us):∃u,us=[u]/\RelV x u:=by
 cases r with
 |cons r1 r2=>cases r2;calc#[_,9,r1]
def vals2{x y:V}{us:qag}(r:Vals [x,y] us):∃u w',us=[u,w']/\RelV x u/\RelV y w':=by
 cases r with
 |cons r1 r2=>
  cases r2 with
  |cons r3 r4=>cases r4;calc#[_,_,9,r1,r3]
def Cm:cV X (.type "int") (λxs H Q=>(∃i,xs=[.int i]/\Q (.int i) H)\/∃k,xs=[.bl k]/\Q (.int (if k then 1 else 0)) H):=by
 intro ε s σ H xs us Q I r h;obtain⟨i,rfl,q⟩|⟨k,rfl,q⟩:=h
 let(u,rfl,t,rfl):=vals1 r;calc call_int_int #[.int i,H,I,#[_,9],q];let(u,rfl,r1):=vals1 r;cases r1;calc call_int_bool #[.int (if k then 1 else 0),H,I.tok _,#[_,9],q]
end
structure Cn(h:Heap)(x dx C:Addr)(mA:qae):Prop where
 obj:h.get? x\W.instObj C dx
 ns:h.Ns1 dx mA
 ne:dx≠x
def Co{mA:qae}(n:h.Ns1 dx mA):∃od,h.get? dx\od/\∀name,W.lookIn name od\mA name:=by
 let(o,es,ep,ho,hd,hk,_,hm):=n;show#[o,ho,λname=>?_];have e:=hm name;unfold nsFind findBy at e;rw[<- Array.find?_toList] at e;unfold W.lookIn;rw[hd];dsimp only;split
 rename_i y q
 rw[q] at e;exact Ω some e
 rename_i q
 rw[q] at e;have a:es.toList.any (·.refKey)=false:=by rw[List.any_eq_false];intro y hy;let(z,t,jm):=hk y (Array.mem_toList_iff.mp hy);simp[DictEntry.refKey,jm]
 have a':¬ es.toList.any (·.refKey)=true:=by rw[a];exact jk
 rw[θ a'];calc Ω some e
def Cn.look{x:Addr}{mA:qae}(I:Cn h x dx C mA):∃od,PySem.W.InstAt h x (W.instObj C dx) C (some od)/\∀name,W.lookIn name od\mA name :=
 let #[od,ho,hl]:=Co I.ns
 #[od,#[I.obj,9,9,ho],hl]
section
variable{E:qad}{K:qaf}{x:Addr}{mA:qae}{name:Str}{v:Value}
def get_map{expr:Bool}{Q:qad}(X:K.In 50)(I:Cn 50 x dx C mA)(hg:W.plainGet K C name=true)(hh:W.hasDictIn K C=true)(ha:W.findIn K (.ref C) name\none)(hv:mA name\v)(vW:W.handedIn v=true)(h:Q v {s with toks:=s.toks+1}) :
  wpAny 14 A (getAttr (.ref x) name expr) Q E s:=by
 let(od,J,hl):=I.look;calc W.get_value X J (W.plainGet_of hg).1 (W.findObj_own hh ha 9 (by rw[hl,hv])) vW h
theorem Kb{ns:ω}{Q:Unit->Shared->Prop}(X:K.In 50)(I:Cn 50 x dx C mA)(hs:W.findIn K (.ref C) "__setattr__"\some (.builtin "object.__setattr__"))(hp:W.plainOver K C=true)(ht:W.takerIn K C name\none)(hh:W.hasDictIn K C=true)(hw:PySem.Within mA ns)(hsz:ns.length<=sizeLine)(h:∀h',Cn h' x dx C (λy=>if y=name then some v else mA y)->Heap.SameBut dx 50 h'->Q Unit.unit {s with heap:=h',toks:=s.toks+2}) :
  wpAny 14 A (setAttr (.ref x) name v) Q E s:=by
 let(od,J,hl):=I.look;show W.set_plain X J hs (W.osa_open X J hp ht λb=>?_);let(cd,hc,T3):=W.any_some hh;have hx:=I.obj;show ζ (η (ζ (ζ (wpAny_loadPart hx (ζ (PySem.W.Looks.here (W.looks_clsIn X hc) ?_))))));rw[T3];show η (ζ (η (ζ (wpAny_nsSet1 I.ns λh' Ul Cq=>?_))));let(oD,esD,epD,hoD,hdD,hcD):=Ul.count (PySem.Within.cons name v hw);calc ζ (wpAny_lookBehind hoD (by rw[hdD];calc pastItsLine_dict (jR hcD (by rw[vI];lia))) (η (h _ #[(Cq.2 _ (Ne.symm I.ne)).trans I.obj,Ul,I.ne] Cq)))
def EJ{R:Result->Shared->Prop}{vs:qag}{kw:List (Str×Value)}(X:K.In 50)(hm:W.makesIn K C=true)(hi:W.findIn K (.ref C) "__init__"\some (.ref f))(hf:W.typeIn K (.ref f)\.type "function")(h:codeAny 14 (A.under (.builtin "type.__call__" #[.ref C::vs,kw])) (.call (.ref f) #[.ref 36::vs,kw]) (PySem.W.InitBack 36 R)
   {s with heap:=(s.heap.push W.emptyDict).push (W.instObj C 8)}) :
 codeAny 14 A (.call (.ref C) #[vs,kw]) R s:=W.make_core (W.makes_of X hm) (W.looks_findIn X hi) (λself=>W.bind_fn X self hf) 7 h
end
def iI(f:Str)(v:V):List (Str×V)->List (Str×V)
 |[]=>[(f,v)]
 | (g,x)::r=>if g=f then (g,v)::r else (g,x)::iI f v r
theorem mG(f g:Str)(v:V):∀fs:List (Str×V),(iI f v fs).lookup g=if g=f then some v else fs.lookup g
 |[]=>by change List.lookup g [(f,v)]=_;by_cases h:g=f;have hb:=aaE.mpr h;simp only[List.lookup,hb,ι h];have hb:=aaa.mpr h;simp only[List.lookup,hb,θ h]
 | (k,x)::r=>by have ih:=mG f g v r;rw[show iI f v ((k,x)::r)=(if k=f then (k,v)::r else (k,x)::iI f v r) from 9];by_cases hk:k=f;rw[ι hk];by_cases h:g=k;have hb:=aaE.mpr h;simp only[List.lookup,hb,ι (h.trans hk)];have hb:=aaa.mpr h;simp only[List.lookup,hb,θ (λe:g=f=>h (e.trans hk.symm))];rw[θ hk];by_cases h:g=k;have hb:=aaE.mpr h;simp only[List.lookup,hb,θ (λe:g=f=>hk (h.symm.trans e))];have hb:=aaa.mpr h;simp only[List.lookup,hb];calc ih
theorem lM(f:Str)(v:V):∀fs:List (Str×V),f∈(iI f v fs).map (·.1)/\∀g,g∈fs.map (·.1)->g∈(iI f v fs).map (·.1)
 |[]=>#[by simp[iI],λg h=>by simp at h]
 | (k,x)::r=>by
  let(i1,i2):=lM f v r;rw[show iI f v ((k,x)::r)=(if k=f then (k,v)::r else (k,x)::iI f v r) from 9];by_cases hk:k=f;rw[ι hk];subst hk;calc#[by simp,λg h=>by simpa using h];rw[θ hk];show#[?_,λg h=>?_];rw[fO];calc gT _ i1;rw[fO] at h ⊢;rcases cY.mp h with e|e
  calc cY.mpr (.inl e);calc gT _ (i2 g e)
theorem mH(f:Str)(v:V):∀fs:List (Str×V),(iI f v fs).length<=fs.length+1
 |[]=>by simp[iI]
 | (k,x)::r=>by have ih:=mH f v r;rw[show iI f v ((k,x)::r)=(if k=f then (k,v)::r else (k,x)::iI f v r) from 9];by_cases hk:k=f;rw[ι hk,vI,vI];lia;rw[θ hk,vI,vI];lia
def j9.some_of{v:V}{o:Option Value}(r:j9 (some v) o):∃u,o\u/\RelV v u:=by
 cases o with
 |none=>calc (show False from r).elim
 |some u=>calc#[u,9,r]
def Cr{v:V}(r:RelV v u):W.handedIn u=true:=by
 cases v with
 |bK=>cases (show u=Value.none from r);rfl
 |bl b=>cases (show u=Value.bool b from r);rfl
 |int i=>let(t,e):=(show ∃t,u=Value.int i t from r);cases e;rfl
 |str x=>let(t,e):=(show ∃t,u=Value.str x t from r);cases e;rfl
 |Zo b=>let(t,e):=(show ∃t,u=Value.bytes b t from r);cases e;rfl
 |Zp b=>let(t,e):=(show ∃t,u=Value.float b t from r);cases e;rfl
 |ref a=>cases (show u=Value.ref a from r);rfl
 |ty n=>cases (show u=Value.type n from r);rfl
section
variable{H H':Hp}{fs Zs:List (Str×V)}
def AA(bC:jl P w H h)(e:H a\.ins C dx fs):∃mA,Cn h a dx C mA/\(∀f,j9 (fs.lookup f) (mA f))/\PySem.Within mA (fs.map (·.1))/\fs.length<=1000/\H dx\.own a:=by let(d,z,ne,ob,mA,n,r,q):=(show bO P w H h a (.ins C dx fs) from bC a _ e);calc#[mA,#[ob,n,ne],r,q,z,d]
end
structure EK(K:qaf)(C:Addr):Prop where
 pg:W.plainGet K C Str.empty=true
 hd:W.hasDictIn K C=true
 po:W.plainOver K C=true
 sa:W.findIn K (.ref C) "__setattr__"\some (.builtin "object.__setattr__")
def EK.get{K:qaf}{C:Addr}(c:EK K C)(f:Str):W.plainGet K C f=true:=c.pg
def cF(K:qaf)(C:Addr)(f:Str):Prop:=W.findIn K (.ref C) f=some none
def cF.Um{K:qaf}{f:Str}(n:cF K C f):W.takerIn K C f\none:=by unfold W.takerIn;rw[show W.findIn K (.ref C) f\none from n];rfl
section
variable{X:Cx}{ε:qaa}{σ:St}{H:Hp}{fs:List (Str×V)}{f:Str}{v:V}{E:qad}
def yC{b:Bool}{Q:qad}(I:Inv X ε σ H s)(e:H a\.ins C dx fs)(c:EK X.K C)(n:cF X.K C f)(l:fs.lookup f\v)(h:∀u s',Inv X ε σ H s'->RelV v u->Q u s'):wpAny 22 A (getAttr (.ref a) f b) Q E s:=by let(mA,O,r,_,_,_):=AA I.bC e;let(u,hu,ru):=j9.some_of (by rw[<- l];calc r f);calc get_map I.vJ O (c.get f) c.hd n hu (Cr ru) (h u _ (I.tok _) ru)
theorem yD{y:V}{Q:Unit->Shared->Prop}(I:Inv X ε σ H s)(e:H a\.ins C dx fs)(c:EK X.K C)(n:cF X.K C f)(hl:fs.length<1000)(ry:RelV y u)(h:∀s',Inv X ε σ (upd H a (.ins C dx (iI f y fs))) s'->Q Unit.unit s'):wpAny 22 A (setAttr (.ref a) f u) Q E s:=by
 let(mA,O,r,wi,_,ho):=AA I.bC e;have hz:(fs.map (·.1)).length<=sizeLine:=by rw[bL,π];lia
 show Kb I.vJ O c.sa c.po n.Um c.hd wi hz λh' O' sb=>h _ ?_;have hd:∃o,h'.get? dx\o:=let #[o,_,_,e',_]:=O'.ns;#[o,e'];show I.write (by rw[e];calc True.intro) (.inr ho) (λb q hb z=>(sb.2 b hb).trans z) hd #[by rw[az O.ne];calc ho,?_,O.ne,O'.obj,_,O'.ns,λg=>?_,λg hg=>?_];have:=mH f y fs;lia;rw[mG];by_cases q:g=f;rw[ι q,ι q];calc ry;rw[θ q,θ q];calc r g;by_cases q:g=f;rw[q];calc (lM f y fs).1;show (lM f y fs).2 g (wi g λz=>hg ?_);change (if g=f then some u else mA g)=none;rw[θ q];calc z
def Inv.made(I:Inv X ε σ H s):Inv X ε σ (upd (upd H 8 (.own 36)) 36 (.ins C 8 []))
  {s with heap:=(s.heap.push W.emptyDict).push (W.instObj C 8)}:=by
 have e1:(s.heap.push W.emptyDict).get? 8\W.emptyDict:=gU 50 9;have e2:((s.heap.push W.emptyDict).push (W.instObj C 8)).get? 36\W.instObj C 8:=by
  have:=gU (s.heap.push W.emptyDict) (o:=W.instObj C 8) 9
  rwa [B_] at this
 have e3:(s.heap.push W.emptyDict).Ns 8 (λ_=>none):=#[W.emptyDict,([].toArray),_,e1,9,(λe he=>absurd he 4),λ_=>rfl];have I1:=I.laid (o:=.own 36) (t':=s.toks) (λb u q=>c9 _ q) (cv _) #[_,e1];show I1.laid (t':=s.toks) (λb u q=>c9 _ q) (Nat.le_of_eq (B_ _ _)) ?_;have ne:8≠8+1:=gf (Ar _);show#[by rw[az ne,aG],e_ _,ne,e2,λ_=>none,(Heap.Ns1.of_empty e3).at λo q=>c9 _ q,λ_=>True.intro,λy hy=>absurd 9 hy]
def Kc{env:Env}{f:Str}{pos:Pos}{Q:qad}(hb:attributeBase e f env (eval e env)=eval e env)(h:wpAny 14 A (eval e env) (λo s₁=>wpAny 14 A (getAttr o f true) Q E s₁) E s):wpAny 14 A (eval (.Attribute e f pos) env) Q E s :=
 Attribute_any_ h (by rw[arm_eval_Attribute,hb])
end
def ZR(K:qaf)(ta:TE)(f:Str):TE:=λσ H Q=>ta σ H λx H1=>E5 λa C dx fs v=>x=.ref a/\H1 a\.ins C dx fs/\EK K C/\cF K C f/\fs.lookup f\v/\Q v H1
def ZS(K:qaf)(ta tv:TE)(f:Str):TS:=λD σ H=>tv σ H λy H1=>ta σ H1 λx H2=>E4 λa C dx fs=>x=.ref a/\H2 a\.ins C dx fs/\EK K C/\cF K C f/\fs.length<1000 /\
 D.nx σ (upd H2 a (.ins C dx (iI f y fs)))
section
variable{X:Cx}{o value:Expr}{f:Str}{pos:Pos}{ta tv:TE}
def yE(he:PE X e ta)(hb:attributeBase e f 19 (eval e 19)=eval e 19):PE X (.Attribute e f pos) (ZR X.K ta f):=by intro ε s σ H Q I h;show Kc hb (cz (he ε s σ H _ I h) λu s1 #[x,H1,I1,rx,a,C,dx,fs,v,ex,ea,c,n,l,q]=>?_);subst ex;obtain rfl:=rx;calc yC I1 ea c n l λu' s2 I2 ru=>#[v,H1,I2,ru,q]
def Pz(ha:PE X o ta)(hv:PE X value tv)(hs:swapsWith value (some (.Attribute o f pos')) pos.line 19=pure false):PS X (.Assign [.Attribute o f pos'] value pos) (ZS X.K ta tv f):=by intro ε s σ H D I h;show plainObj_wpAny_Assign_Attribute (cz (hv ε s σ H _ I h) λu s1 #[y,H1,I1,ry,q]=>cz (ha ε s1 σ H1 _ I1 q) λov s2 #[x,H2,I2,rx,a,C,dx,fs,ex,ea,c,n,l,q2]=>?_) hs;subst ex;obtain rfl:=rx;calc yD I2 ea c n l ry λs3 I3=>#[σ,_,I3,q2]
end
structure bA(k:Nat)(A:Around):Prop where
 hd:A.handled=none
 dp:A.depth+03 * k+05<recursionLimit
 un:A.units+16 * k+200<cLine
def bA.mono{k:Nat}(r:bA k A)(h:j<=k):bA j A:=#[r.hd,by have:=r.dp;lia,by have:=r.un;lia]
def bA.deeper{k:Nat}(r:bA (k+1) A)(env:Env):bA k (A.deeper env) :=
 #[r.hd,by have:=r.dp;change A.depth+1+03 * k+05<_;lia,by have:=r.un;change A.units+03+16 * k+200<_;lia]
def yF{us:qag}{kw:List (Str×Value)}:(A.under (.builtin "type.__call__" #[.ref C::us,kw])).depth=A.depth+1:=by first|rfl|simp[Around.under,Code.weight,Code.isCreation,Code.isGuard,Code.isCaller,Code.frames,Code.isFrame,guardIds]
def yG{us:qag}{kw:List (Str×Value)}:(A.under (.builtin "type.__call__" #[.ref C::us,kw])).units=A.units+1:=by first|rfl|simp[Around.under,Code.cUnits,Code.frames,Code.isFrame]
def bA.make{k:Nat}(r:bA (k+1) A)(C:Addr)(us:qag)(kw:List (Str×Value)):bA k (A.under (.builtin "type.__call__" #[.ref C::us,kw])) :=
 #[r.hd,by have:=r.dp;rw[yF];lia,by have:=r.un;rw[yG];lia]
def bA.depth{k:Nat}(r:bA k A):A.depth<recursionLimit:=by have:=r.dp;lia
def ZT:TA:=λ_ H Q=>Q [] H
def Uo(ta:TE)(tr:TA):TA:=λσ H Q=>ta σ H λx H1=>tr σ H1 λxs H2=>Q (x::xs) H2
section
variable{X:Cx}{es:qap}{te:TE}{t:TA}{pos:Pos}
def cQ:PA X [] ZT:=λ_ _ _ _ H Q I h=>Calls.spliced_nil #[[],H,I,.nil,h]
def bw(ha:PE X e te)(hr:PA X es t)(hs:starEach (e::es) 19=(false,eval e 19)::starEach es 19:=by rfl):PA X (e::es) (Uo te t):=by intro pos ε s σ H Q I h;rw[hs];calc Calls.spliced_cons (cz (ha ε s σ H _ I h) λu s1 #[x,H1,I1,r1,q1]=>cz (hr pos ε s1 σ H1 _ I1 q1) λus s2 #[xs,H2,I2,r2,q2]=>#[x::xs,H2,I2,.cons r1 r2,q2])
def ZU(t:TA):TE:=λσ H Q=>t σ H λxs H1=>34<=sizeLine/\∀p,H1 p=none->Q (.ref p) (upd H1 p (.tup xs))
def ZV(t:TA):TE:=λσ H Q=>t σ H λxs H1=>34<=sizeLine/\∀p,H1 p=none->Q (.ref p) (upd H1 p (.lst xs))
def jT{x1}(h:PA X es t):PE X (.Tuple es x1 pos) (ZU t):=by intro ε s σ H Q I hq;show wpAny_Tuple_spliced (cz (h pos ε s σ H _ I hq) λus s1 #[xs,H1,I1,r,z,q]=>#[by rw[<- r.length];calc z,?_]);have hf:=I1.bC.fresh (cv _);show#[.ref 51,upd H1 51 (.tup xs),I1.laid (λb u e=>c9 _ e) (cv _) ?_,9,q _ hf];calc#[z,us,r,#[_,gU _ 9,9,_,9]]
def PB(h:PA X es t):PE X (.List es pos) (ZV t):=by intro ε s σ H Q I hq;show wpAny_List_spliced (cz (h pos ε s σ H _ I hq) λus s1 #[xs,H1,I1,r,z,q]=>#[by rw[<- r.length];calc z,?_]);have hf:=I1.bC.fresh (cv _);show#[.ref 51,upd H1 51 (.lst xs),I1.laid (λb u e=>c9 _ e) (cv _) ?_,9,q _ hf];calc#[z,us,0,r,gU _ 9]
end
abbrev Sp:=List V->Hp->VK->XK->Prop
abbrev Ee:=List Env->Hp->Shared->XK->qad
structure yH(P:Program)(w:World)(K:qaf)(mg:qae)(base:Heap)(A:Around)(outer:List Env)(s:Shared)(H:Hp):Prop where
 frames:A.frames\outer
 mod:Mod K mg base
 bs:∀b o,base.get? b\o->s.heap.get? b\o/\H b=none
 JJ:base.objs.size<=8
 m9:s.heap.FunFrames base outer
 OW:∀b∈Ec outer,H b=none
 bC:jl P w H 50
 bare:AllBare s.gens
def CE(outer:List Env)(P:Program)(w:World)(H:Hp)(s:Shared)(Q:VK)(u:Value)(s':Shared):Prop :=
 ∃v H',s'.os=s.os/\AllBare s'.gens/\Un (Ec outer) [] H H' 50 s'.heap/\jl P w H' s'.heap/\RelV v u/\Q v H'
def CR(CX:Ee)(outer:List Env)(P:Program)(w:World)(H:Hp)(s:Shared)(Q:VK)(E:XK)(r:Result)(s':Shared):Prop :=
 match r with
 |.ok (.ret u)=>CE outer P w H s Q u s'
 |.ok _=>False
 |.error e=>CX outer H s E e s'
structure dA(P:Program)(w:World)(K:qaf)(mg:qae)(base:Heap)(CX:Ee)(k:Nat)(f:Addr)(fd:FuncData)(ps:ω)(sp:Sp):Prop where
 len:∀vs H Q E,sp vs H Q E->vs.length=ps.length
 run:∀(A:Around)(outer:List Env)(s:Shared)(H:Hp)(args:Args)(us:qag)(vs:List V)(Q:VK)(E:XK),bA k A->yH P w K mg base A outer s H->BindsTo s fd args (ps.zip us)->Vals vs us->sp vs H Q E ->
  codeAny (model P w) A (.call (.ref f) args) (CR CX outer P w H s Q E) s
def yH.make{K:qaf}{mg:qae}{outer:List Env}{H:Hp}(e:yH P w K mg base A outer s H)(C:Addr)(us:qag)(kw:List (Str×Value)) :
 yH P w K mg base (A.under (.builtin "type.__call__" #[.ref C::us,kw])) outer s H:=#[by first|calc e.frames|(simpa[Around.under,Code.envs,Code.isFrame,pushEnvs] using e.frames),e.mod,e.bs,e.JJ,e.m9,e.OW,e.bC,e.bare]
section
variable{X:Cx}{ε:qaa}{σ:St}{H:Hp}
def Inv.Up(I:Inv X ε σ H s):yH 39 X.w X.K X.mg X.base X.A X.stack s H :=
 #[I.ok.frames,I.ok.mod,I.bs,jR I.ok.JJ I.sz,I.stack,I.Av,I.bC,I.bare]
def Inv.after{Q:VK}(I:Inv X ε σ H s)(h:CE X.stack 39 X.w H s Q u s'):EP X ε σ Q u s':=by let(v,H',os,bare,un,bC,r,q):=h;let(hh,g,d,t,os'):=s';obtain rfl:=os;calc#[v,H',I.call un bC bare (λb z=>absurd z 4),r,q]
end
def Uq(sp:Sp)(yI:List V)(E:XK)(t:TA):TE:=λσ H Q=>t σ H λvs H1=>sp (vs++yI) H1 Q E
def Ur(C:Addr)(sp:Sp)(yI:List V)(E:XK)(t:TA):TE:=λσ H Q=>t σ H λvs H1=>∀x dx,H1 x=none->H1 dx=none->dx≠x ->
 sp (.ref x::(vs++yI)) (upd (upd H1 dx (.own x)) x (.ins C dx [])) (λv H2=>v=.bK/\Q (.ref x) H2) E
def Binds(K:qaf)(fd:FuncData)(ps:ω)(ds:qag):Prop :=
 ∀(s:Shared)(us:qag),K.In 50->(us++ds).length=ps.length->BindsTo s fd #[us,[]] (ps.zip (us++ds))
def Binds.all{K:qaf}{ps:ω}(h:∀us:qag,us.length=ps.length->bindArgs fd #[us,[]]=pure (ps.zip us)):Binds K fd ps []:=λs us _ hl=>by rw[As] at hl ⊢;calc .of_eq (h us hl)
def Passes(CX:Ee)(X:Cx)(E:XK):Prop:=∀(ε:qaa)(σ:St)(H:Hp)(s:Shared)(e:Value)(s':Shared),Inv X ε σ H s->CX X.stack H s E e s'->X.xe e s'
section
variable{X:Cx}{CX:Ee}{k:Nat}{ps:ω}{sp:Sp}{yI:List V}{ds:qag}{E:XK}{m:Str}{pos:Pos}{o:Expr}{es:qap}{ta:TE}{t:TA}
def PC{ε:qaa}{σ:St}{H:Hp}{Q:VK}{us:qag}{vs:List V}(F:dA 39 X.w X.K X.mg X.base CX k f fd ps sp)(hr:bA k X.A)(hb:Binds X.K fd ps ds)(hd:Vals yI ds)(hx:Passes CX X E)(I:Inv X ε σ H s)(r:Vals vs us)(h:sp (vs++yI) H Q E):wpAny 22 X.A (call (.ref f) us) (EP X ε σ Q) X.xe s:=by
 have r2:=r.append hd;have hl:(us++ds).length=ps.length:=by rw[<- r2.length];exact F.len _ _ _ _ h
 show wpAny_call (aaq (F.run X.A X.stack s H #[us,[]] (us++ds) (vs++yI) Q E hr I.Up (hb s us I.vJ hl) r2 h) λr s' hq=>?_);cases r with
 |error e=>calc hx ε σ H s e s' I hq
 |ok fl=>
  cases fl with
  |ret u=>calc I.after hq
  |_=>calc False.elim hq
def gX(F:dA 39 X.w X.K X.mg X.base CX k f fd ps sp)(hr:bA k X.A)(hg:Gl X x)(hm:X.mg x\.ref f)(hk:W.keepIn X.K (.ref f)=true)(hb:Binds X.K fd ps ds)(hd:Vals yI ds)(hx:Passes CX X E)(ha:PA X (e::es) t)(qx:f9 x:=by decide)(he:starEach (e::es) 19=(false,eval e 19)::starEach es 19:=by rfl)(jn:(backTo pos (starEach es 19)).any (·.1)=false:=by rfl) :
  PE X (.Call 52 (e::es) [] pos) (Uq sp yI E t):=by
 intro ε s σ H Q I h;calc aat (sP I hg hm (W.callWith_K I.ok.mod.Yh hk (cz (ha pos ε s σ H _ I h) λus s1 #[vs,H1,I1,r,q]=>#[I1.vJ,PC F hr hb hd hx I1 r q]) he jn) qx)
structure Mk(K:qaf)(C f:Addr):Prop where
 makes:W.makesIn K C=true
 init:W.findIn K (.ref C) "__init__"\some (.ref f)
 fn:W.isFn K (.ref f)=true
 kp:W.keepIn K (.ref C)=true
theorem EL{ε:qaa}{σ:St}{H:Hp}{Q:VK}{us:qag}{vs:List V}(M:Mk X.K C f)(F:dA 39 X.w X.K X.mg X.base CX k f fd ps sp)(hr:bA (k+1) X.A)(hb:Binds X.K fd ps ds)(hd:Vals yI ds)(hx:Passes CX X E)(I:Inv X ε σ H s)(r:Vals vs us)(h:∀x dx,H x=none->H dx=none->dx≠x->sp (.ref x::(vs++yI)) (upd (upd H dx (.own x)) x (.ins C dx [])) (λv H2=>v=.bK/\Q (.ref x) H2) E) :
  wpAny 22 X.A (call (.ref C) us) (EP X ε σ Q) X.xe s:=by
 have hq:=h 36 8 (I.bC.fresh (Jo _)) (I.bC.fresh (cv _)) (gf (Ar _));have I2:=Inv.made (C:=C) I;have r2:Vals (V.ref 36::(vs++yI)) (Value.ref 36::(us++ds)):=.cons 9 (r.append hd);have hl:(Value.ref 36::us++ds).length=ps.length:=by have e:=r2.length;rw[F.len _ _ _ _ hq] at e;exact e.symm
 show wpAny_call (EJ I.vJ M.makes M.init (aaE.mp M.fn) (aaq (F.run _ X.stack _ _ #[Value.ref 36::us,[]] (Value.ref 36::(us++ds)) _ _ E (hr.make C us [])
  (I2.Up.make C us []) (hb _ (Value.ref 36::us) I2.vJ hl) r2 hq) λr s' yf=>?_))
 cases r with
 |error e=>calc hx ε σ _ _ e s' I2 yf
 |ok fl=>
   cases fl with
   |ret u=>let(v,H',I3,rv,ev,q3):=I2.after yf;subst ev;calc#[rv,#[V.ref 36,H',I3,9,q3]]
   |_=>calc False.elim yf
def sS(M:Mk X.K C f)(F:dA 39 X.w X.K X.mg X.base CX k f fd ps sp)(hr:bA (k+1) X.A)(hg:Gl X x)(hm:X.mg x\.ref C)(hb:Binds X.K fd ps ds)(hd:Vals yI ds)(hx:Passes CX X E)(ha:PA X (e::es) t)(qx:f9 x:=by decide)(he:starEach (e::es) 19=(false,eval e 19)::starEach es 19:=by rfl)(jn:(backTo pos (starEach es 19)).any (·.1)=false:=by rfl) :
  PE X (.Call 52 (e::es) [] pos) (Ur C sp yI E t):=by
 intro ε s σ H Q I h;calc aat (sP I hg hm (W.callWith_K I.ok.mod.Yh M.kp (cz (ha pos ε s σ H _ I h) λus s1 #[vs,H1,I1,r,q]=>#[I1.vJ,EL M F hr hb hd hx I1 r q]) he jn) qx)
end
section
variable{X:Cx}{CX:Ee}{k:Nat}{ps ks:ω}{sp:Sp}{E:XK}{m:Str}{pos qy:Pos}{o:Expr}{es:qap}{kws:List Keyword}{te ta:TE}{t tk:TA}{nm:Option Str}
variable{g:qag->qag->qag}{gV:List V->List V->List V}
end
structure aI(N P:ω)(sc:Scope):Prop where
 kind:sc.kind=.function
 co:sc.isCoroutine=false
 gen:sc.isGenerator=false
 nd:N.Nodup
 pre:N.take P.length=P
 par:∀x∈P,sc.names.lookup x\.local\/sc.names.lookup x\.cell
 PD:∀y∈sc.names,y.2≠.free
def gO{N P:ω}(a:sc.kind=.function:=by rfl)(b:sc.isCoroutine=false:=by rfl)(c:sc.isGenerator=false:=by rfl)(d:N.Nodup:=by decide +kernel)(e:N.take P.length=P:=by rfl)(f:∀x∈P,sc.names.lookup x\.local\/sc.names.lookup x\.cell:=by decide +kernel)(g:∀y∈sc.names,y.2≠.free:=by decide +kernel):aI N P sc:=#[a,b,c,d,e,f,g]
theorem rp{kindOf:Str->Option NameKind}{x:Str}:∀{binds:List (Str×Value)}{m:qae},(∀v,(x,v)∉binds)->bindL kindOf binds m x=m x
 |[],_,_=>rfl
 | (n,v)::r,m,h=>by
  unfold bindL;rw[rp λw hw=>h w (gT _ hw)];split;have:x≠n:=by rintro rfl;exact h v fM
  simp[this];rfl
theorem rq{kindOf:Str->Option NameKind}{x:Str}:∀{binds:List (Str×Value)}{m:qae},(∀v,(x,v)∉binds)->bindC kindOf binds m x=m x
 |[],_,_=>rfl
 | (n,v)::r,m,h=>by
  unfold bindC;rw[rq λw hw=>h w (gT _ hw)];split;rfl;have:x≠n:=by rintro rfl;exact h v fM
  simp[this]
theorem rA{kindOf:Str->Option NameKind}{x:Str}{v:Value}:∀{P:ω}{vs:qag}{i:Nat}{m:qae},P.Nodup->P[i]?\x->vs[i]?\v->kindOf x\.local ->
  bindL kindOf (P.zip vs) m x\v
 |[],_,_,_,_,h,_,_=>by simp at h
 |_::_,[],_,_,_,_,h,_=>by simp at h
 |p::P,w::vs,0,m,nd,h1,h2,hk=>by simp at h1 h2;subst h1;subst h2;change bindL kindOf ((p,w)::P.zip vs) m p=_;unfold bindL;rw[rp λv hv=>(oa.mp nd).1 (List.of_mem_zip hv).1,ι hk];simp
 |p::P,w::vs,i+1,m,nd,h1,h2,hk=>by unfold bindL;calc rA (oa.mp nd).2 (by simpa using h1) (by simpa using h2) hk
theorem rB{kindOf:Str->Option NameKind}{x:Str}{v:Value}:∀{P:ω}{vs:qag}{i:Nat}{m:qae},P.Nodup->P[i]?\x->vs[i]?\v->kindOf x≠some .local ->
  bindC kindOf (P.zip vs) m x\v
 |[],_,_,_,_,h,_,_=>by simp at h
 |_::_,[],_,_,_,_,h,_=>by simp at h
 |p::P,w::vs,0,m,nd,h1,h2,hk=>by simp at h1 h2;subst h1;subst h2;change bindC kindOf ((p,w)::P.zip vs) m p=_;unfold bindC;rw[rq λv hv=>(oa.mp nd).1 (List.of_mem_zip hv).1,θ hk];simp
 |p::P,w::vs,i+1,m,nd,h1,h2,hk=>by unfold bindC;calc rB (oa.mp nd).2 (by simpa using h1) (by simpa using h2) hk
def start(N:ω)(vs:List V):St:=vs.map some++List.replicate (N.length-vs.length) none
def ke(CX:Ee)(P:Program)(w:World)(K:qaf)(mg:qae)(base:Heap)(N:ω)(qual:Str)(scope:Scope)(f:Addr)(cd:Value)(A:Around)(outer:List Env)(s:Shared)(H:Hp)(E:XK):Cx where
 prog:=P
 w:=w
 K:=K
 mg:=mg
 base:=base
 A:=A.deeper (envOfC qual scope 8 f cd)
 N:=N
 s₀:=s
 H₀:=H
 env:=envOfC qual scope 8 f cd
 outer:=outer
 stack:=envOfC qual scope 8 f cd::outer
 ex:=[]
 calm:=true
 fn:=λ_=>true
 pn:=[]
 xe:=λe s'=>wpAny (model P w) (A.deeper (envOfC qual scope 8 f cd)) (leaving (envOfC qual scope 8 f cd) e) (λ_ SU=>CX outer H s E e SU) (λe' SU=>CX outer H s E e' SU) s'
def vX(h:sc.names.lookup x\.cell):∃c,(cellsFrom n sc.names []).lookup x\c:=by have q:=W.cellsFrom_some sc.names n [] (.inl h);calc Option.isSome_iff_exists.mp q
def Cs{CX:Ee}{K:qaf}{mg:qae}{N ps:ω}{scope:Scope}{cd:Value}{outer:List Env}{s1:Shared}{H:Hp}{E:XK}{us:qag}{vs:List V}(S:aI N ps scope)(hd:A.handled=none)(e0:yH P w K mg base A outer s H)(hl:vs.length=ps.length)(r:Vals vs us)(x:InCallC s 8 (bindL (envOfC qual scope 8 f cd).kindOf (ps.zip us) λ_=>none) (cellsFrom 36 scope.names []) (bindC (envOfC qual scope 8 f cd).kindOf (ps.zip us) λ_=>none) s1) :
  Inv (ke CX P w K mg base N qual scope f cd A outer s H E) [] (start N vs) H s1:=by
 have jn:ps.length<=N.length:=by have:=Ω List.length S.pre;rw[Np] at this;lia
 let(h1,tk,rfl,hk):=x.done;have Us:∀b:Addr,b∉(ke CX P w K mg base N qual scope f cd A outer s H E).ex:=λb z=>absurd (show b∈([]:zm) from z) 4;show#[#[e0.mod,S.kind,9,9,cv _,λy z c h1 h2=>?_,λy hy=>?_,λy c _ h=>?_,λ_=>hd,Around.frames_deeper e0.frames,.inr #[9,9],λb z=>absurd z (Us b),e0.bs,e0.JJ,λb _ _=>Us b,λb z=>absurd z (Us b),e0.m9,e0.OW],
  rfl,e0.bare,Un.kept hk,#[_,x.toInCall.ns,λi y v h1 h2 h3=>?_],λy c h=>#[_,x.cell y c h],e0.bC.fresh (cv _),λy c h=>?_,λp hp=>absurd (show p∈([]:qaa) from hp) 4,e0.bC.kept hk,?_]
 calc name_of_addr x.apart (Nl h1) (Nl h2);have hy:=hy;obtain hy|hy:=hy
 calc vX hy;calc absurd 9 (S.PD _ (Nl hy));calc SM (x.above y c (Nl h));have hi:i<vs.length:=by unfold start at h2;by_cases hi:i<vs.length;calc hi;rw[sM (by simpa using hi)] at h2;rw[Er] at h2;split at h2<;>cases h2
 have ha:vs[i]?\v:=by
  unfold start at h2;rw[nL (by simpa using hi),d4] at h2;cases e:vs[i]? with
  |none=>rw[e] at h2;cases h2
  |some a=>rw[e] at h2;cases h2;rfl
 let(u,hu,rv):=r.get ha;have hp:ps[i]?\y:=by rw[<- S.pre,List.getElem?_take_of_lt ()];exact h1
 have ndP:ps.Nodup:=by rw[<- S.pre];exact S.nd.sublist (List.take_sublist _ _)
 show#[u,rv,?_];rcases S.par y (eM hp) with k|k
 calc .inl #[k,rA ndP hp hu k];let(c,e):=vX k;show .inr #[.inl k,c,e,?_];have q:=x.cell y c e;rw[rB ndP hp hu (by change scope.names.lookup y≠_;rw[k];decide)] at q;calc q;calc e0.bC.fresh (SM (x.above y c (Nl h)));unfold start;change _=N.length;rw[lq,bL,OI]
 lia
theorem EM{CX:Ee}{K:qaf}{mg:qae}{k:Nat}{name:Str}{params:Arguments}{body:qaq}{scope:Scope}{dV kV doc pm bP ct oc:Value}{an od:qar}{Ct:Array (Option Value)}{N ps:ω}{sp:Sp}(lk:K.lookup f=some #[oc,od,.func (W.fnOf name qual params body scope dV kV doc pm an bP ct),Ct])(gv:W.codeIn K bP qual=true)(S:aI N ps scope)(len:∀vs H Q E,sp vs H Q E->vs.length=ps.length)(gz:∀(A:Around) (outer:List Env) (s:Shared) (H:Hp) (vs:List V) (Q:VK) (E:XK),bA k (A.deeper (envOfC qual scope 8 f bP))->sp vs H Q E ->
    ∃t,jF (ke CX P w K mg base N qual scope f bP A outer s H E) body t/\t {nx:=λ_ H'=>Q .bK H',rt:=Q} (start N vs) H) :
  dA P w K mg base CX (k+1) f (W.fnOf name qual params body scope dV kV doc pm an bP ct) ps sp:=by
 show#[len,λA outer s H args us vs Q E hr e0 hb r SV=>?_];have hl:=len _ _ _ _ SV;have KX:=e0.mod.Yh.keeps λb o e=>(e0.bs b o e).1;have lim:=e0.mod.nolimit.keeps λb o e=>(e0.bs b o e).1;have Ut:∀y∈ps.zip us,scope.names.lookup y.1\.local\/(scope.names.lookup y.1\.cell/\((cellsFrom 36 scope.names []).lookup y.1).isSome=true):=λ#[n,v] hy=>by
  rcases S.par n (List.of_mem_zip hy).1 with q|q
  calc .inl q;exact .inr #[q,W.cellsFrom_some _ _ _ (.inl q)]
 show codeAny_call_function hr.depth (KX _ _ lk) 9 S.co S.gen 9 (W.codeRec_of KX gv) (hb _ _ _ _ (wpAny_newFunctionEnv_cells S.kind Ut λenv he s1 x=>?_));subst he;show#[lim.keeps x.toInCall.keep,codeAny_func ?_];let(t,ht,hq):=gz A outer s H vs Q E (hr.deeper _) SV;have I:Inv (ke CX P w K mg base N qual scope f bP A outer s H E) [] (start N vs) H s1:=Cs S hr.hd e0 hl r x;show Ψ (ht [] s1 (start N vs) H _ I hq) (λfl s' hs=>?_) λe s' hs=>hs;have fin:∀{σ':St}{H':Hp}{v:V}{u:Value},Inv (ke CX P w K mg base N qual scope f bP A outer s H E) [] σ' H' s'->RelV v u->Q v H'->CE outer P w H s Q u s' :=
  λ{σ' H' v u} J rv q=>#[v,H',J.os,J.bare,J.base,J.bC,rv,q]
 cases fl with
 |ret u=>let(v,σ',H',J,rv,q):=hs;calc fin J rv q
 |next=>let(σ',H',J,q):=hs;calc fin (v:=V.bK) J 9 q
 |brk=>let(_,_,_,q):=hs;calc False.elim q
 |cont=>let(_,_,_,q):=hs;calc False.elim q
section
variable{X:Cx}{pos:Pos}{es:qap}{t:TA}{id T:String}{r:List V->Hp->VK->Prop}
def tCB(r:List V->Hp->VK->Prop)(t:TA):TE:=λσ H Q=>t σ H λvs H1=>r vs H1 Q
def oq(hc:cV X (.builtin id) r)(hg:Gl X x)(hm:X.mg x=none)(hv:bootBuiltins x\.builtin id)(ha:PA X (e::es) t)(hn:x≠"__name__":=by decide)(qx:f9 x:=by decide)(he:starEach (e::es) 19=(false,eval e 19)::starEach es 19:=by rfl)(jn:(backTo pos (starEach es 19)).any (·.1)=false:=by rfl):PE X (.Call 52 (e::es) [] pos) (tCB r t):=by intro ε s σ H Q I h;calc aat (lC I hg hm hv (PyProof.Rows.callWith_builtin1 (cz (ha pos ε s σ H _ I h) λus s1 #[vs,H1,I1,r1,q1]=>hc ε s1 σ H1 vs us Q I1 r1 q1) he jn) hn qx)
def rC(hc:cV X (.type T) r)(hg:Gl X x)(hm:X.mg x=none)(hv:bootBuiltins x\.type T)(ha:PA X (e::es) t)(hn:x≠"__name__":=by decide)(qx:f9 x:=by decide)(he:starEach (e::es) 19=(false,eval e 19)::starEach es 19:=by rfl)(jn:(backTo pos (starEach es 19)).any (·.1)=false:=by rfl):PE X (.Call 52 (e::es) [] pos) (tCB r t):=by intro ε s σ H Q I h;calc aat (lC I hg hm hv (XY (cz (ha pos ε s σ H _ I h) λus s1 #[vs,H1,I1,r1,q1]=>hc ε s1 σ H1 vs us Q I1 r1 q1) he jn) hn qx)
end
end L2
variable{K:qaf}{X:L2.Cx}{H H':L2.Hp}{σ:L2.St}{E Q:qad}{v:L2.V}{ε:qaa}{mg:qae}{ps ys:ω}{es elts:qap}{ks:List (List L2.Key)}{ta te:L2.TE}{us:qag}{is:qao}{fp:zm}{rest:qaq}{bf:List (List L2.Key×L2.V)}
abbrev qac:=List (PySem.Str×L2.V)
abbrev qak:=List L2.V
namespace HT
open PySem PyProof.Rows
section
open PySem.SeqAt
open PySem.AutoSeq1 (wpAny_loadPart')
open PySem.MeetsSeq PySem.MeetsSeq2 PySem.MeetsSeq3
end
section
def Ke{t b:Addr}{vs ws:qag}(ht:IsTup 50 t vs.toArray)(hb:IsTup 50 b ws.toArray)(hv:vs≠[])(h1:ws=[]->Q (.ref t) s)(h2:ws≠[]->Q 32 {s with heap:=s.heap.push {cls:=.type "tuple",data:=.seq (vs++ws).toArray} })(hsz:vs.length+ws.length<=sizeLine):wpAny 14 A (binaryOp .Add (.ref t) (.ref b)) Q E s:=by
 let((cls,dd,data,sl),ho,hc,n,hd):=id ht;let((Uu,SW,data2,SX),yg,Kg,n2,hd2):=id hb;subst hc hd Kg hd2;have e:vs.toArray++ws.toArray=(vs++ws).toArray:=by simp
 by_cases hw:ws=[];exact concat_meets #[_,ho,9] #[_,yg,9] noFill_tuple_add seq_tuple_add Zl Zi (Zg _ _)
  (tuple_addW1 t b vs.toArray ws.toArray n n2 dd SW sl SX (by simpa using hv) (by simp[hw])) #[ho,yg,h1 hw]
 show concat_meets #[_,ho,9] #[_,yg,9] noFill_tuple_add seq_tuple_add Zl Zi (Zg _ _)
  (tuple_addW2 t b vs.toArray ws.toArray n n2 dd SW sl SX (by simpa using hv) (by simpa using hw) (by rw[iD,iD];calc hsz)) #[ho,yg,?_]
 rw[e];calc h2 hw
def dX(n d:Nat):Option Int->Nat
 |none=>d
 |some v=>if v<0 then (v+(n:Int)).toNat else min v.toNat n
def EN(n d:Nat):dX n d none=d:=rfl
def Kh(n d k:Nat):dX n d (some (k:Int))=min k n:=by change (if k<0 then (k+(n:Int)).toNat else min (k:Int).toNat n)=min k n;rw[θ (),j6]
def ZW(n d:Nat)(hd:d<=n)(o:Option Int):dX n d o<=n:=by
 cases o with
 |none=>calc hd
 |some v=>change (if v<0 then (v+n).toNat else min v.toNat n)<=n;by_cases hv:v<0;rw[ι hv];lia;rw[θ hv];calc Nat.min_le_right _ _
def AB(v:Int)(n d:Nat):(if v<0 then max (v+(n:Int)) 0 else min v (n:Int))=((dX n d (some v):Nat):Int):=by change (if v<0 then max (v+n) 0 else min v n)=(((if v<0 then (v+n).toNat else min v.toNat n):Nat):Int);by_cases hv:v<0;simp only[ι hv];lia;simp only[θ hv];lia
def yJ(lo hi:Option Int)(n:Nat):Builtin.Slice.sliceAdjust lo hi 1 (n:Int)=(((dX n 0 lo:Nat):Int),((dX n n hi:Nat):Int)):=by
 unfold Builtin.Slice.sliceAdjust;show Prod.ext ?_ ?_;cases lo with
 |none=>rfl
 |some v=>exact AB v n 0
 cases hi with
 |none=>rfl
 |some v=>calc AB v n n
def yK(i j:Nat):Builtin.Slice.slicePlaces (i:Int) (j:Int) 1=j-i:=by unfold Builtin.Slice.slicePlaces;split<;>lia
def ou{v:Value}{o:Option Int}{Q:Option Int->Shared->Prop}(p:IsPart v o)(h:Q o s):wpAny 14 A (Builtin.Slice.slicePartIndex v) Q E s:=by
 cases p with
 |none=>calc slicePart_none h
 |int i t=>calc slicePart_int h
def lN{sl:Addr}{vl vu:Value}{lo hi:Option Int}{Q:Int×Int×Nat->Shared->Prop}(hs:s.heap.IsSliceOf sl vl vu .none)(pl:IsPart vl lo)(pu:IsPart vu hi)(h:Q (((dX n 0 lo:Nat):Int),1,dX n n hi-dX n 0 lo) s):wpAny 14 A (Builtin.Slice.sliceApplied (.ref sl) (pure (n:Int))) Q E s:=by let(os,Uv,hcs,Ym):=id hs;show ζ (ζ (Λ Uv Ym 9 (ζ (Λ Uv Ym 9 (ζ (Λ Uv Ym 9 (η (ζ (slicePart_none (ζ (ou pl (ζ (ou pu (ζ (η ?_)))))))))))))));change wpAny _ _ (match Builtin.Slice.sliceAdjust lo hi 1 n with|(lo,hi)=>pure (lo,(1:Int),Builtin.Slice.slicePlaces lo hi 1)) _ _ s;rw[yJ lo hi n];change wpAny _ _ (pure (((dX n 0 lo:Nat):Int),(1:Int),Builtin.Slice.slicePlaces ((dX n 0 lo:Nat):Int) ((dX n n hi:Nat):Int) 1)) _ _ s;rw[yK];calc η h
def EO(xs:Array Value)(i k:Nat):((List.range k).filterMap λ(m:Nat)=>xs[((i:Int)+(m:Int) * 1).toNat]?).toArray=((xs.toList.drop i).take k).toArray:=by
 have e:(λ(m:Nat)=>xs[(i+(m:Int) * 1).toNat]?)=λm=>xs[i+m]?:=by
  funext m;have:(i+(m:Int) * 1).toNat=i+m:=by lia
  rw[this]
 rw[e];have:=pick_run xs i k;rw[Yb] at this;have e2:((λx=>xs[x]?) ∘ λx=>i+x)=λm=>xs[i+m]?:=rfl;rw[e2] at this;rw[this]
def kf{t sl:Addr}{items:Array Value}{vl vu:Value}{lo hi:Option Int}(ht:IsTup 50 t items)(hs:s.heap.IsSliceOf sl vl vu .none)(pl:IsPart vl lo)(pu:IsPart vu hi)(hw:¬ (dX items.size 0 lo=0/\dX items.size items.size hi=items.size))(h:Q 32 {s with heap:=s.heap.push {cls:=.type "tuple",data:=.seq ((items.toList.drop (dX items.size 0 lo)).take (dX items.size items.size hi-dX items.size 0 lo)).toArray} })(hsz:items.size<=sizeLine):wpAny 14 A (getItem (.ref t) (.ref sl)) Q E s:=by
 have AD:sizeOk (.seq ((items.toList.drop (dX items.size 0 lo)).take (dX items.size items.size hi-dX items.size 0 lo)).toArray):=by
  change ((items.toList.drop (dX items.size 0 lo)).take (dX items.size items.size hi-dX items.size 0 lo)).toArray.size<=sizeLine;rw[iD,Np,TQ,JB]
  lia
 let(os,Uv,hcs,Ym):=id hs;have hTs:s.TypeIs (.ref sl) "slice":=#[os,Uv,hcs];unfold getItem
 try with_reducible show v9 ?_
 first|show ζ (η ?_)|skip
 show ζ (wpAny_sequenceKey ht.typeIs 5 ?_);show ζ (Γ ht.typeIs Zd
  (χ Zd ht.typeIs entry_tuple_getitem ?_ (args_tuple_getitem _ _)))
 change wpAny _ _ (Builtin.Tuple.tupleItemsOf (.ref t) >>= _) _ _ s;show ζ (tupleItemsOf_ ht (ζ (aam hTs (ζ (lN hs pl pu ?_)))));have ZX:¬ ((((dX items.size 0 lo:Nat):Int)==0 && (1:Int)==1 && (dX items.size items.size hi-dX items.size 0 lo)==items.size)=true):=by intro q;rw[iE,iE] at q;have q1:=eq_of_beq q.1.1;have q2:=eq_of_beq q.2;exact hw #[(),()]
 change wpAny _ _ (if (((dX items.size 0 lo:Nat):Int)==0 && (1:Int)==1 && (dX items.size items.size hi-dX items.size 0 lo)==items.size)=true then _ else _) _ _ s;rw[θ ZX,EO]
 first
  |calc ζ (Δ (η #[_,9,η h]) AD)
  |calc ζ (Δ (ζ (η (η #[_,9,η h]))) AD)
  |calc ζ (ζ (Δ (η (η #[_,9,η h])) AD))
  |calc ζ (ζ (Δ (η #[_,9,η h]) AD))
end
end HT
variable{vs xs:qak}
namespace L2
open PySem PySem.Spec PyProof.Rows
abbrev TO:=St->Hp->(Option Int->Hp->Prop)->Prop
def PO(X:Cx)(e:Option Expr)(t:TO):Prop :=
 ∀(ε:qaa)(s:Shared)(σ:St)(H:Hp)(Q:Option Int->Hp->Prop),Inv X ε σ H s->t σ H Q ->
  wpAny 22 X.A (evalPart e 19) (λu s'=>∃o H',Inv X ε σ H' s'/\IsPart u o/\Q o H') X.xe s
def Ki:TO:=λ_ H Q=>Q none H
def Uw(t:TE):TO:=λσ H Q=>t σ H λx H1=>∃i,x=.int i/\Q (some i) H1
def intsAre_of{ns:qan}:∀{us:qag},Vals (ns.map V.int) us->IntsAre us ns:=by
 induction ns with
 |nil=>intro us r;rw[SN] at r;cases r;calc .nil
 |cons n ns ih=>
  intro us r;cases r with
  |cons r1 r2=>let(t,e):=r1;subst e;calc .cons n t (ih r2)
section
variable{lo hi:Option Expr}{tl th:TO}{pos:Pos}
def Kj:PO X none Ki:=by intro ε s σ H Q I h;calc η #[none,H,I,.none,h]
def Kk(h:PE X e te):PO X (some e) (Uw te):=by intro ε s σ H Q I hw;show cz (h ε s σ H _ I hw) λu s1 #[x,H1,I1,r1,q1]=>?_;let(i,rfl,q):=q1;let(t,rfl):=r1;calc#[some i,H1,I1,.int i t,q]
def ER(X:Cx)(r:V->Option Int->Option Int->Hp->VK->Prop):Prop :=
 ∀(ε:qaa)(s:Shared)(σ:St)(H:Hp)(x:V)(v vl vu:Value)(lo hi:Option Int)(sl:Addr)(Q:VK),Inv X ε σ H s->RelV x v->s.heap.IsSliceOf sl vl vu .none->IsPart vl lo->IsPart vu hi->r x lo hi H Q ->
  ∃T id,typeLookup (.type T) "__getitem__"=pure (some (.builtin id))/\s.TypeIs v T/\wpAny 22 X.A (getItem v (.ref sl)) (EP X ε σ Q) X.xe s
def ER.or{r r':V->Option Int->Option Int->Hp->VK->Prop}(h:ER X r)(h':ER X r'):ER X (λx lo hi H Q=>r x lo hi H Q\/r' x lo hi H Q):=by
 intro ε s σ H x v vl vu lo hi sl Q I rx hs pl pu q;obtain q|q:=q
 calc h ε s σ H x v vl vu lo hi sl Q I rx hs pl pu q;calc h' ε s σ H x v vl vu lo hi sl Q I rx hs pl pu q
def tSl(r:V->Option Int->Option Int->Hp->VK->Prop)(te:TE)(tl th:TO):TE:=λσ H Q=>te σ H λx H1=>tl σ H1 λl H2=>th σ H2 λu H3=>r x l u H3 Q
def ES{r:V->Option Int->Option Int->Hp->VK->Prop}(hr:ER X r)(he:PE X e te)(hl:PO X lo tl)(hu:PO X hi th):PE X (.Subscript e (.Slice lo hi none p2) pos) (tSl r te tl th):=by intro ε s σ H Q I h;show Subscript_ (cz (he ε s σ H _ I h) λv s1 #[x,H1,I1,r1,q1]=>wpAny_Slice (cz (hl ε s1 σ H1 _ I1 q1) λvl s2 #[l,H2,I2,pl,q2]=>cz (hu ε s2 σ H2 _ I2 q2) λvu s3 #[u,H3,I3,pu,q3]=>η ?_));have I4:Inv X ε σ H3 {s3 with heap:=s3.heap.push {cls:=.type "slice",data:=.fields ([vl,vu,.none].toArray)} }:=I3.kept λb ob q=>c9 _ q;let(T,id,hT,ht,hg):=hr ε {s3 with heap:=s3.heap.push {cls:=.type "slice",data:=.fields ([vl,vu,.none].toArray)} } σ H3 x v vl vu l u s3.heap.objs.size Q I4 r1 (Heap.IsSliceOf.new ..) pl pu q3;calc tail_any ht hT hg (by with_unfolding_all rfl)
def Cu(xs:qak)(lo hi:Option Int):qak:=(xs.drop (HT.dX 34 0 lo)).take (HT.dX 34 34 hi-HT.dX 34 0 lo)
theorem mJ(xs:qak)(lo hi:Option Int):(Cu xs lo hi).length<=34:=by
 unfold Cu;rw[Np,TQ]
 lia
def Ux(K:qaf):V->Option Int->Option Int->Hp->VK->Prop:=λx lo hi H Q=>E2 λa xs=>x=.ref a/\dJ K H a xs /\
 ¬ (HT.dX 34 0 lo=0/\HT.dX 34 34 hi=34)/\∀p,H p=none->Q (.ref p) (upd H p (.tup (Cu xs lo hi)))
def PF:ER X (Ux X.K):=by
 intro ε s σ H x v vl vu lo hi sl Q I rx hs pl pu h;let(a,xs,rfl,hx,hw,q):=h;cases rx;let(aN,r,ht,hz):=I.tuple hx;have hlen:aN.toArray.size=34:=by rw[iD];exact r.length.symm
 show#["tuple",_,Zd.lookup,ht.typeIs,HT.kf ht hs pl pu (by rw[hlen];calc hw) ?_ (by rw[hlen];calc hz)];rw[hlen];show#[.ref 8,_,I.laid (λb ob q=>c9 _ q) (cv _) ?_,9,q _ (I.bC.fresh (cv _))];calc#[jR (mJ xs lo hi) hz,_,(r.drop (HT.dX 34 0 lo)).take (HT.dX 34 34 hi-HT.dX 34 0 lo),IsTup.new _ _]
def Vals.gY(r:Vals xs us):us=[]↔xs=[]:=by
 cases r with
 |_=>simp
end
def yh(n:Nat)(i:Int):Option Nat:=if 0<=i then (if i<n then some i.toNat else none) else if -(n:Int)<=i then some (i+n).toNat else none
def iJ{α:Type}(xs:List α)(i:Int):Option α:=(yh 34 i).bind λj=>xs[j]?
def AE{i:Int}(h:yh n i\j):seqIndex? i n\j/\j<n/\-(n:Int)<=i/\i<n:=by unfold yh at h;by_cases h0:0<=i;rw[ι h0] at h;by_cases h1:i<n;rw[ι h1] at h;have e:=Option.some.inj h;calc#[by rw[seqIndex_of h0 h1,e],(),(),h1];rw[θ h1] at h;cases h;rw[θ h0] at h;by_cases h1 : -n<=i;rw[ι h1] at h;have e:=Option.some.inj h;calc#[by rw[seqIndex_neg () h1,e],(),h1,()];rw[θ h1] at h;cases h
def sT{xs:List α}{i:Int}{v:α}(h:iJ xs i\v):∃j,seqIndex? i 34\j/\xs[j]?\v/\j<34/\-(34:Int)<=i/\i<34:=by
 unfold iJ at h;cases e:yh xs.length i with
 |none=>rw[e] at h;cases h
 |some j=>rw[e] at h;let(h1,h2,h3,h4):=AE e;calc#[j,h1,h,h2,h3,h4]
def ah{xs:List α}{v:α}(h:xs[j]?\v):iJ xs (j:Int)\v:=by
 have hj:=(dy.mp h).1;have e:yh 34 j\j:=by unfold yh;rw[ι (),ι ()];simp
 unfold iJ;rw[e];calc h
theorem aaL{a:α}{l:List α}:iJ (a::l) 0\a:=ah (j:=0) 9
theorem aaM{a b:α}{l:List α}:iJ (a::b::l) 1\b:=ah (j:=1) 9
theorem aaN{a b c:α}{l:List α}:iJ (a::b::c::l) 2\c:=ah (j:=2) 9
theorem aaO{a b c d:α}{l:List α}:iJ (a::b::c::d::l) 03\d:=ah (j:=03) 9
theorem aaP{a b c d e:α}{l:List α}:iJ (a::b::c::d::e::l) 04\e:=ah (j:=04) 9
def ow(xs:List α)(v:α):iJ (xs++[v]) (-1)\v:=by
 have hl:(xs++[v]).length=34+1:=by simp
 have e:yh (xs++[v]).length (-1)\34:=by
  unfold yh;rw[hl,θ 5,ι ()]
  congr 1
  lia
 unfold iJ;rw[e];simp
def AF(b:Expr):Prop:=∀o i,subscripted b false o i=operate [o,i] (getItem o i)
def Kl(X:Cx)(r:R2):Prop :=
 ∀(value slice:Expr)(ε:qaa)(s:Shared)(σ:St)(H:Hp)(x y:V)(v u:Value)(Q:VK),Inv X ε σ H s->RelV x v->RelV y u->r x y H Q ->
  subscripted slice false v u=operate [v,u] (getItem v u)->wpAny 22 X.A (subscriptTail value slice v u) (EP X ε σ Q) X.xe s
def NC(X:Cx)(id:String)(r:V->qak->Hp->VK->Prop):Prop :=
 ∀(ε:qaa)(s:Shared)(σ:St)(H:Hp)(x:V)(xs:qak)(v:Value)(us:qag)(Q:VK),Inv X ε σ H s->RelV x v->Vals xs us->r x xs H Q ->
  wpAny 22 X.A (call (.builtin id) (v::us)) (EP X ε σ Q) X.xe s
section
variable{a:Expr}{tb:TE}{pos:Pos}
def Kl.or{r r':R2}(h:Kl X r)(h':Kl X r'):Kl X (λx y H Q=>r x y H Q\/r' x y H Q):=by
 intro value slice ε s σ H x y v u Q I rx ry q hs;obtain q|q:=q
 calc h value slice ε s σ H x y v u Q I rx ry q hs;calc h' value slice ε s σ H x y v u Q I rx ry q hs
def Uy{r:R2}(hr:Kl X r)(ha:PE X a ta)(hb:PE X b tb)(hs:AF b):PE X (.Subscript a b pos) (Ue r ta tb):=by intro ε s σ H Q I h;calc Subscript_ (Pj ha hb I h λv u s2 x y H2 I2 rx ry q=>hr a b ε s2 σ H2 x y v u Q I2 rx ry q (hs _ _))
def Uz(K:qaf):R2:=λx y H Q=>E4 λp xs i v=>x=.ref p/\y=.int i/\fQ K H p xs/\iJ xs i\v/\Q v H
def UA(K:qaf):R2:=λx y H Q=>E4 λp xs i v=>x=.ref p/\y=.int i/\dJ K H p xs/\iJ xs i\v/\Q v H
def UB:R2:=λx y H Q=>E3 λz i c=>x=.str z/\y=.int i/\z.length<=sizeLine/\iJ z.cps.toList i\c/\Q (.str #[([c].toArray)]) H
theorem Km:Kl X (Uz X.K):=by
 intro value slice ε s σ H x y v u Q I rx ry h hs;let(p,xs,i,z,rfl,rfl,hq,he,q):=h;cases rx;let(t,rfl):=ry;let(aN,r,pl,hz):=I.list hq;let(j,h1,h2,h3,h4,h5):=sT he;let(w,ew,rw'):=r.get h2;have hl:=r.length;have hn:=lL;have fin:EP X ε σ Q w s:=#[z,H,I,rw',q];by_cases h0:0<=i;have hj:i.toNat=j:=by rw[seqIndex_of h0 h5] at h1;exact Option.some.inj h1
 calc item_listR pl.isList h0 () (by rw[hj];simpa using ew) fin hs;have hj:(i+(aN.toArray.size:Int)).toNat=j:=by rw[seqIndex_neg () h4] at h1;rw[iD,<- hl];exact Option.some.inj h1
 exact subscriptTail_builtinR pl.isList.typeIs slot_list_getitem.lookup
  (wpAny_getItem_list_neg pl.isList () (by rw[iD]<;>lia) () (by rw[hj];simpa using ew) #[9,fin]) hs
theorem PH:Kl X (UA X.K):=by
 intro value slice ε s σ H x y v u Q I rx ry h hs;let(p,xs,i,z,rfl,rfl,hq,he,q):=h;cases rx;let(t,rfl):=ry;let(aN,r,pl,hz):=I.tuple hq;let(j,h1,h2,h3,h4,h5):=sT he;let(w,ew,rw'):=r.get h2;have hl:=r.length;have hn:=lL;have fin:EP X ε σ Q w s:=#[z,H,I,rw',q];exact subscriptTail_builtinR pl.typeIs slot_tuple_getitem.lookup
  (getItem_tuple pl () () (by rw[iD,<- hl];calc h1) (by simpa using ew) #[9,fin]) hs
theorem PJ:Kl X UB:=by
 intro value slice ε s σ H x y v u Q I rx ry h hs;let(z,i,c,rfl,rfl,hz,he,q):=h;let(t,rfl):=rx;let(t',rfl):=ry;let(j,h1,h2,h3,h4,h5):=sT he;have hl:z.cps.toList.length=z.length:=by simp[Str.length]
 rw[hl] at h1 h4 h5;have hn:=lL;calc tail_any (typeIs_str s z t) slot_str_getitem.lookup (getItem_str (by have e1:decide (i < -(2 ^ 63:Int))=false:=ς ();have e2:decide (i ≥ 2 ^ 63)=false:=ς ();rw[e1,e2,Bool.or_false]) (by rw[h1];simpa using h2) #[.str #[([c].toArray)],H,I.tok _,#[_,9],q]) hs
def rIx(K:qaf):R2:=λx y H Q=>Uz K x y H Q\/UA K x y H Q\/UB x y H Q
def PK:Kl X (rIx X.K):=Km.or (PH.or PJ)
def yL(aN:qag)(n j:Nat)(u:Value):Obj.mapSeq (·.setIfInBounds j u) {cls:=.type "list",data:=.seq aN.toArray n}={cls:=.type "list",data:=.seq (aN.set j u).toArray n}:=by simp[Obj.mapSeq]
def Inv.lst{p:Addr}(I:Inv X ε σ H s)(h:H p\.lst xs) :
  ∃(aN:qag)(n:Nat),Vals xs aN/\s.heap.get? p=some {cls:=.type "list",data:=.seq aN.toArray n}/\34<=sizeLine:=by
 let(z,aN,n,r,e):=I.bC p _ h;calc#[aN,n,r,e,z]
def Inv.PL{p:Addr}{ys:qak}{aN ni:qag}{n':Nat}{f:Obj->Obj}(I:Inv X ε σ H s)(h:H p\.lst xs)(ho:s.heap.get? p=some {cls:=.type "list",data:=.seq aN.toArray n})(hf:f {cls:=.type "list",data:=.seq aN.toArray n}={cls:=.type "list",data:=.seq ni.toArray n'})(r:Vals ys ni)(hz:ys.length<=sizeLine)(t:Nat) :
  Inv X ε σ (upd H p (.lst ys)) {s with heap:=s.heap.update p f,toks:=t}:=by
 have e:(s.heap.update p f).get? p=some {cls:=.type "list",data:=.seq ni.toArray n'}:=by rw[Heap.get?_update_self f ho (by rw[hf]<;>rfl),hf]
 show I.write (by rw[h];trivial) 7 (λb u hb q=>(Heap.get?_update_other _ _ (Ne.symm hb)).trans q) #[_,e] ?_;calc#[hz,ni,n',r,e]
def UC:V->V->V->Hp->(Hp->Prop)->Prop:=λo i v H Q=>E4 λp xs k j=>o=.ref p/\i=.int k/\H p\.lst xs/\yh 34 k\j/\Q (upd H p (.lst (xs.set j v)))
theorem set_list:Ua X UC:=by
 intro ε s σ H o i v ov iv u Q I ro ri rv h;let(p,xs,k,j,rfl,rfl,hp,hj,q):=h;cases ro;let(t,rfl):=ri;let(aN,n,r,ho,hz):=I.lst hp;let(h1,h2,h3,h4):=AE hj;have hl:=r.length;have hn:=lL;have I' :=
  I.PL hp ho (yL aN n j u) (r.set rv j) (by rw[List.length_set];calc hz) s.toks
 by_cases h0:0<=k;have hk:k.toNat=j:=by rw[seqIndex_of h0 h4] at h1;exact Option.some.inj h1
 calc W.ki_setAt ho h0 () (by rw[iD,<- hl];calc h4) (by rw[hk];calc#[_,I',q]);have hk:(k+(aN.toArray.size:Int)).toNat=j:=by rw[seqIndex_neg () h3] at h1;rw[iD,<- hl];exact Option.some.inj h1
 calc W.ki_setBack ho () (by rw[iD,<- hl];calc h3) () (by rw[hk];calc#[_,I',q])
theorem sU(lo hi:Option Int)(n:Nat):(sliceBounds lo hi none n).1=((HT.dX n 0 lo:Nat):Int)/\(sliceBounds lo hi none n).2.1=((HT.dX n n hi:Nat):Int)/\(sliceBounds lo hi none n).2.2=1:=by
 show#[?_,?_,9];cases lo with
 |none=>simp[sliceBounds,HT.dX]
 |some i=>simp only[sliceBounds,HT.dX,Option.getD_none,show 1 > 0 by decide,aaK];by_cases h:i<0;simp only[h,aaK]<;>lia;simp only[h,aaJ]<;>lia
 cases hi with
 |none=>simp[sliceBounds,HT.dX]
 |some i=>simp only[sliceBounds,HT.dX,Option.getD_none,show 1 > 0 by decide,aaK];by_cases h:i<0;simp only[h,aaK]<;>lia;simp only[h,aaJ]<;>lia
def qz(aN:qag)(lo hi:Option Int):slicePick aN.toArray lo hi none=((aN.drop (HT.dX aN.length 0 lo)).take (HT.dX aN.length aN.length hi-HT.dX aN.length 0 lo)).toArray:=by let(h1,h2,h3):=sU lo hi aN.toArray.size;unfold slicePick;rw[h1,h2,h3];simp only[sliceRange_one,pick_run,iD]<;>rfl
def UD(K:qaf):V->Option Int->Option Int->Hp->VK->Prop:=λx lo hi H Q=>E2 λa xs=>x=.ref a/\fQ K H a xs/\∀p,H p=none->Q (.ref p) (upd H p (.lst (Cu xs lo hi)))
theorem Kn:ER X (UD X.K):=by intro ε s σ H x v vl vu lo hi sl Q I rx hs pl pu h;let(a,xs,rfl,hx,q):=h;cases rx;let(aN,r,ht,hz):=I.list hx;have hlen:=r.length;show#["list",_,slot_list_getitem.lookup,ht.isList.typeIs,wpAny_getItem_list_slice ht.isList hs pl pu .none 4 ?_ (by rw[iD]<;>lia)];rw[qz,<- hlen];show#[.ref 8,_,I.laid (λb ob q=>c9 _ q) (cv _) ?_,9,q _ (I.bC.fresh (cv _))];calc#[jR (mJ xs lo hi) hz,_,0,(r.drop (HT.dX 34 0 lo)).take (HT.dX 34 34 hi-HT.dX 34 0 lo),gU _ 9]
def iK:V->Bool
 |.bK=>true
 |.bl _=>true
 |.int _=>true
 |.str _=>true
 |_=>false
def Jr:V->V->Bool
 |.bK,.bK=>true
 |.bl a,.bl b=>a==b
 |.bl a,.int b=>(if a then 1 else 0)==b
 |.int a,.bl b=>a==(if b then 1 else 0)
 |.int a,.int b=>a==b
 |.str a,.str b=>a==b
 |_,_=>false
def PM{y x:V}{v:Value}(ry:RelV y u)(rx:RelV x v)(fy:iK y=true)(fx:iK x=true):SeqAt.EqAt A s u v (Jr y x):=by
 cases y with
 |bK=>
  cases ry;cases x with
  |bK=>cases rx;calc SeqAt.EqAt.same _
  |bl b=>cases rx;calc SeqAt.EqAt.none_bool b
  |int b=>let(t,rfl):=rx;calc SeqAt.EqAt.none_int b t
  |str b=>let(t,rfl):=rx;calc SeqAt.EqAt.none_str b t
  |_=>calc absurd (show false=true from fx) jk
 |bl a=>
  cases ry;cases x with
  |bK=>cases rx;calc SeqAt.EqAt.bool_none a
  |bl b=>cases rx;calc SeqAt.EqAt.bool_bool a b
  |int b=>let(t,rfl):=rx;calc SeqAt.EqAt.bool_int a b t
  |str b=>let(t,rfl):=rx;calc SeqAt.EqAt.bool_str a b t
  |_=>calc absurd (show false=true from fx) jk
 |int a=>
  let(t',rfl):=ry;cases x with
  |bK=>cases rx;calc SeqAt.EqAt.int_none a t'
  |bl b=>cases rx;calc SeqAt.EqAt.int_bool a t' b
  |int b=>let(t,rfl):=rx;calc SeqAt.EqAt.int_int a t' b t
  |str b=>let(t,rfl):=rx;calc SeqAt.EqAt.int_str a t' b t
  |_=>calc absurd (show false=true from fx) jk
 |str a=>
  let(t',rfl):=ry;cases x with
  |bK=>cases rx;calc SeqAt.EqAt.str_none a t'
  |bl b=>cases rx;calc SeqAt.EqAt.str_bool a t' b
  |int b=>let(t,rfl):=rx;calc SeqAt.EqAt.str_int a t' b t
  |str b=>let(t,rfl):=rx;calc SeqAt.EqAt.str_str a t' b t
  |_=>calc absurd (show false=true from fx) jk
 |_=>calc absurd (show false=true from fy) jk
def Ko(x:V)(u:Value):Bool:=match u with
 |.none=>Jr .bK x
 |.bool b=>Jr (.bl b) x
 |.int i _=>Jr (.int i) x
 |.str z _=>Jr (.str z) x
 |_=>false
def ET{x y:V}(r:RelV y u)(f:iK y=true):Ko x u=Jr y x:=by
 cases y with
 |bK=>cases r;rfl
 |bl b=>cases r;rfl
 |int i=>let(t,rfl):=r;rfl
 |str z=>let(t,rfl):=r;rfl
 |_=>calc absurd (show false=true from f) jk
theorem sV{x:V}:∀{xs:qak}{us:qag},Vals xs us->xs.all iK=true->us.any (Ko x)=xs.any λy=>Jr y x
 |_,_,.nil,_=>rfl
 |y::xs,u::us,.cons r t,f=>by rw[List.all_cons,iE] at f;rw[Ca,Ca,ET r f.1,sV t f.2]
theorem oy{A:Around}{s:Shared}{x:V}{v:Value}(rx:RelV x v)(fx:iK x=true):∀{xs:qak}{us:qag},Vals xs us->xs.all iK=true->∀u∈us,SeqAt.EqAt A s u v (Ko x u)
 |_,_,.nil,_=>λu hu=>by cases hu
 |y::xs,u::us,.cons r t,f=>λu' hu=>by
  rw[List.all_cons,iE] at f;rcases cY.mp hu with rfl|hu
  rw[ET r f.1];calc PM r rx f.1 fx;calc oy rx fx t f.2 u' hu
def Yn(x:V)(xs:qak):Bool:=xs.any λy=>Jr y x
def rIn(K:qaf)(neg:Bool):R2:=λx y H Q=>E2 λp xs=>y=.ref p/\(fQ K H p xs\/dJ K H p xs)/\iK x=true/\xs.all iK=true/\Q (.bl (if neg then !Yn x xs else Yn x xs)) H
def Cv:eX X (compareOp .In) (rIn X.K false):=by
 intro ε s σ H x y v u Q I rx ry h;let(p,xs,rfl,hq,fx,fs,q):=h;cases ry;obtain hq|hq:=hq
 let(aN,r,pl,hz):=I.list hq;show SeqAt.in_listAt (Ko x) pl.isList (λw hw=>oy rx fx r fs w (by simpa using hw)) #[.bl _,H,I,9,?_];rw[show aN.toArray.any (Ko x)=aN.any (Ko x) by simp,sV r fs];calc q;let(aN,r,pl,hz):=I.tuple hq;show SeqAt.in_tupleAt (Ko x) pl (λw hw=>oy rx fx r fs w (by simpa using hw)) #[.bl _,H,I,9,?_];rw[show aN.toArray.any (Ko x)=aN.any (Ko x) by simp,sV r fs];calc q
theorem sW:cV X (.builtin "len") (λxs H Q=>∃p ys,xs=[.ref p]/\(fQ X.K H p ys\/dJ X.K H p ys)/\Q (.int ys.length) H):=by
 intro ε s σ H xs us Q I r h;let(p,ys,rfl,hq,q):=h;let(u,rfl,rx):=vals1 r;cases rx;have hn:=lL;obtain hq|hq:=hq
 let(aN,r',pl,hz):=I.list hq;have hlen:=r'.length;calc Calls.call_len_list pl.isList (by simp only[iD]<;>lia) #[.int ys.length,H,I.tok _,#[s.toks+1,by rw[iD,hlen]],q];let(aN,r',pl,hz):=I.tuple hq;have hlen:=r'.length;calc len_tuple pl (by simp only[iD]<;>lia) #[.int ys.length,H,I.tok _,#[s.toks+1,by rw[iD,hlen]],q]
theorem sX:cV X (.builtin "len") (λxs H Q=>∃z,xs=[.str z]/\z.length<=sizeLine/\Q (.int z.length) H):=by intro ε s σ H xs us Q I r h;let(z,rfl,hz,q):=h;let(u,rfl,t,rfl):=vals1 r;have hn:=lL;calc len_str () #[.int z.length,H,I.tok _,#[_,9],q]
def cV.or{f:Value}{r r':qak->Hp->VK->Prop}(h:cV X f r)(h':cV X f r'):cV X f (λxs H Q=>r xs H Q\/r' xs H Q):=by
 intro ε s σ H xs us Q I rs q;obtain q|q:=q
 calc h ε s σ H xs us Q I rs q;calc h' ε s σ H xs us Q I rs q
theorem cZ:cV X (.type "list") (λxs H Q=>∃p ys,xs=[.ref p]/\(fQ X.K H p ys\/dJ X.K H p ys)/\∀l,H l=none->Q (.ref l) (upd H l (.lst ys))):=by
 intro ε s σ H xs us Q I r h;let(p,ys,rfl,hq,q):=h;let(u,rfl,rx):=vals1 r;cases rx;have fin:∀aN,Vals ys aN->ys.length<=sizeLine->∀h' c',(∀b o',s.heap.get? b\o'->h'.get? b\o') ->
   h'.get? 8=some {cls:=.type "list",dict:=none,data:=.seq aN.toArray c',slots:=([].toArray)}->EP X ε σ Q 32 {s with heap:=h'}:=λaN r' hz h' c' kp e=>
  #[.ref 8,_,I.laid kp (cv _) (show bO 39 X.w _ h' _ (.lst ys) from#[hz,aN,c',r',e]),9,q _ (I.bC.fresh (cv _))]
 obtain hq|hq:=hq
 let(aN,r',pl,hz):=I.list hq;have hlen:=r'.length;let(o,ho,hc,n,hd):=pl.isList;calc call_list_seq p 7 ho hc hd (λh' c' kp e=>fin aN r' hz h' c' kp e) (by simp only[iD]<;>lia);let(aN,r',pl,hz):=I.tuple hq;have hlen:=r'.length;let(o,ho,hc,n,hd):=pl;calc call_list_seq p (.inr 9) ho hc hd (λh' c' kp e=>fin aN r' hz h' c' kp e) (by simp only[iD]<;>lia)
theorem jG:cV X (.type "tuple") (λxs H Q=>∃p ys,xs=[.ref p]/\((fQ X.K H p ys/\∀l,H l=none->Q (.ref l) (upd H l (.tup ys)))\/(dJ X.K H p ys/\Q (.ref p) H))):=by
 intro ε s σ H xs us Q I r h;let(p,ys,rfl,h):=h;let(u,rfl,rx):=vals1 r;cases rx;obtain⟨hq,q⟩|⟨hq,q⟩:=h
 let(aN,r',pl,hz):=I.list hq;have hlen:=r'.length;show call_tuple_list pl.isList (λh' kp=>?_) (by simp only[iD]<;>lia);have I1:=I.kept (t':=s.toks) kp;have I2 :=
  I1.laid (t':=s.toks) (λb o e=>c9 _ e) (cv _) (show bO 39 X.w _ _ _ (.tup ys) from#[hz,aN,r',IsTup.new _ _])
 calc#[.ref h'.objs.size,_,I2,9,q _ (I1.bC.fresh (cv _))];let(aN,r',pl,hz):=I.tuple hq;calc call_tuple_same pl #[.ref p,H,I,9,q]
def ZY(K:qaf)(T:String)(x:V)(H:Hp):Prop:=match x with
 |.str _=>T="str"
 |.int _=>T="int"
 |.ref p=>(T="list"/\∃xs,fQ K H p xs)\/(T="tuple"/\∃o,K.lookup p\o/\o.cls=.type "tuple"/\o.dict=none) \/
  (T="dict"/\((∃bf,H p\.dK bf)\/∃bf,H p\.dT bf))\/(T="set"/\∃S n,H p\.set S n)
 |_=>False
theorem EU{T:String}{x:V}{v:Value}(I:Inv X ε σ H s)(r:RelV x v)(ty:ZY X.K T x H) :
  s.TypeIs v T/\∀a,v=.ref a->∃ob,s.heap.get? a\ob/\ob.dict=none:=by
 cases x with
 |str z=>let(t,rfl):=r;cases (show T="str" from ty);calc#[typeIs_str s z t,λ_ e=>nomatch e]
 |int i=>let(t,rfl):=r;cases (show T="int" from ty);calc#[aaF s i t,λ_ e=>nomatch e]
 |ref p=>
   cases r;obtain⟨rfl,xs,hq⟩|⟨rfl,o,hk,hc,hd⟩|⟨rfl,hk⟩|⟨rfl,S,n,hk⟩:=ty
   let(aN,_,pl,_):=I.list hq;show#[pl.isList.typeIs,λa e=>?_];cases e;let(o,n,e,c,hd,_):=pl;calc#[o,e,hd];show#[#[o,I.vJ p o hk,hc],λa e=>?_];cases e;calc#[o,I.vJ _ o hk,hd];have z:∃o,s.heap.get? p\o/\o.ExactDict:=by
    obtain⟨bf,hk⟩|⟨bf,hk⟩:=hk
    let(_,_,_,_,o,_,_,e,ex,_):=I.bC p _ hk;calc#[o,e,ex];let(_,_,_,_,o,_,_,e,ex,_):=I.bC p _ hk;exact#[o,e,ex]
   let(o,e,ex):=z;show#[#[o,e,ex.1],λa e2=>?_];cases e2;calc#[o,e,ex.2.1];let(o,_,_,_,e,ex,_):=I.bC p _ hk;show#[#[o,e,ex.1],λa e2=>?_];cases e2;calc#[o,e,ex.2.1]
 |_=>calc False.elim ty
def ZZ(K:qaf)(T:String)(r:V->qak->Hp->VK->Prop)(to:TE):TE:=λσ H Q=>to σ H λx H1=>ZY K T x H1/\r x [] H1 Q
def tBM(K:qaf)(T:String)(r:V->qak->Hp->VK->Prop)(to:TE)(t:TA):TE:=λσ H Q=>to σ H λx H1=>ZY K T x H1/\t σ H1 λxs H2=>r x xs H2 Q
variable{o:Expr}{to:TE}{t:TA}{name:Str}{T id:String}{r:V->qak->Hp->VK->Prop}
def yM(pa:PlainAttrs T)(slot:Slot T name id)(PN:typeOf (.builtin id)=pure (.type "method_descriptor"))(hm:NC X id r)(ho:PE X o to)(dB:attributeBase o name 19 (eval o 19)=eval o 19:=by rfl)(dC:(apos.endLine==bF.line)=true:=by rfl):PE X (.Call (.Attribute o name apos) [] [] bF) (ZZ X.K T r to):=by intro ε s σ H Q I h;show wpAny_Call_method0_late dB dC (cz (ho ε s σ H _ I h) λv s1 #[x,H1,I1,r1,ty,q1]=>?_);let(h1,h2):=EU I1 r1 ty;calc#[T,id,pa,slot,PN,h1,h2,X5 9 (PySem.evalArgs_none (hm ε s1 σ H1 x [] v [] Q I1 r1 .nil q1))]
def EV(pa:PlainAttrs T)(slot:Slot T name id)(PN:typeOf (.builtin id)=pure (.type "method_descriptor"))(hm:NC X id r)(ho:PE X o to)(ha:PA X (e::es) t)(dB:attributeBase o name 19 (eval o 19)=eval o 19:=by rfl)(yN:((backTo bF (starEach (e::es) 19)).all (λx=>!x.1) && (backToKw bF (keywordEach [] 19)).all (λx=>x.1.isSome)
    && decide ((e::es).length+([]:List Keyword).length+(if ([]:List Keyword).isEmpty then 0 else 1)<30))=true:=by rfl)(dC:(apos.endLine==bF.line)=true:=by rfl)(hs:starEach (e::es) 19=(false,eval e 19)::starEach es 19:=by rfl)(jU:(backTo bF (starEach es 19)).any (·.1)=false:=by rfl) :
  PE X (.Call (.Attribute o name apos) (e::es) [] bF) (tBM X.K T r to t):=by
 intro ε s σ H Q I h;show wpAny_Call_method_late dB yN dC 9 (cz (ho ε s σ H _ I h) λv s1 #[x,H1,I1,r1,ty,q1]=>?_);let(h1,h2):=EU I1 r1 ty;show#[T,id,pa,slot,PN,h1,h2,?_];have hA:=ha bF ε s1 σ H1 _ I1 q1;rw[hs] at hA ⊢;calc X5 (by change (false || (backTo bF (starEach es 19)).any (·.1))=false;rw[jU]<;>rfl) (Calls.evalArgs_plain (cz hA λus s2 #[vs,H2,I2,r2,q2]=>hm ε s2 σ H2 x vs v us Q I2 r1 r2 q2))
end
def MtM(X:Cx)(id:String)(r:V->qak->Hp->VK->Prop):Prop :=
 ∀(ε:qaa)(s:Shared)(σ:St)(H:Hp)(x:V)(xs:qak)(v:Value)(us:qag)(Q:VK),Inv X ε σ H s->RelV x v->Vals xs us->r x xs H Q ->
  wpAny 22 X.A (call (.builtin id) (v::us)) (EP X ε σ Q) X.xe s
theorem Vals.one:∀{x:V}{us:qag},Vals [x] us->∃u,us=[u]/\RelV x u
 |_,_,.cons r .nil=>#[_,9,r]
theorem Vals.zero:∀{us:qag},Vals [] us->us=[]
 |_,.nil=>rfl
def Vals.dropLast(h:Vals xs us):Vals xs.dropLast us.dropLast:=by
 induction h with
 |nil=>calc .nil
 |cons r t ih=>
  cases t with
  |nil=>calc .nil
  |cons q t'=>calc .cons r ih
theorem Vals.rep{xs:qak}{us:qag}(h:Vals xs us):∀k:Nat,Vals (List.replicate k xs).flatten (List.replicate k us).flatten
 |0=>.nil
 |k+1=>Vals.append h (Vals.rep h k)
def yO(l:List α):l.eraseIdx (l.length-1)=l.dropLast:=by
 induction l with
 |nil=>rfl
 |cons a r ih=>
  cases r with
  |nil=>rfl
  |cons b r=>
   have e:(a::b::r).length-1=((b::r).length-1)+1:=by
    have h1:(a::b::r).length=r.length+2:=rfl;have h2:(b::r).length=r.length+1:=rfl
    lia
   rw[e,List.eraseIdx_cons_succ,ih]
   all_goals rfl
theorem foldl_rep(aN:qag):∀(k:Nat)(acc:qag),
  List.foldl (λx1 x2=>x1++x2) acc.toArray (List.replicate k aN.toArray)=(acc++(List.replicate k aN).flatten).toArray
 |0,acc=>by simp
 |k+1,acc=>by
   have e:acc.toArray++aN.toArray=(acc++aN).toArray:=by simp
   have e2:(acc++aN)++(List.replicate k aN).flatten=acc++(List.replicate (k+1) aN).flatten:=by rw[Jj,TM,vH]
   rw[<- e2,<- foldl_rep aN k (acc++aN),<- e,Jj,JF]
section
variable{l b:Addr}{ys zs:qak}
def Inv.UE{aN ni:qag}{f:Array Value->Array Value}(I:Inv X ε σ H s)(hH:H l\.lst xs)(e:s.heap.get? l=some {cls:=.type "list",data:=.seq aN.toArray n})(hf:f aN.toArray=ni.toArray)(hv:Vals ys ni)(hz:ys.length<=sizeLine) :
  Inv X ε σ (upd H l (.lst ys)) {s with heap:=s.heap.update l (Obj.mapSeq f),toks:=t'}:=by
 have q:=PySem.IsL.update e f;rw[hf] at q;show I.write (by rw[hH];calc trivial) 7 (λb' u hb hu=>(Heap.get?_update_other 50 (Obj.mapSeq f) (Ne.symm hb)).trans hu) #[_,q] ?_;calc#[hz,ni,_,hv,q]
def Inv.UG{aN:qag}(I:Inv X ε σ H s)(hv:Vals ys aN)(hz:ys.length<=sizeLine) :
  Inv X ε σ (upd H 8 (.lst ys)) {s with heap:=s.heap.push {cls:=.type "list",data:=.seq aN.toArray},toks:=t'} :=
 I.laid (λ_ _ q=>c9 _ q) (cv _) #[hz,aN,0,hv,gU _ 9]
def Inv.fresh(I:Inv X ε σ H s):H 8=none:=I.bC.fresh (cv _)
def Inv.PQ(I:Inv X ε σ H s)(hH:H l\.lst xs):34<=sizeLine/\∃(aN:qag)(n:Nat),Vals xs aN/\34=aN.length/\s.heap.get? l=some {cls:=.type "list",data:=.seq aN.toArray n}:=by let(z,aN,n,r,e):=I.bC l _ hH;calc#[z,aN,n,r,r.length,e]
theorem EW(h:n<=sizeLine):Builtin.List.listTooLong n=false:=ς ()
end
section
def AG:V->qak->Hp->VK->Prop:=λx vs H Q=>E3 λl xs y=>x=.ref l/\vs=[y]/\H l\.lst xs/\34<sizeLine/\Q .bK (upd H l (.lst (xs++[y])))
def aW:MtM X "list.append" AG:=by
 intro ε s σ H x vs v us Q I rx rv h;let(l,xs,y,rfl,rfl,hH,hz,q):=h;cases rx;let(u,rfl,ru):=rv.one;let(z,aN,n,r,hl,e):=I.PQ hH;show call_meets F.slot_list_append #[_,e,9] F.entry_list_append (F.args_list_append_2 _ _) (PySem.list_append l aN.toArray n u (by rw[iD];lia)) #[e,#[.bK,_,I.UE hH e 4 (r.append (.cons ru .nil)) ?_,9,q]];rw[lq,X6]
 lia
def UH:V->qak->Hp->VK->Prop:=λx vs H Q=>E3 λl xs y=>x=.ref l/\vs=[]/\H l\.lst xs/\xs[34-1]?\y/\Q y (upd H l (.lst xs.dropLast))
def EX:MtM X "list.pop" UH:=by
 intro ε s σ H x vs v us Q I rx rv h;let(l,xs,y,rfl,rfl,hH,hy,q):=h;cases rx;have Z0:=rv.zero;subst Z0;let(z,aN,n,r,hl,e):=I.PQ hH;let(u,hu,ru):=r.get hy;have hy':aN.toArray[aN.toArray.size-1]?\u:=by change aN.toArray[aN.length-1]?=some u;rw[<- D9,<- hl];exact hu
 show call_meets F.slot_list_pop #[_,e,9] F.entry_list_pop (F.args_list_pop_1 _) (MeetsSeq.list_pop_last l aN.toArray n u hy' (by rw[iD];lia)) #[e,#[y,_,I.UE hH e ?_ r.dropLast ?_,ru,q]];rw[iD,List.eraseIdxIfInBounds_toArray,yO];rw[yp]
 lia
def Z1:R2:=λx y H Q=>E3 λl k xs=>x=.ref l/\y=.int k/\H l\.lst xs/\-(2 ^ 63)<=k/\k<2 ^ 63/\34 * k.toNat<=sizeLine /\
 ∀p,H p=none->Q (.ref p) (upd H p (.lst (List.replicate k.toNat xs).flatten))
def len_rep(xs:List α)(k:Nat):(List.replicate k xs).flatten.length=k * 34:=by
 induction k with
 |zero=>simp
 |succ k ih=>rw[Jj,TM,lq,ih,Nat.succ_mul,Nat.add_comm]
def PR:eX X (binaryOp .Mult) Z1:=by
 intro ε s σ H x y v u Q I rx ry h;let(l,k,xs,rfl,rfl,hH,h1,h2,hz,q):=h;cases rx;let(t,rfl):=ry;let(z,aN,n,r,hl,e):=I.PQ hH;have hlen:aN.toArray.size * k.toNat<=sizeLine:=by rw[iD,<- hl];exact hz
 have Z2:¬ aN.toArray.size * k.toNat > (2 ^ 63-1) / 08:=by
  have:sizeLine<=(2 ^ 63-1) / 08:=by decide
  lia
 have Z3:¬ (!Builtin.List.listFitsIndex k)=true:=by rw[fitsIndex_both h1 h2];exact jk
 have UI:¬ Builtin.List.listTooLong (aN.toArray.size * k.toNat)=true:=by rw[EW hlen];exact jk
 have Z4:List.foldl (λx1 x2=>x1++x2) ([].toArray) (List.replicate (if aN.toArray.isEmpty=true then 0 else k.toNat) aN.toArray)=(List.replicate k.toNat aN).flatten.toArray:=by
  have f0:=λm=>by have:=foldl_rep aN m [];rw[List.nil_append] at this;exact this
  rw[f0];cases aN with
  |nil=>simp
  |cons a r'=>rw[θ 4]
 show wpAny_binaryOp_repeat_ref 5 #[_,e,9] (λs'=>aaF s' k t) noFill_list_mul F.fills_int_mul F.slot_int_rmul repeat_list F.slot_int_index.lookup
  (call_meets F.slot_int_rmul (aaF s k t) F.entry_int_rmul (F.args_int_rmul_2 _ _) (int___rmul___int_list k t l aN.toArray n)
   #[e,9,#[_,e,9],call_meets F.slot_list_mul #[_,e,9] F.entry_list_mul (F.args_list_mul_2 _ _) (AutoListH.list___mul___list_int_3 l aN.toArray n k t Z3 Z2 UI) #[e,?_]])
 rw[Z4];calc#[.ref _,_,I.UG (r.rep k.toNat) (by rw[len_rep,Nat.mul_comm];calc hz),9,q _ I.fresh]
end
end L2
namespace Yo
open PySem PySem.W PySem.Calls PyProof.Rows
def nt{P:Params}:∀(ns:qan)(vs:qag),WellAll P h vs (ns.map WData.int)->IntsAre vs ns:=by
 intro ns;induction ns with
 |nil=>intro vs w;cases w;calc .nil
 |cons n ns ih=>
  intro vs w;cases w with
  |cons a b=>cases a;calc .cons _ _ (ih _ b)
theorem Cw{l:OpenLaw}(hn:l.most\n){P:Params}{args:List WData}{vals:qag}(lQ:l.row.toRowW.claim.pre args=true)(UJ:WellAll P h vals args) :
  ∃a vs ns,vals=[Value.ref a]/\args=[WData.list (ns.map WData.int)]/\h.get? a=some {cls:=.type "list",data:=.seq vs.toArray}/\IntsAre vs ns/\ns.length<=n:=by
 have hsh:=(pre_splitW lQ).1;have hc:l.pre.holds [] {args:=args}=true:=(pre_splitW lQ).2;let(d,r,rfl,h1,h2):=hasAllW_cons hsh;obtain rfl:=hasAllW_nil h2;let(xs,rfl,h3):=hasW_list h1;let(ns,rfl):=items_int h3;have hlen:ns.length<=n:=by
  have h4:(WTm.not (.lt (.lit (.int n)) (.len (.arg 0)))).holds [] {args:=[.list (ns.map .int)]}=true:=by have h4:=(holds_andW hc).1;rw[hn] at h4;exact h4
  have h5:=condW_of h4 (w_not (w_lt w_lit (w_len_list (w_arg 9))))
  first
   | (rw[ο q'] at h5;calc absurd h5 5)
   | (simp at h5;lia)
 cases UJ with
 |cons w1 w2=>
   cases w2;cases w1 with
   |list ho yP=>calc#[_,_,ns,9,9,ho,nt ns _ yP,hlen]
def Cy(l:OpenLaw)(args:List WData):l.row.toRowW.claim.post args (.bool true) args=true :=
 postW_of
  (show WShape.has [] (.bool true) .bool=true by first|rfl|decide|simp[WShape.has,WShape.arms,WShape.armsAll])
  (show (WTm.eq .res (.lit (.bool true))).value [] {args:=args,res:=some (.bool true),after:=args}\.bool (true==true) from w_eq_bool (w_res 9) w_lit) 9
def vY{l:OpenLaw}{q:Program}{loose:ω}{XP:(qae)->Heap->Prop}{YP:World->Heap->Prop}{d:DefRec}(hn:l.most\n)(SY:d.params.defaults=[])(call:∀(w:World) (s₀ s₁:Shared) (mg mb:qae) (fa:Addr) (o:Obj) (pm cd doc:Value) (a:Addr) (vs:qag) (ns:qan),
    Ground q loose [] XP w s₀ mg mb s₁.heap->YP w s₁.heap ->
    s₁.heap.get? fa\o->o.data=.func (docDef d.name d.params d.body d.scope pm cd doc)->s₁.heap.CodeRec cd d.name->mg d.name\.ref fa ->
    s₁.heap.get? a=some {cls:=.type "list",data:=.seq vs.toArray}->IntsAre vs ns->ns.length<=n->s₁.gens=([].toArray) ->
    codeAny (model l.prog w) callerA (.call (.ref fa) #[[.ref a],[]]) (λr s'=>r=.ok (.ret (.bool true))/\OldK s₁.heap s'.heap/\s'.os=s₁.os/\AllBare s'.gens) s₁) :
  WalkO q loose XP YP l.row.toRowW d [] (λf vs=>PySem.call f vs):=by
 intro w s₀ s₁ mg mb G Y fa o pm cd doc dV kV ho hd gv hD UK hg args vals as lQ UL hrd UJ Z5;obtain rfl:=Dflts.none hD SY;obtain rfl:=Dflts.noKw hD;let(a,vs,ns,rfl,rfl,PU,hints,hlen):=Cw hn lQ UJ;show enter_call (aaq (call w s₀ s₁ mg mb fa o pm cd doc a vs ns G Y ho (fd_plain hd) gv UK PU hints hlen hg) λr s' hq=>?_);let(rfl,h2,h3,h4):=hq;calc#[.inl #[.bool true,.bool true,[],9,λ_=>rfl,.bool true,Cy l _,λ_=>#[List.Pairwise.nil,λ_ hm=>(nomatch hm)]],h2,h3,h4]
end Yo
namespace L2
open PySem PySem.Spec PyProof.Rows
theorem rD:∀{vs:qag}{ns:qan},IntsAre vs ns->Vals (ns.map V.int) vs
 |_,_,.nil=>.nil
 |_,_,.cons n t h=>.cons #[t,9] (rD h)
def UM(H:Hp):Prop:=∀b,H b=none\/E2 λo xs=>H b\.jS o (.lst xs)
theorem EY{mb:qae}{CX:Ee}{k:Nat}{fa:Addr}{sp:Sp}{s₁:Shared}{vs:qag}{ns:qan}(KX:K.In s₁.heap)(Z6:s₁.heap.Ns mainGlobals mg)(hb:s₁.heap.Ns builtinsNs mb)(hbb:∀x:Str,x≠"__name__"->mb x=bootBuiltins x)(Z7:s₁.heap.NoLimit)(hg:s₁.gens=([].toArray))(ha:s₁.heap.get? a=some {cls:=.type "list",data:=.seq vs.toArray})(hi:IntsAre vs ns)(hl:ns.length<=sizeLine)(hr:bA k callerA)(F:∀base:Heap,K.In base->base.Ns mainGlobals mg->dA P w K mg base CX k fa fd [x] sp)(UN:∀(s:Shared) (u:Value),BindsTo s fd #[[u],[]] [(x,u)])(SV:∀H:Hp,UM H->fQ K H a (ns.map V.int)->sp [.ref a] H (λv _=>v=.bl true) λ_ _ _=>False)(hCX:∀H e s',CX [] H s₁ (λ_ _ _=>False) e s'->False) :
  codeAny (model P w) callerA (.call (.ref fa) #[[.ref a],[]]) (λr s'=>r=.ok (.ret (.bool true))/\OldK s₁.heap s'.heap/\s'.os=s₁.os/\AllBare s'.gens) s₁:=by
 have rv:=rD hi;have Z8:=hi.length;have core:∀H:Hp,UM H->fQ K H a (ns.map V.int)->jl P w H s₁.heap->(∀b,H b≠none->b=a)->(H a≠none->K.lookup a=none) ->
   codeAny (model P w) callerA (.call (.ref fa) #[[.ref a],[]]) (λr s'=>r=.ok (.ret (.bool true))/\OldK s₁.heap s'.heap/\s'.os=s₁.os/\AllBare s'.gens) s₁:=by
  intro H hO hS bC hA hK;have AH:∀{b:Addr}{o:Obj},s₁.heap.get? b\o->H b=none->(vS s₁.heap H).get? b\o:=λe n=>Et e n;have Us:∀{b:Addr}{o:Obj}{es:Array DictEntry}{ep:Nat},s₁.heap.get? b\o->o.data=.dict es ep->H b=none:=λ{b o es ep} e d=>by
   cases q:H b with
   |none=>rfl
   |some u=>have e':=hA b (by rw[q];simp);subst e';rw[ha] at e;cases e;have d':=d;cases d'
  have Yp:∀{b:Addr}{m:qae},s₁.heap.Ns b m->(vS s₁.heap H).Ns b m:=λ{b m} #[o,es,ep,e,d,r]=>#[o,es,ep,AH e (Us e d),d,r];have hKb:=λb o e=>AH (KX b o e) (by
   cases q:H b with
   |none=>rfl
   |some u=>have e':=hA b (by rw[q];simp);subst e';rw[hK (by rw[q];simp)] at e;cases e)
  have hM:Mod K mg (vS s₁.heap H):=#[hKb,Yp Z6,#[mb,Yp hb,hbb],let #[mc,h1,h2]:=Z7;#[mc,Yp h1,h2]];have e0:yH P w K mg (vS s₁.heap H) callerA [] s₁ H:=#[9,hM,λb o e=>JI e,Nat.le_of_eq (Ce _ _),trivial,λb hb=>absurd (show b∈([]:zm) from hb) 4,bC,.of_eq hg];show aaq ((F _ hKb (Yp Z6)).run callerA [] s₁ H #[[.ref a],[]] [.ref a] [.ref a] _ _ hr e0 (UN s₁ (.ref a)) (.cons 9 .nil) (SV H hO hS)) λr s' h=>?_;cases r with
  |error e=>calc (hCX H e s' h).elim
  |ok fl=>
    cases fl with
    |ret u=>
      let(v,H',os,bare,un,Cz,r',q):=h;have q':=q;subst q';obtain rfl:=r';show#[9,OldK.of_keep λb o e=>?_,os,bare];cases q:H b with
      |none=>calc un.keep b o e q (by intro z;calc absurd (show b∈([]:zm) from z) 4) 4
      |some u=>
        rcases hO b with z|⟨ob,xs,z⟩
        rw[q] at z;cases z;have z2:=un.sO b ob _ z;let(e1,_):=bC b _ z;let(e2,_):=Cz b _ z2;rw[e] at e1;cases e1;calc e2
    |_=>exact False.elim h
 cases hk:K.lookup a with
 |some o=>have e:=KX a o hk;rw[ha] at e;cases e;show core (λ_=>none) (λ_=>.inl 9) (.inr #[_,vs.toArray,_,hk,9,9,9,by rw[iD,Z8];calc hl,by simpa using rv]) (λb u z=>by have z':=z;cases z') (λb z=>absurd 9 z) λz=>absurd 9 z
 |none=>show core (λb=>if b=a then some (.jS {cls:=.type "list",data:=.seq vs.toArray} (.lst (ns.map V.int))) else none) (λb=>?_) (.inl (.inr #[{cls:=.type "list",data:=.seq vs.toArray},ι 9])) (λb u z=>?_) (λb z=>?_) λ_=>hk;by_cases hb:b=a;calc .inr #[_,_,ι hb];calc .inl (θ hb);by_cases hb:b=a;have z':=(ι hb).symm.trans z;cases z';subst hb;calc#[ha,by rw[bL];calc hl,vs,_,rv,ha];have z':=(θ hb).symm.trans z;cases z';by_cases hb:b=a;calc hb;calc absurd (θ hb) z
def inClass(s:Stmt)(j:Nat):Stmt:=match s with
 |.ClassDef _ _ _ body _ _ _ _ _ _ _=>body.getD j (.Pass #[0,0,0,0])
 |_=>.Pass #[0,0,0,0]
def dY(s:Stmt):Arguments:=match s with
 |.FunctionDef _ a _ _ _ _ _ _ _ _=>a
 |_=>{posonlyargs:=[],args:=[],vararg:=none,kwonlyargs:=[],kw_defaults:=[],kwarg:=none,defaults:=[]}
def cw(s:Stmt):qaq:=match s with
 |.FunctionDef _ _ b _ _ _ _ _ _ _=>b
 |_=>[]
def aq(s:Stmt):Scope:=match s with
 |.FunctionDef _ _ _ _ _ _ sc _ _ _=>sc
 |_=>{kind:=.function,names:=[],isGenerator:=false,isCoroutine:=false}
abbrev i8:Ee:=λ_ _ _ _ _ _=>False
abbrev E0:XK:=λ_ _ _=>False
def jH:Passes i8 X E0:=λ_ _ _ _ _ _ _ h=>h.elim
structure Ef(K:qaf)(x qual:Str)(st:Stmt)(f:Addr)(fd:FuncData):Prop where
 ex:∃(oc:Value)(od:qar)(kV doc pm:Value)(an:qar)(bP ct:Value)(Ct:Array (Option Value)),
  fd=W.fnOf x qual (dY st) (cw st) (aq st) .none kV doc pm an bP ct/\K.lookup f=some #[oc,od,.func fd,Ct]/\W.codeIn K bP qual=true
 kp:W.keepIn K (.ref f)=true
section
def Ef.ok{st:Stmt}{N:ω}{k:Nat}{sp:Sp}(F:Ef K x qual st f fd)(S:aI N ps (aq st))(len:∀vs H Q E,sp vs H Q E->vs.length=ps.length)(gz:∀(bP:Value) (A:Around) (outer:List Env) (s:Shared) (H:Hp) (vs:qak) (Q:VK) (E:XK),bA k (A.deeper (envOfC qual (aq st) 8 f bP))->sp vs H Q E ->
    ∃t,jF (ke i8 P w K mg base N qual (aq st) f bP A outer s H E).Ed (cw st) t/\t {nx:=λ_ H'=>Q .bK H',rt:=Q} (start N vs) H):dA P w K mg base i8 (k+1) f fd ps sp:=by
 let(oc,od,kV,doc,pm,an,bP,ct,Ct,rfl,lk,gv):=F.ex;show EM lk gv S len λA outer s H vs Q E hr SV=>?_;let(t,h,q):=gz bP A outer s H vs Q E hr SV;calc#[t,h.Ed,q]
def Ef.binds{st:Stmt}(F:Ef K x qual st f fd)(h:∀(kV doc pm:Value) (an:qar) (bP ct:Value) (us:qag),us.length=ps.length->bindArgs (W.fnOf x qual (dY st) (cw st) (aq st) .none kV doc pm an bP ct) #[us,[]]=pure (ps.zip us)):Binds K fd ps []:=by let(oc,od,kV,doc,pm,an,bP,ct,Ct,rfl,lk,gv):=F.ex;calc .all (h kV doc pm an bP ct)
def sY{st:Stmt}{oc:Value}{od an:qar}{Ct:Array (Option Value)}{kV doc pm bP ct:Value}(l:K.lookup f=some #[oc,od,.func (W.fnOf x qual (dY st) (cw st) (aq st) .none kV doc pm an bP ct),Ct])(c:W.codeIn K bP qual=true)(k:W.keepIn K (.ref f)=true):Ef K x qual st f (W.fnOf x qual (dY st) (cw st) (aq st) .none kV doc pm an bP ct):=#[#[oc,od,kV,doc,pm,an,bP,ct,Ct,9,l,c],k]
end
def CA(h:n<=1000):n<sizeLine:=Yc h 5
def UO{A:Prop}(h:B):if false=true then A else B:=h
def UP{A:Prop}(h:A):if true=true then A else B:=h
def ny{c A:Prop}[Decidable c](h1:c->A)(h2:¬ c->B):if c then A else B:=by by_cases h:c;rw[ι h];calc h1 h;rw[θ h];calc h2 h
def aP(H H':Hp):Prop:=∀b o,H b\o->H' b\o
def aP.refl(H:Hp):aP H H:=λ_ _ h=>h
def aP.trans{H1 H2:Hp}(a:aP H H1)(b:aP H1 H2):aP H H2:=λc o h=>b c o (a c o h)
section
theorem gZ{env:Env}{f:Str×NameKind->List (Str×Addr)->Sem (ForInStep (List (Str×Addr)))}:∀(l:List (Str×NameKind))(cs:List (Str×Addr)),
  (∀p∈l,∀r,(p.2=.free->∃c,env.cells.lookup p.1\c/\f p r=pure (.yield ((p.1,c)::r)))/\(p.2≠.free->f p r=pure (.yield r))) ->
  ∃cl,forIn l cs f=pure cl/\(∀y c,cl.lookup y\c->cs.lookup y\c\/env.cells.lookup y\c)/\(∀y,(cs.lookup y).isSome=true->(cl.lookup y).isSome=true) /\
   ∀p∈l,p.2=.free->(cl.lookup p.1).isSome=true
 |[],cs,_=>#[cs,by rw[List.forIn_nil],λ_ _ h=>.inl h,λ_ h=>h,λ_ h=>nomatch h]
 |p::l,cs,hf=>by
   have hr:=λq hq r=>hf q (gT _ hq) r;by_cases hp:p.2=.free;let(c,hc,e):=(hf p fM cs).1 hp;let(cl,h1,h2,h3,h4):=gZ l ((p.1,c)::cs) hr;show#[cl,?_,λy d h=>?_,λy h=>h3 y ?_,λq hq Yq=>?_];rw[List.forIn_cons,e];calc h1;rcases h2 y d h with z|z
   rw[JC] at z;cases hy:y==p.1 with
   |true=>rw[hy] at z;have ey:=eq_of_beq hy;cases z;rw[ey];calc .inr hc
   |false=>rw[hy] at z;exact .inl z
   calc .inr z;rw[JC];cases hy:y==p.1 with
   |true=>rfl
   |false=>exact h
   rcases cY.mp hq with z|z
   subst z;show h3 _ ?_;rw[JC,beq_self_eq_true];rfl;calc h4 q z Yq;have e:=(hf p fM cs).2 hp;let(cl,h1,h2,h3,h4):=gZ l cs hr;show#[cl,?_,h2,h3,λq hq Yq=>?_];rw[List.forIn_cons,e];calc h1;rcases cY.mp hq with z|z
   subst z;calc absurd Yq hp;calc h4 q z Yq
def ip{scope:Scope}{env:Env}(h:∀p∈scope.names,p.2=.free->∃c,env.cells.lookup p.1\c) :
  ∃cl,closureFor scope env=pure cl/\(∀y c,cl.lookup y\c->env.cells.lookup y\c)/\∀p∈scope.names,p.2=.free->∃c,cl.lookup p.1\c:=by
 have key:∃cl,closureFor scope env=pure cl/\(∀y c,cl.lookup y\c->([]:List (Str×Addr)).lookup y\c\/env.cells.lookup y\c)/\(∀y,(([]:List (Str×Addr)).lookup y).isSome=true->(cl.lookup y).isSome=true) /\
   ∀p∈scope.names,p.2=.free->(cl.lookup p.1).isSome=true:=by
  have go:=@gZ env (λx r=>if x.2==NameKind.free then (do let c <- cellOf env x.1;pure (ForInStep.yield ((x.1,c)::r))) else pure (ForInStep.yield r)) scope.names [] ?_;let(cl,h1,h2):=go;show#[cl,?_,h2]
  first
   | (rw[h1];rfl)
   | (rw[h1];rfl)
   |exact Ω (· >>= pure) h1
  intro p hp r;show#[λhf=>?_,λhf=>?_];let(c,hc):=h p hp hf;show#[c,hc,?_];have e1:(p.2==NameKind.free)=true:=by rw[hf];rfl
  have e2:cellOf env p.1=pure c:=by unfold cellOf;rw[hc]
  rw[e1,ι 9,e2];rfl;have e1:(p.2==NameKind.free)=false:=by simpa using hf
  rw[e1,θ 5]
 let(cl,h1,h2,h3,h4):=key;show#[cl,h1,λy c e=>?_,λp hp hf=>Option.isSome_iff_exists.mp (h4 p hp hf)];rcases h2 y c e with z|z
 rw[List.lookup_nil] at z;cases z;calc z
def kh{scope:Scope}{env:Env}(y:Str):(relabel scope env).names.lookup y =
  (scope.names.lookup y).map λk=>if (k==.free && env.scope.kind==.function && env.kindOf y==some .cell)=true then .cell else k:=by
 have key:∀l:List (Str×NameKind),(l.map λ(n,k)=>if (k==NameKind.free && env.scope.kind==.function && env.kindOf n==some .cell) then (n,NameKind.cell) else (n,k)).lookup y =
   (l.lookup y).map λk=>if (k==.free && env.scope.kind==.function && env.kindOf y==some .cell)=true then .cell else k:=by
  intro l;induction l with
  |nil=>rfl
  |cons p l ih=>
    let(n,k):=p;change List.lookup y ((if (k==NameKind.free && env.scope.kind==.function && env.kindOf n==some .cell)=true then (n,NameKind.cell) else (n,k))::_)=_;by_cases hc:(k==NameKind.free && env.scope.kind==.function && env.kindOf n==some .cell)=true;rw[ι hc,JC,JC];cases hy:y==n with
    |true=>have ey:=eq_of_beq hy;subst ey;change some NameKind.cell\(if _ then _ else _);rw[ι hc]
    |false=>exact ih
    rw[θ hc,JC,JC];cases hy:y==n with
    |true=>have ey:=eq_of_beq hy;subst ey;change some k\(if _ then _ else _);rw[θ hc]
    |false=>exact ih
 calc key scope.names
end
def jV(N ts:ω)(out sc:Scope):Bool :=
 (sc.kind==.function) && sc.names.all (λp=>(p.2 != .cell) && (p.2 != .free || out.names.lookup p.1==some .cell || out.names.lookup p.1==some .free) && (p.2 != .local || sc.names.lookup p.1==some .local))
  && N.all (λy=>sc.names.lookup y != some .local) && ts.all (λy=>sc.names.lookup y==some .local) && decide ((N++ts).Nodup)
structure oz(N ts:ω)(out sc:Scope):Prop where
 kind:sc.kind=.function
 EZ:∀p∈sc.names,p.2≠.cell
 fr:∀p∈sc.names,p.2=.free->out.names.lookup p.1\.cell\/out.names.lookup p.1\.free
 names:∀p∈sc.names,p.2=.local->sc.names.lookup p.1\.local
 own:∀y∈N,sc.names.lookup y≠some .local
 tgt:∀y∈ts,sc.names.lookup y\.local
 nd:(N++ts).Nodup
def rE{N ts:ω}{out:Scope}(h:jV N ts out sc=true):oz N ts out sc:=by unfold jV at h;rw[iE,iE,iE,iE] at h;let((((h1,h2),h3),h4),h5):=h;rw[JD] at h2 h3 h4;show#[eq_of_beq h1,λp hp=>?_,λp hp hf=>?_,λp hp hl=>?_,λy hy=>?_,λy hy=>?_,ψ h5];have:=h2 p hp;rw[iE,iE] at this;simpa using this.1.1;have:=h2 p hp;rw[iE,iE] at this;have q:=this.1.2;rw[hf] at q;simpa using q;have:=h2 p hp;rw[iE,iE] at this;have q:=this.2;rw[hl] at q;simpa using q;simpa using h3 y hy;simpa using h4 y hy
def bD(X:Cx)(ts:ω)(sc:Scope)(cl:List (Str×Addr))(C:Addr)(fp:zm)(s:Shared)(H:Hp):Cx where
 prog:=39
 w:=X.w
 K:=X.K
 mg:=X.mg
 base:=X.base
 A:=X.A
 N:=X.N++ts
 s₀:=s
 H₀:=H
 env:=compEnvC sc cl C 19
 outer:=X.stack
 stack:=X.stack
 ex:=fp
 fn:=λ_=>false
 calm:=X.calm
 pn:=[]
 xe:=λ_ _=>False
section
variable{ts:ω}{cl:List (Str×Addr)}{D:Addr}
def rF(hS:oz X.N ts 41 sc)(h:m8 (relabel sc 19) y):sc.names.lookup y\.local\/(sc.names.lookup y\.free/\((relabel sc 19).names.lookup y\.cell\/(relabel sc 19).names.lookup y\.free)):=by
 have e:=kh (scope:=sc) (env:=19) y;cases hk:sc.names.lookup y with
 |none=>rw[hk] at e;have e':=e;obtain h|h|h:=h<;>rw[e'] at h<;>cases h
 |some k=>
  have hm:=Nl hk;rw[hk] at e;cases k with
  |«local»=>calc .inl 9
  |cell=>calc absurd 9 (hS.EZ _ hm)
  |free=>show .inr #[9,?_];rw[e,TR];by_cases hc:(NameKind.free==.free && X.env.scope.kind==.function && X.env.kindOf y==some .cell)=true;rw[ι hc];calc .inl 9;rw[θ hc];calc .inr 9
  |globalExplicit=>have e':=e;obtain h|h|h:=h<;>rw[e'] at h<;>cases h
  |globalImplicit=>have e':=e;obtain h|h|h:=h<;>rw[e'] at h<;>cases h
def AI(I:Inv X ε σ H s)(hf:∀b∈fp,lK X ε H b):∀b∈fp,b∉Ec X.stack:=λb hb z=>by
 let(_,f1,f2,_):=hf b hb;rcases cY.mp (I.yt b z) with e|e
 calc f1 e;calc f2 e
theorem Kq(I:Inv X ε σ H s)(hf:∀b∈fp,lK X ε H b)(UQ:∀b∈fp,∃o,s.heap.get? b\o)(hS:oz X.N ts 41 sc)(c1:∀y c,cl.lookup y\c->X.env.cells.lookup y\c)(c2:∀p∈sc.names,p.2=.free->∃c,cl.lookup p.1\c)(hC:8<=C)(hD:8<=D)(Yr:D≠C){h1:Heap}{m:qae}{t:Nat}(k:∀b o,s.heap.get? b\o->h1.get? b\o)(hn:h1.Ns C m)(hd:h1.get? D=some {cls:=.type "list",data:=.seq ([]:qag).toArray n}) :
  Inv 35 [] (σ++ts.map λ_=>none) (upd H D (.lst [])) {s with heap:=h1,toks:=t}:=by
 have sz:=I.sz;have Z9:∀b∈fp,b<8:=λb hb=>by let(o,e):=UQ b hb;exact dz e
 have JM:∀y c,cl.lookup y\c->c<8:=λy c e=>by let(v,q):=I.cell y c (c1 y c e);exact q.lt
 have ok:(bD X ts sc cl C fp s H).Ok:=by
  show#[I.ok.mod,hS.kind,I.ok.glob,I.ok.blt,hC,λx y c e1 e2=>I.ok.inj x y c (c1 x c e1) (c1 y c e2),λx hx=>?_,λx c hx=>absurd hx (by simp[bD]),I.ok.hd,I.ok.frames,.inl 9,λb hb=>?_,λb o e=>I.bs b o e,
   jR I.ok.JJ sz,λb o e hb=>?_,AI I hf,I.stack,λb hb=>I.Av b hb]
  have hv:m8 (relabel sc 19) x:=by
   obtain hx|hx:=hx
   calc .inr (.inl hx);exact .inr (.inr hx)
  rcases rF hS hv with z|⟨z,_⟩
  have e:=kh (scope:=sc) (env:=19) x;rw[z] at e;have e':=e;have S0:(relabel sc 19).names.lookup x\.cell\/(relabel sc 19).names.lookup x\.free:=hx;rw[e'] at S0;obtain q|q:=S0<;>cases q
  calc c2 _ (Nl z) 9;calc#[λe=>absurd (qt (Z9 b hb) hC) (by have e':=e;rw[e'];calc B' _),λx c e z=>(hf b hb).2.2.2.2.1 x c (c1 x c e) z];rcases (hf b hb).2.2.2.1 with z|z
  calc I.ok.Eu b o e z;exact absurd (qt (dz e) (jR I.ok.JJ z)) (B' _)
 have hnD:=I.bC.fresh hD;show#[ok,9,I.bare,Un.laid k hD hnD,#[m,hn,λi x v e1 e2 e3=>?_],λx c e=>?_,?_,λx c e=>?_,λp hp=>absurd (show p∈([]:qaa) from hp) 4,I.bC.laid k hD #[e_ _,[],n,.nil,hd],?_];have hi:i<σ.length:=by
  by_cases hi:i<σ.length;calc hi;rw[sM (),d4] at e2;cases q:ts[i-σ.length]? with
  |none=>rw[q] at e2;cases e2
  |some a=>rw[q] at e2;cases e2
 have CB:σ[i]?\some v:=by rw[nL hi] at e2;exact e2
 have S6:X.N[i]?\x:=by have UR:(X.N++ts)[i]?\x:=e1;rw[nL (by rw[<- I.len];calc hi)] at UR;exact UR
 rcases rF hS e3 with z|⟨z,zr⟩
 calc absurd z (hS.own x (eM S6));have hm:=Nl z;have ho:=hS.fr _ hm 9;let(m0,_,hl):=I.loc;let(u,r,l):=hl i x v S6 CB (.inr ho);let(c',og):=c2 _ hm 9;obtain⟨l,_⟩|⟨_,c,hc,z2⟩:=l
 have l':X.env.scope.names.lookup x\.local:=l;rw[l'] at ho;obtain q|q:=ho<;>cases q
 have ec:=c1 x c' og;rw[hc] at ec;cases ec;calc#[u,r,.inr #[zr,_,og,z2.keeps k]];let(v,z):=I.cell x c (c1 x c e);calc#[v,z.keeps k];change upd H D (.lst []) C=none;rw[az (Ne.symm Yr)];calc I.bC.fresh hC;rw[az (gf (qt (JM x c e) hD))];calc I.iF x c (c1 x c e);change (σ++ts.map λ_=>none).length=(X.N++ts).length;rw[lq,lq,bL,I.len]
def vZ(I:Inv X ε σ H s)(hf:∀b∈fp,lK X ε H b){Ax:qaa}{σ':St}(J:Inv 35 Ax σ' H' s'):Inv X ε σ H' s' :=
 I.T5 J.os J.base J.bC J.bare λb hb=>by let(_,f1,_,f3,f4,f5):=hf b hb;calc#[f3,f1,f4,f5]
end
section
variable{R:Result->Shared->Prop}
theorem jo{elt target:Expr}{ifs:qap}{scope:Scope}{pos:Pos}{it acc:Value}{env:Env}(I:Nat->Shared->Prop)(turn:∀n s,I n s->wpAny 14 A (pyNext it) (λr s₁=>match r with
    |none=>R (.ok .next) s₁
    |some v=>wpAny 14 A (letOwnedTupleGo target it v) (λ_ s₁'=>wpAny 14 A (assign target env v) (λ_ s₂=>
       wpAny 14 A (forIn ifs true λc r=>if r=true then do let ok <- isTrue c env (eval c env);pure (ForInStep.yield ok) else pure (ForInStep.yield r)) (λok s₃=>
        if ok=true then wpAny 14 A (eval elt env) (λx s₄=>
         wpAny 14 A (call (.builtin "list.append") [acc,x]) (λ_ s₅=>∃m,m<n/\I m s₅) (notedBy 14 A env λe s'=>R (.error e) s') s₄) (notedBy 14 A env λe s'=>R (.error e) s') s₃
        else ∃m,m<n/\I m s₃) (notedBy 14 A env λe s'=>R (.error e) s') s₂) (notedBy 14 A env λe s'=>R (.error e) s') s₁')
       (notedBy 14 A env λe s'=>R (.error e) s') s₁) (notedBy 14 A env λe s'=>R (.error e) s') s)(n:Nat)(h:I n s):codeAny 14 A (.compLoop (.ListComp elt [#[target,iter,ifs,0]] scope pos) 0 it acc env) R s:=by
 show codeAny_loop 9 I (λn s hI=>wpAny_noted (ζ (wpAny_standAt (ζ (Ψ (turn n s hI) (λr s₁ h₁=>?_) λ_ _ h'=>h'))))) n h;cases r with
 |none=>calc η h₁
 |some v=>
   show ζ (Ψ h₁ (λ_ s₁' h₁'=>ζ (Ψ h₁' (λ_ s₂ h₂=>ζ (Ψ h₂ (λok s₃ h₃=>?_) λ_ _ h'=>h')) λ_ _ h'=>h')) λ_ _ h'=>h');cases ok with
   |false=>calc η #[9,h₃]
   |true=>calc ζ (ζ (Ψ h₃ (λx s₄ h₄=>ζ (Ψ h₄ (λ_ s₅ h₅=>η (η #[9,h₅])) λ_ _ h'=>h')) λ_ _ h'=>h'))
end
def E1(X:Cx)(ifs:qap)(t:TT):Prop :=
 ∀(ε:qaa)(s:Shared)(σ:St)(H:Hp)(Q:Bool->Hp->Prop),Inv X ε σ H s->t σ H Q ->
  wpAny 22 X.A (forIn ifs true λc r=>if r=true then do let ok <- isTrue c X.env (eval c X.env);pure (ForInStep.yield ok) else pure (ForInStep.yield r)) (TP X ε σ Q) X.xe s
def Z_:TT:=λ_ H Q=>Q true H
def Kr:E1 X [] Z_:=λ_ _ _ H _ I h=>wpAny_tests_nil #[H,I,h]
def Ks{t:TT}(h:PT X c t):E1 X [c] t:=λε s σ H Q I hw=>wpAny_tests_one (h ε s σ H Q I hw)
def E_(J:It)(g:TG)(tt:TT)(te:TE)(n:Nat)(σ:St)(D:Addr)(Q:Hp->Prop)(H1:Hp):Prop :=
 ∃W:Nat->Nat->qak->Hp->Prop,(∃m,W 0 m [] (upd H1 D (.lst [])))/\∀i m acc H2,W i m acc H2->H2 D\.lst acc /\
  ((J.stop i H2/\Q H2)\/(J.go i H2/\acc.length<sizeLine/\∀x H3,J.SR i H2 x H3->g x (σ++List.replicate n none) H3 λσ4 H4=>(σ4.length=σ.length+n/\∀(i:Nat) v,σ[i]?\some v->σ4[i]?\some v) /\
   tt σ4 H4 λb H5=>if b=true then te σ4 H5 λy H6=>H6 D\.lst acc/\∃m',m'<m/\W (i+1) m' (acc++[y]) (upd H6 D (.lst (acc++[y]))) else ∃m',m'<m/\W (i+1) m' acc H5))
section
variable{ts:ω}{cl:List (Str×Addr)}
theorem CC{Y:Cx}{pl:qaa}{σ4:St}(I:Inv Y pl σ4 H' s')(hl:σ4.length=σ.length+n)(hs:∀(i:Nat) v,σ[i]?\some v->σ4[i]?\some v) :
  Inv Y pl (σ++List.replicate n none) H' s':=by
 show I.weak (by rw[lq,OI,hl]) λi v e=>?_;by_cases hi:i<σ.length;rw[nL hi] at e;calc hs i v e;rw[sM (),Er] at e;split at e<;>cases e
def v5{elt tg:Expr}{ifs:qap}{pos:Pos}{tn:Nat->Heap->Prop}{J:It}{g:TG}{tt:TT}{Q:Hp->Prop}{RR:Value->Addr->Result->Shared->Prop}(hc:X.calm=true)(I:Inv X ε σ H s)(T:Turn 39 X.w X.K tg J fp it tn)(st:tn 0 50)(hf:∀b∈fp,lK X ε H b)(hS:oz X.N ts 41 sc)(c1:∀y c,cl.lookup y\c->X.env.cells.lookup y\c)(c2:∀p∈sc.names,p.2=.free->∃c,cl.lookup p.1\c)(hg:∀C,PG 35 tg g)(ht:∀C,E1 35 ifs tt)(he:∀C,PE 35 elt te)(hw:E_ J g tt te 27 σ 8 Q H)(fin:∀(C:Addr) (H':Hp) (s':Shared) (σ':St),8<=C->Inv 35 [] σ' H' s'->Q H'->RR 32 C (.ok .next) s') :
  wpAny 22 X.A (newList []) (λacc s₃=>wpAny 22 X.A (newFunctionEnv sc X.env.globals cl [] X.env.qual none .none (some 19)) (λUS s₄=>
   codeAny 22 X.A (.compStart 48 0 (.ref it) acc {US with scope:=relabel sc 19}) (RR acc US.locals) s₄) E s₃) E s:=by
 let(W,(m0,w0),turn):=hw;have acJ:=T.obj 0 _ st;have UQ:∀b∈fp,∃o,s.heap.get? b\o:=λb hb=>let #[o,e,_]:=acJ b hb;#[o,e];show Δ (wpAny_newFunctionEnv hS.EZ (by intro y hy;simp at hy) (λh₁ UT PV=>?_) hS.kind);generalize hH2:s.heap.push {cls:=.type "list",dict:=none,data:=.seq ([]:qag).toArray}=H2 at UT PV ⊢;have hC:H2.objs.size=8+1:=by rw[<- hH2,B_]
 have Yr:8≠H2.objs.size:=by rw[hC];exact gf (Ar _)
 have UU:8<=H2.objs.size:=by rw[hC];exact Jo _
 have below:∀b,b<8->b≠H2.objs.size/\b≠8:=λb hb=>#[by rw[hC];calc gf (Jk hb),gf hb];have old:=λb o e=>PV.extBut b o (below b (dz e)).1 (c9 _ (hH2▸c9 _ e));have v7:=PV.extBut _ _ Yr (c9 _ (hH2▸gU _ 9));have UW:=T.keep _ _ _ st λb hb o e=>old b o e;have vK:∀{H':Hp},(∀b∈fp,H' b=none)->∀b∈fp,lK (bD X ts sc cl H2.objs.size fp s H) [] H' b:=λ{H'} hn b hb=>by let(o,e):=UQ b hb;show#[hn b hb,λz=>?_,AI I hf b hb,.inl hb,λx c e z=>(hf b hb).2.2.2.2.1 x c (c1 x c e) z,λp hp=>absurd (show p∈([]:qaa) from hp) 4];have z':=z;exact (below b (dz e)).1 z'
 have fp0:∀b∈fp,(upd H 8 (.lst [])) b=none:=λb hb=>by let(o,e):=UQ b hb;rw[az (gf (dz e))];exact (hf b hb).1
 have eN:(ts.map λ_=>(none:Option V))=List.replicate 27 none:=List.map_const';have loop:∀s₃:Shared,s₃={s with heap:=h₁,toks:=s.toks+([]:List (Str×Value)).length} ->
   codeAny 22 X.A (.compLoop 48 0 (.ref it) 32 (compEnvC sc cl H2.objs.size 19)) (RR 32 H2.objs.size) s₃:=by
  rintro s₃ rfl;have J0:=Kq (t:=s.toks+([]:List (Str×Value)).length) I hf UQ hS c1 c2 UU (cv _) Yr old UT v7;rw[eN] at J0;show jo (λn s'=>∃i acc H',Inv (bD X ts sc cl H2.objs.size fp s H) [] (σ++List.replicate 27 none) H' s'/\tn i s'.heap/\(∀b∈fp,H' b=none)/\W i n acc H') ?_ m0 #[0,[],_,J0,UW,fp0,w0];rintro n s3 ⟨i,acc,H3,J3,Ph,Ud,w3⟩;let(hD3,alt):=turn i n acc H3 w3;obtain⟨stop,q⟩|⟨go,hz,step⟩:=alt
  . show cz (T.done (bD X ts sc cl H2.objs.size fp s H) 9 9 9 hc i [] s3 _ H3 _ J3 (vK Ud) Ph stop) λr s4 #[hr,J4]=>?_;subst hr;exact fin _ H3 s4 _ UU J4 q
  show cz (T.item (bD X ts sc cl H2.objs.size fp s H) 9 9 9 hc i [] s3 _ H3 _ J3 (vK Ud) Ph go) λr s4 #[u,hr,h4]=>?_;subst hr;show cz h4 λ_ s5 #[x,H5,J5,r5,y5,Ny,ZP]=>?_;have J5':=J5.pinned (vK ZP) (T.obj _ _ Ny);have again:∀{σ7:St}{H7:Hp}{s7:Shared},Inv (bD X ts sc cl H2.objs.size fp s H) ([]++om fp s5.heap) σ7 H7 s7->(σ7.length=σ.length+27/\∀i v,σ[i]?\some v->σ7[i]?\some v)->∀Fb m',W (i+1) m' Fb H7->m'<n ->
    ∃m,m<n/\∃i acc H',Inv (bD X ts sc cl H2.objs.size fp s H) [] (σ++List.replicate 27 none) H' s7/\tn i s7.heap/\(∀b∈fp,H' b=none)/\W i m acc H':=λ{σ7 H7 s7} I7 hσ Fb m' w7 hm=>by
   show#[m',hm,i+1,Fb,H7,CC I7.kc hσ.1 hσ.2,T.keep _ _ _ Ny λb hb o e=>(I7.pin (b,o) (iC _ (iC _ (gW hb e)))).1,λb hb=>?_,w7];let(o,e,d):=T.obj _ _ Ny b hb;exact (I7.pin (b,o) (iC _ (iC _ (gW hb e)))).2.1
  show Ψ (hg H2.objs.size _ s5 _ H5 x u _ J5' r5 (step x H5 y5)) (λ_ s6 #[σ6,H6,J6,hσ,q6]=>Ψ (ht H2.objs.size _ s6 σ6 H6 _ J6 q6) (λb s7 #[H7,J7,q7]=>?_) λ_ _ z=>False.elim z) λ_ _ z=>False.elim z;cases b with
  |false=>let(m',hm,w7):=q7;calc again J7 hσ acc m' w7 hm
  |true=>show Ψ (he H2.objs.size _ s7 σ6 H7 _ J7 q7) (λy s8 #[yv,H8,J8,ry,hD8,m',hm,w8]=>Ψ (aW (X:=bD X ts sc cl H2.objs.size fp s H) _ s8 σ6 H8 32 [yv] 32 [y] (λv H9=>v=.bK/\H9=upd H8 8 (.lst (acc++[yv]))) J8 9 (.cons ry .nil) #[_,acc,yv,9,9,hD8,hz,9,9]) (λv9 s9 #[v,H9,J9,_,_,e9]=>?_) λ_ _ z=>False.elim z) λ_ _ z=>False.elim z;subst e9;exact again J9 hσ (acc++[yv]) m' w8 hm
 calc codeAny_compStart_list (loop _ 9) (T.self _ 0 _ _ _ UW (loop _ 9))
def Fc(n:Nat)(wi:TI)(g:TG)(tt:TT)(te:TE):TE:=λσ H Q=>wi σ H λJ H1=>∀D,H1 D=none->E_ J g tt te n σ D (Q (.ref D)) H1
def v8(I:Inv X ε σ H s)(hS:oz X.N ts 41 sc):∀p∈sc.names,p.2=.free->∃c,X.env.cells.lookup p.1\c:=λp hp hf=>by
 rcases hS.fr p hp hf with z|z
 calc I.ok.has p.1 (.inl z);calc I.ok.has p.1 (.inr z)
def Kt{elt tg:Expr}{ifs:qap}{pos:Pos}{wi:TI}{g:TG}{tt:TT}(hc:X.calm=true)(hS:jV X.N ts 41 sc=true)(hi:PI X tg iter wi)(hg:∀cl C fp s H,PG 35 tg g)(ht:∀cl C fp s H,E1 35 ifs tt)(he:∀cl C fp s H,PE 35 elt te)(hs:∀x,foldedSetIterable iter 19 x=pure x:=by intro _;rfl):PE X 48 (Fc 27 wi g tt te):=by intro ε s σ H Q I h;have S:=rE hS;let(cl,vL,c1,c2):=ip (v8 I S);show wpAny_comprehension_free 9 hs vL S.kind S.names (cz (hi ε s σ H _ I h) λv s1 h1=>cz h1 λYk s2 h2=>?_);let(it,fp,tn,J,H2,e,I2,T,sR,f2,q2):=h2;subst e;show v5 hc I2 T sR f2 S c1 c2 (λC=>hg cl C fp s2 H2) (λC=>ht cl C fp s2 H2) (λC=>he cl C fp s2 H2) (q2 _ (I2.bC.fresh (cv _))) ?_;intro C H' s' σ' hC J' q';let(m,hn,_):=J'.loc;show#[m,hn,λh' sb=>?_];have I':=vZ I2 f2 J';have fk:=I2.nq hC J'.free;let(f0,f1,_,f3,f4,f5):=fk;calc#[.ref _,H',I'.turned (λb o hb e=>(sb.2 b hb).trans e) f0 f1 f3 f4 f5,9,q']
def Ku{py:Pos}{v_:Pos}{elt tg:Expr}{ifs:qap}{pos:Pos}{wi:TI}{g:TG}{tt:TT}(hN:X.N.Nodup)(hy:X.N[i]?\y)(hx:Loc 41 y)(hc:X.calm=true)(hS:jV X.N ts 41 sc=true)(hi:PI X tg iter wi)(hg:∀cl C fp s H,PG 35 tg g)(ht:∀cl C fp s H,E1 35 ifs tt)(he:∀cl C fp s H,PE 35 elt te)(UX:swapsWith 48 (some (.Name y py)) v_.line 19=pure true:=by rfl)(hs:∀x,foldedSetIterable iter 19 x=pure x:=by intro _;rfl)(hf:X.fn y=true\/X.env.scope.names.lookup y\.local:=by first|calc .inl rfl|calc .inr rfl|assumption) :
  PS X (.Assign [.Name y py] 48 v_) (JW (Fc 27 wi g tt te) (oj i)):=by
 intro ε s σ H D I h;have S:=rE hS;let(cl,vL,c1,c2):=ip (v8 I S);rw[exec_Assign_Name_used _ _ _ _ UX];show ζ (wpAny_standAt (ζ (ζ (Ψ (wpAny_comprehension_free 9 hs vL S.kind S.names (cz (hi ε s σ H _ I h) λv s1 h1=>cz h1 λYk s2 h2=>?_)) (λ_ s' hq=>η (η hq)) λ_ _ e=>e))));let(it,fp,tn,J,H2,e,I2,T,sR,f2,q2):=h2;subst e;show v5 hc I2 T sR f2 S c1 c2 (λC=>hg cl C fp s2 H2) (λC=>ht cl C fp s2 H2) (λC=>he cl C fp s2 H2) (q2 _ (I2.bC.fresh (cv _))) ?_;intro C H' s' σ' hC J' q';let(m,hn,_):=J'.loc;have I':=vZ I2 f2 J';have fk:=I2.nq hC J'.free;let(f0,f1,_,f3,f4,f5):=fk;show wpAny_assign_Name (rm (v:=.ref s2.heap.objs.size) I' hN hy hx 9 (λs3 I3 #[a,sb,ha]=>?_) hf);have hCa:C≠a:=by
  obtain z|z:=ha
  rw[z];calc f1;exact λe=>f4 y a z e.symm
 calc#[m,hn.sameBut sb hCa,λh' Ys=>#[_,H',I3.turned (λb o hb e=>(Ys.2 b hb).trans e) f0 f1 f3 f4 f5,q']]
end
def Yt(x:Str):It:=#[λi _=>i<x.cps.size,λi H v H'=>H'=H/\∃c,x.cps[i]?\c/\v=.str #[([c].toArray)],λi _=>x.cps.size<=i]
def c_(x:Str):(strIterType x="str_ascii_iterator")\/(strIterType x="str_iterator"):=by unfold strIterType;cases x.cps.all (·<128);calc .inr 9;calc .inl 9
def Fd{tg:Expr}(x:Str)(t:Tok)(it:Addr):Turn P w K tg (Yt x) [it] it (λi h=>h.IsStrIter it (strIterType x) x t i) where
 mem:=by simp
 obj:=λi h st b hb=>by
  have e:b=it:=by simpa using hb
  subst e;let(o,e,c,d):=st;exact#[o,e,λv z=>by rw[d] at z;cases z]
 keep:=λi h h' st k=>by let(o,e,c,d):=st;exact#[o,k it 4 o e,c,d]
 item:=by
  intro X hP hw hK hc i ε s σ H E I hf st hg;subst hP hw hK;let(f0,f1,f2,f3,f4,f5):=hf it 4;have hi:i<x.cps.size:=hg;have hx:x.cps[i]?\x.cps[i]:=by simp[hi]
  have fin:∀h',h'.IsStrIter it (strIterType x) x t (i+1)->Heap.SameBut it 50 h'->∃u,(some (Value.str #[([x.cps[i]].toArray)] s.toks):Option Value)\u /\
    wpAny 22 X.A (letOwnedTupleGo tg (.ref it) u) (λ_ s2=>∃y H',Inv X ε σ H' s2/\RelV y u/\(Yt x).SR i H y H'/\Heap.IsStrIter s2.heap it (strIterType x) x t (i+1)/\∀b∈[it],H' b=none) E {s with heap:=h',toks:=s.toks+1}:=λh' bh sb=>by
   have I1:=I.turned (t':=s.toks+1) (λb o hb e=>(sb.2 b hb).trans e) f0 f1 f3 f4 f5;let(o,e,c,d):=id bh;show#[_,9,vV e c d ?_ #[.str #[([x.cps[i]].toArray)],H,I1,#[_,9],#[9,_,hx,9],bh,λb hb=>(hf b hb).1]];rcases c_ x with z|z<;>rw[z]<;>decide
  rcases c_ x with z|z
  rw[z] at st fin;show wpAny_pyNext_ascii_item st hx λh' bh sb=>?_;have:=fin h' bh sb;simpa[z] using this;rw[z] at st fin;show wpAny_pyNext_wide_item st hx λh' bh sb=>?_;have:=fin h' bh sb;simpa[z] using this
 done:=by
  intro X hP hw hK hc i ε s σ H E I hf st hg;subst hP hw hK;let(f0,f1,f2,f3,f4,f5):=hf it 4;have hi:x.cps.size<=i:=hg;have hx:x.cps[i]?=none:=by simp[hi]
  rcases c_ x with z|z
  rw[z] at st;calc wpAny_pyNext_ascii_end (I.ok.hd hc) st hx λh' eb=>#[9,I.turned (λb o hb e=>eb b o hb e) f0 f1 f3 f4 f5];rw[z] at st;exact wpAny_pyNext_wide_end (I.ok.hd hc) st hx λh' eb=>#[9,I.turned (λb o hb e=>eb b o hb e) f0 f1 f3 f4 f5]
 self:=λA i s Q E st h=>by
  rcases c_ x with z|z
  rw[z] at st;calc wpAny_pyIter_striter_ascii st h;rw[z] at st;calc wpAny_pyIter_striter_wide st h
section
variable{tg:Expr}
theorem oA(hc:X.calm=true):cV X (.builtin "all") (λxs H Q=>∃(p:Addr)(bs:List Bool),xs=[.ref p]/\fQ X.K H p (bs.map V.bl)/\Q (.bl (bs.all id)) H):=by
 intro ε s σ H xs us Q I r h;let(p,bs,rfl,hq,q):=h;let(u,rfl,rx):=vals1 r;cases rx;let(aN,rv,pl,hz):=I.list hq;show call_all_walk (aav pl.isList ?_);have c8:p<8:=by let(o,n,e,_):=pl;exact dz e
 have eY:=gf c8;have hh:X.A.in1.handled=none:=I.ok.hd hc;show#[8,_,_,_,_,_,λi=>bs.getD i true,9,Walks.list hh 8 p eY aN.toArray,#[#[_,gU _ 9,9,9],pl.isList.push _],?_,λh' tk k=>?_];intro i v s' Q' E' hP hQ;have hP':aN[i]?\v:=by simpa using hP
 have hb:i<bs.length:=by
  have:=rv.length;have h2:=(dy.mp hP').1;rw[bL] at this
  lia
 let(u,e1,r1):=rv.get (i:=i) (x:=.bl bs[i]) (by simp[hb]);rw[hP'] at e1;cases e1;obtain rfl:=r1;have e3:bs.getD i true=bs[i]:=by simp[List.getD,hb]
 dsimp only at hQ;rw[e3] at hQ;calc Ξ hQ;have hl:aN.toArray.size=bs.length:=by have:=rv.length;rw[bL] at this;rw[iD];lia
 have e:(List.range aN.toArray.size).all (λi=>bs.getD i true)=bs.all id:=by rw[hl,OM,JD,JD];constructor;intro h x hx;let(i,hi,e):=List.mem_iff_getElem.mp hx;have:=h i (m6.mpr hi);simp only[List.getD,f_ hi,Option.getD_some] at this;rw[<- e];calc this;intro h i hi;have Yu:=m6.mp hi;simp only[List.getD,f_ Yu,Option.getD_some];exact h _ (B8 Yu)
 rw[e];show#[.bl (bs.all id),H,?_,9,q];have I0:Inv X ε σ H {s with heap:=s.heap.push {cls:=.type "list_iterator",data:=.fields ([.ref p,.int 0 0].toArray)} }:=I.kept λb o e=>c9 _ e;have fk:=I.nq (cv 8) I.fresh;let(f0,f1,_,f3,f4,f5):=fk;calc I0.turned (λb o hb e=>k b o (by simpa using hb) e) f0 f1 f3 f4 f5
def qA:NC X "str.startswith" (λx xs H Q=>∃z y,x=.str z/\xs=[.str y]/\Q (.bl (Txt.startswith z y)) H):=by intro ε s σ H x xs v us Q I rx rs h;let(z,y,rfl,rfl,q):=h;let(t,rfl):=rx;let(u,rfl,t',rfl):=vals1 rs;calc SC.startswith #[.bl _,H,I,9,q]
def UY:V->Option Int->Option Int->Hp->VK->Prop:=λx lo hi H Q=>∃z,x=.str z/\z.length<=sizeLine/\Q (.str (Txt.slice z lo hi)) H
def PX:ER X UY:=by
 intro ε s σ H x v vl vu lo hi sl Q I rx hs pl pu h;let(z,rfl,hz,q):=h;let(t,rfl):=rx;let(o,e,c,d):=hs;show#["str",_,slot_str_getitem.lookup,typeIs_str _ _ _,?_];cases pl with
 |none=>
  cases pu with
  |none=>calc aal (l:=none) (u:=none) (st:=none) #[o,e,c,d] 9 (aaD #[jR (Txt.slice_le z _ _) hz,λt' k=>#[.str _,H,I.tok _,#[_,9],q]])
  |int j tj=>calc aal (l:=none) (u:=some (j,tj)) (st:=none) #[o,e,c,d] 9 (aaD #[jR (Txt.slice_le z _ _) hz,λt' k=>#[.str _,H,I.tok _,#[_,9],q]])
 |int i ti=>
  cases pu with
  |none=>calc aal (l:=some (i,ti)) (u:=none) (st:=none) #[o,e,c,d] 9 (aaD #[jR (Txt.slice_le z _ _) hz,λt' k=>#[.str _,H,I.tok _,#[_,9],q]])
  |int j tj=>calc aal (l:=some (i,ti)) (u:=some (j,tj)) (st:=none) #[o,e,c,d] 9 (aaD #[jR (Txt.slice_le z _ _) hz,λt' k=>#[.str _,H,I.tok _,#[_,9],q]])
end
def aE{D:Addr}{o:HO}(h:H D=none):aP H (upd H D o):=λb u e=>by rw[az (bx e h)];calc e
section
def Inv.grown{ch:zm}{t:Addr}{o:HO}(I:Inv X ε σ H s)(k:∀b u,b∉ch->s.heap.get? b\u->h'.get? b\u)(hf:∀b∈ch,lK X ε H b)(ht:8<=t)(new:bO 39 X.w (upd H t o) h' t o):Inv X ε σ (upd H t o) {s with heap:=h',toks:=t'}:=by
 have hn:=I.bC.fresh ht;have Ew:∀b u,H b\u->b∉ch:=λb u e z=>by rw[(hf b z).1] at e;cases e
 show I.step (λb hb=>?_) (λb u _ _ hc e _=>k b u hc e) (λb u _ _ hc e _=>#[u.slots,k b u hc e]) (λb u _ e n=>?_) (λb u hc e=>#[u,k b u hc e])
  (λb xs e=>?_) (λb u v e=>?_) (λb ps e=>#[([].toArray),?_]) (λm hm=>?_) (λb u e=>?_) I.bare
 let(_,f1,_,f3,f4,f5):=hf b hb;calc#[f3,f1,f4,f5];rw[az (gf (qt (dz e) ht))];calc n;rw[az (bx e hn)];calc e;rw[az (bx e hn)];calc e;rw[az (bx e hn),e];simp;let(ob,es,ep,ho,r):=hm;calc#[ob,es,ep,k _ ob (λz=>(hf _ z).2.1 9) ho,r];by_cases hb:b=t;subst hb;rw[aG] at e;cases e;calc new;rw[az hb] at e;show (I.bC b u e).ly (λc v hc q=>k c v ?_ q) (λc q=>by rw[az (bx q hn)];calc q) λc xs q=>by rw[az (bx q hn)];exact q
 obtain z|z:=hc
 rw[z];calc Ew b u e;calc Ew c _ z
end
def Ite(K:qaf)(a:Addr):It :=
 #[λi H=>∃xs x,fQ K H a xs/\xs[i]?\x,λi H v H'=>∃t x,H t=none/\v=.ref t/\(∀xs,fQ K H a xs->xs[i]?\x)/\H'=upd H t (.tup [.int (i:Int),x]),λi H=>∃xs,fQ K H a xs/\34<=i]
def CD{x1}(a e it:Addr)(eY:e≠it) :
  Turn P w K (.Tuple elts x1 tp) (Ite K a) [e,it] e (λi h=>(∃old,IsEnum h e it (i:Int) old)/\h.IsListIter it a i) where
 mem:=by simp
 obj:=λi h st b hb=>by
  let((old,h1),o,h2,c,d):=st;rcases cY.mp hb with z|z
  subst z;calc#[_,h1,λv z=>by cases z];have z':b=it:=by simpa using z
  subst z';exact#[o,h2,λv z=>by rw[d] at z;cases z]
 keep:=λi h h' st k=>by let((old,h1),sR):=st;exact#[#[old,k e 4 _ h1],sR.at λo q=>k it 4 o q]
 item:=by
  intro X hP hw hK hc i ε s σ H E I hf st hg;subst hP hw hK;let(xs,x,hq,hx):=hg;let(aN,rv,p,hz):=I.list hq;let(u,hu,ru):=rv.get hx;let((old,h1),sR):=st;show wpAny_pyNext_enum_item h1 sR p.isList (by simpa using hu) eY λh₁ Nt acK ht₁ Fe hk₁=>#[_,9,wpAny_letOwnedTupleGo_enum Nt λh₂ PY wc=>?_];have qB:=wc;have c8:=dz h1;have hte:=Cb c8;have kk:∀b ob,b∉[e,it]->s.heap.get? b\ob->h₂.get? b\ob:=λb ob hb q=>by have Eb:b≠e:=λz=>hb (by simp[z]);have UZ:b≠it:=λz=>hb (by simp[z]);exact (qB.2 b Eb).trans (hk₁ b ob Eb UZ q)
  have new:bO 39 X.w (upd H 8 (.tup [.int i,x])) h₂ 8 (.tup [.int i,x]) :=
   #[by change 2<=sizeLine;rw[π];decide,[.int i s.toks,u],.cons #[_,9] (.cons ru .nil),#[_,(qB.2 _ hte).trans ht₁,9,_,9]]
  show#[.ref 8,upd H 8 (.tup [.int i,x]),I.grown kk hf (cv _) new,9,#[_,x,I.fresh,9,λys hy=>by rw[I.j_ hy hq];calc hx,9],#[#[u,?_],?_],λb hb=>?_];have:(i+1)=((i+1:Nat):Int):=by lia
  rw[<- this];calc PY;let(o,q,r):=acK;calc#[o,(qB.2 it (Ne.symm eY)).trans q,r];have AJ:b<8:=by
   rcases cY.mp hb with z|z
   subst z;calc c8;have z':b=it:=by simpa using z
   subst z';let(o,q,_):=sR;exact dz q
  rw[az (gf AJ)];exact (hf b hb).1
 done:=by intro X hP hw hK hc i ε s σ H E I hf st hg;subst hP hw hK;let(xs,hq,hx):=hg;let(aN,rv,p,hz):=I.list hq;have hl:=rv.length;let((old,h1),sR):=st;let(f0,f1,f2,f3,f4,f5):=hf it 4;exact wpAny_pyNext_enum_end (I.ok.hd hc) h1 sR p.isList (by simp;lia) λh' eb=>#[9,I.turned (λb o hb q=>eb b o hb q) f0 f1 f3 f4 f5]
 self:=λ_ _ _ _ _ st h=>by let((old,h1),_):=st;calc wpAny_pyIter_enum h1 h
def U0(K:qaf)(ta:TA):TI:=λσ H R=>ta σ H λvs H1=>∃a,vs=[.ref a]/\(∃xs,fQ K H1 a xs)/\R (Ite K a) H1
section
def boot_enumerate:bootBuiltins "enumerate"\.type "enumerate":=by decide +kernel
def Kv{x1}{a:Expr}{ta:TA}{pos:Pos}(hg:Gl X "enumerate")(hm:X.mg "enumerate"=none)(ha:PA X [a] ta)(hs:starEach [a] 19=[(false,eval a 19)]:=by rfl) :
  PI X (.Tuple elts x1 tp) (.Call (.Name "enumerate" p) [a] [] pos) (U0 X.K ta):=by
 intro ε s σ H R I h;show Call_ (lC I hg hm boot_enumerate (XY (cz (ha pos ε s σ H _ I h) λus s1 #[vs,H1,I1,r1,q1]=>?_) hs 9));let(b,e,(xs,hq),q):=q1;subst e;let(u,rfl,ru):=vals1 r1;cases ru;let(aN,rv,pl,hz):=I1.list hq;show call_enumerate_list pl.isList λh' he hit hsz hk=>?_;have I2:=I1.kept (t':=s1.toks) hk;show wpAny_pyIter_enum he #[51+1,[51+1,51],_,_,H1,9,I2,CD b _ _ (Cb (Ar _)),#[#[_,he],hit],λc hc=>?_,q];rcases cY.mp hc with z|z
 subst z;calc I1.nq (Jo _) (I1.bC.fresh (Jo _));have z':c=51:=by simpa using z
 subst z';calc I1.nq (cv _) I1.fresh
end
section
def qC(hc:X.calm=true):cV X (.builtin "sum") (λxs H Q=>∃(p:Addr)(ns:qan),xs=[.ref p]/\fQ X.K H p (ns.map V.int)/\Q (.int ns.sum) H):=by
 intro ε s σ H xs us Q I r h;let(p,ns,rfl,hq,q):=h;let(u,rfl,rx):=vals1 r;cases rx;let(aN,rv,pl,hz):=I.list hq;have hI:IntsAre aN ns:=intsAre_of rv;let(xs,e):=hI.allInts.items;have hn:=hI.numsOf;have hl:s.heap.IsList p (intItems xs):=by rw[<- e];exact pl.isList
 show sum_intListG (I.ok.hd hc) hl λh' tk t' hk=>?_;have e2:preSum (numAt xs) xs.size=ns.sum:=by rw[preSum_eq,Sx 4,<- nums_intItems,<- e,List.toList_toArray,hn]
 rw[e2];calc#[.int ns.sum,H,I.kept hk,#[_,9],q]
end
end L2
namespace nN
open PySem Builtin Builtin.Str
def bH:Str:="abcdefghijklmnopqrstuvwxyz"
def CF(c:Nat):Bool:=!(occurrences bH #[([c].toArray)] 0 bH.length 1).isEmpty
def Kw:CF 46=false:=by decide +kernel
def yQ:((".":String):Str)=#[([46].toArray)]:=by decide +kernel
def cS(x:Str):Bool:=decide (1<=(x.length:Int)) && (decide ((x.length:Int)<=08) && x.cps.toList.all CF)
def ff(x:Str):Bool:=Txt.startswith x "." && cS (Txt.slice x (some 1) none)
def gh(h:x.cps.toList.all CF=true):Txt.startswith x "."=false:=by
 obtain⟨⟨l⟩⟩:=x;rw[yQ];unfold Txt.startswith subAt;cases l with
 |nil=>rfl
 |cons c r=>
  have hc:CF c=true:=by have:=JD.mp h c 4;exact this
  have ne:c≠46:=λe=>by rw[e,Kw] at hc;cases hc
  have e1:(Array.extract ({toList:=c::r}:Array Nat) 0 (0+(Str.mk ([46].toArray)).length)==(Str.mk ([46].toArray)).cps)=false:=by rw[aaa];intro q;have q2:=Ω (λa=>a[0]?) q;simp[Str.length] at q2;exact ne q2
  change (decide _ && (Array.extract ({toList:=c::r}:Array Nat) 0 (0+(Str.mk ([46].toArray)).length)==(Str.mk ([46].toArray)).cps))=false;rw[e1,TX]
def eO(h:cS x=true):x.cps.toList.all CF=true:=by unfold cS at h;rw[iE,iE] at h;calc h.2.2
def qD(h:cS x=true):ff x=false:=by unfold ff;rw[gh (eO h),Jl]
def oB(x:Str):Txt.startswith ((".":String)++x) "."=true:=by obtain⟨⟨l⟩⟩:=x;rw[yQ];unfold Txt.startswith subAt;rw[iE];show#[?_,?_];apply ο;change 0+1<=(([46].toArray)++({toList:=l}:Array Nat)).size;simp;change (Array.extract (([46].toArray)++({toList:=l}:Array Nat)) 0 (0+1)==([46].toArray))=true;rw[aaE];apply Array.ext';simp
def CG(x:Str):Txt.slice ((".":String)++x) (some 1) none=x:=by
 obtain⟨⟨l⟩⟩:=x;rw[yQ];have hl:(Str.length (Str.mk ([46].toArray)++Str.mk {toList:=l}))=l.length+1:=by change (([46].toArray)++({toList:=l}:Array Nat)).size=_;simp
 have hi:strSliceIndices (some 1) none 1 (l.length+1)=(List.range l.length).map (λk=>k+1):=by
  unfold strSliceIndices sliceRange;simp only[show (1:Int) > 0 by decide,aaK];have e0:max 0 (min (if (1:Int)<0 then 1+((l.length+1:Nat):Int) else 1) ((l.length+1:Nat):Int))=1:=by rw[θ 5];lia
  rw[e0];by_cases hn:l.length=0;rw[hn];rfl;have e1:((1:Int)<((l.length+1:Nat):Int)):=by lia
  rw[ι e1];have e2:((((l.length+1:Nat):Int)-1+1-1) / 1).toNat=l.length:=by rw[Int.ediv_one];lia
  rw[e2];apply Es;intro k hk
  lia
 unfold Txt.slice;rw[hl,hi];have eY:¬ (((1:Int)==1 && (List.map (λk=>k+1) (List.range l.length)).length==l.length+1)=true):=by
  rw[iE,bL,rh];intro q;have:=aaE.mp q.2
  lia
 rw[θ eY]
 congr 1
 apply Array.ext';rw[List.toList_toArray];change List.filterMap (λi=>(([46].toArray)++({toList:=l}:Array Nat))[i]?) (List.map (λk=>k+1) (List.range l.length))=l;rw[Yb];have e:∀k,((λi=>(([46].toArray)++({toList:=l}:Array Nat))[i]?) ∘ λk=>k+1) k=l[k]?:=λk=>by change (([46].toArray)++({toList:=l}:Array Nat))[k+1]?=l[k]?;rw[<- D9];simp
 rw[show ((λi=>(([46].toArray)++({toList:=l}:Array Nat))[i]?) ∘ λk=>k+1)=λk=>l[k]? from funext e];clear e eY hi hl;induction l with
 |nil=>rfl
 |cons a r ih=>
  rw[vI,List.range_succ_eq_map,rf];simp only[X3,Yb]
  congr 1
def CH(h:cS x=true):ff ((".":String)++x)=true:=by unfold ff;rw[oB,CG,h];rfl
end nN
namespace VT
open PySem PySem.Spec PyProof.Rows L2
abbrev St:=L2.St
inductive T where
 |bK|bl (b:Bool)|int (i:Int)|str (x:Str)|tup (l:List T)|lst (l:List T)|dk (ks:List Key) (vs:List T)|dt (ks:List (List Key)) (vs:List T)|df (o:Obj) (ks:List (List Key)) (vs:List T)|kt (k:List Key)|ins (C:Addr) (ns:ω) (vs:List T)|pin (a:Addr) (t:T)|ob (a:Addr)|ty (n:String)
abbrev aL(t:T):Option (T×Bool):=some (t,false)
def qF(K:qaf)(H:Hp)(O:zm)(a:Addr)(vs:qak):Prop :=
 (Rd H a (.lst vs)/\a∉O)\/∃(o:Obj)(aN:Array Value)(n:Nat),K.lookup a\o/\o.cls=.type "list"/\o.dict=none/\o.data=.seq aN n/\aN.size<=sizeLine/\Vals vs aN.toList
def qF.sq{O:zm}(h:qF K H O a vs):fQ K H a vs:=by
 obtain h|h:=h
 calc .inl h.1;calc .inr h
def sZ(H:Hp)(O:zm)(a:Addr)(u:HO):Prop:=H a=some u/\a∉O
def adU(nh:List Key×Key->Int)(a:Addr)(xs:List ((List Key×Key)×Addr×Value)):Heap->Prop:=λh=>E3 λo es ep=>h.get? a\o/\o.ExactDict/\o.data=.dict es ep/\es.toList=xs.map (λx=>#[nh x.1,.ref x.2.1,x.2.2])/\(xs.map (·.1)).Nodup
def adV(K:qaf)(H:Hp)(c:List Key×Key)(b:Addr):Prop:=∃d,dJ K H b [.ref d,kV c.2]/\dJ K H d (c.1.map kV)
mutual
def At(K:qaf)(H:Hp)(O:zm):T->V->Prop
 |.bK,v=>v=.bK
 |.bl b,v=>v=.bl b
 |.int i,v=>v=.int i
 |.str x,v=>v=.str x
 |.ob a,v=>v=.ref a
 |.ty n,v=>v=.ty n
 |.tup ts,v=>∃a vs,v=.ref a/\dJ K H a vs/\aB K H O ts vs
 |.lst ts,v=>∃a vs,v=.ref a/\qF K H O a vs/\aB K H O ts vs
 |.dk ks ts,v=>∃a vs,v=.ref a/\ks.length=vs.length/\sZ H O a (.dK (ks.zip vs))/\aB K H O ts vs
 |.dt ks ts,v=>∃a vs,v=.ref a/\ks.length=vs.length/\sZ H O a (.dT (ks.zip vs))/\aB K H O ts vs
 |.df o ks ts,v=>∃a vs,v=.ref a/\ks.length=vs.length/\sZ H O a (.jS o (.dT (ks.zip vs)))/\aB K H O ts vs
 |.kt k,v=>∃a,v=.ref a/\sZ H [] a (.tup (k.map kV))
 |.pin a t,v=>v=.ref a/\At K H O t v
 |.ins C ns ts,v=>∃a dx vs,v=.ref a/\ns.length=vs.length/\sZ H O a (.ins C dx (ns.zip vs))/\aB K H O ts vs
def aB(K:qaf)(H:Hp)(O:zm):List T->qak->Prop
 |[],vs=>vs=[]
 |t::ts,vs=>∃v r,vs=v::r/\At K H O t v/\aB K H O ts r
end
section
variable{O O':zm}
mutual
theorem At.map(hl:∀a vs,qF K H O a vs->qF K H' O' a vs)(ht:∀a vs,dJ K H a vs->dJ K H' a vs)(hd:∀a u,sZ H O a u->sZ H' O' a u)(hk:∀a vs,H a\.tup vs->H' a\.tup vs):∀{t:T}{v:V},At K H O t v->At K H' O' t v
 |.bK,_,h=>by simpa only[At] using h
 |.bl _,_,h=>by simpa only[At] using h
 |.int _,_,h=>by simpa only[At] using h
 |.str _,_,h=>by simpa only[At] using h
 |.ob _,_,h=>by simpa only[At] using h
 |.ty _,_,h=>by simpa only[At] using h
 |.tup ts,_,h=>by simp only[At] at h ⊢;let(a,vs,e,h1,h2):=h;calc#[a,vs,e,ht a vs h1,aB.map hl ht hd hk h2]
 |.lst ts,_,h=>by simp only[At] at h ⊢;let(a,vs,e,h1,h2):=h;calc#[a,vs,e,hl a vs h1,aB.map hl ht hd hk h2]
 |.dk ks ts,_,h=>by simp only[At] at h ⊢;let(a,vs,e,h0,h1,h2):=h;calc#[a,vs,e,h0,hd _ _ h1,aB.map hl ht hd hk h2]
 |.dt ks ts,_,h=>by simp only[At] at h ⊢;let(a,vs,e,h0,h1,h2):=h;calc#[a,vs,e,h0,hd _ _ h1,aB.map hl ht hd hk h2]
 |.df o ks ts,_,h=>by simp only[At] at h ⊢;let(a,vs,e,h0,h1,h2):=h;calc#[a,vs,e,h0,hd _ _ h1,aB.map hl ht hd hk h2]
 |.kt k,_,h=>by simp only[At] at h ⊢;let(a,e,h1):=h;calc#[a,e,hk _ _ h1.1,h1.2]
 |.pin a t,_,h=>by simp only[At] at h ⊢;calc#[h.1,At.map hl ht hd hk h.2]
 |.ins C ns ts,_,h=>by simp only[At] at h ⊢;let(a,dx,vs,e,h0,h1,h2):=h;calc#[a,dx,vs,e,h0,hd _ _ h1,aB.map hl ht hd hk h2]
theorem aB.map(hl:∀a vs,qF K H O a vs->qF K H' O' a vs)(ht:∀a vs,dJ K H a vs->dJ K H' a vs)(hd:∀a u,sZ H O a u->sZ H' O' a u)(hk:∀a vs,H a\.tup vs->H' a\.tup vs):∀{ts:List T}{vs:qak},aB K H O ts vs->aB K H' O' ts vs
 |[],_,h=>by simpa only[aB] using h
 |t::ts,_,h=>by simp only[aB] at h ⊢;let(v,r,e,h1,h2):=h;calc#[v,r,e,At.map hl ht hd hk h1,aB.map hl ht hd hk h2]
end
def Rd.same{u:HO}(s:aP H H')(h:Rd H a u):Rd H' a u:=by
 obtain h|⟨o,h⟩:=h
 calc .inl (s _ _ h);calc .inr #[o,s _ _ h]
def dJ.same(s:aP H H')(h:dJ K H a vs):dJ K H' a vs:=by
 obtain h|h:=h
 calc .inl (Rd.same s h);calc .inr h
def qF.same(s:aP H H')(h:qF K H O a vs):qF K H' O a vs:=by
 obtain h|h:=h
 calc .inl #[Rd.same s h.1,h.2];calc .inr h
def At.same{t:T}(s:aP H H')(h:At K H O t v):At K H' O t v:=At.map (λ_ _ q=>q.same s) (λ_ _ q=>dJ.same s q) (λ_ _ q=>#[s _ _ q.1,q.2]) (λ_ _ q=>s _ _ q) h
def aB.same{t:List T}{v:qak}(s:aP H H')(h:aB K H O t v):aB K H' O t v:=aB.map (λ_ _ q=>q.same s) (λ_ _ q=>dJ.same s q) (λ_ _ q=>#[s _ _ q.1,q.2]) (λ_ _ q=>s _ _ q) h
def At.br{t:T}(s:∀a∈O',a∈O)(h:At K H O t v):At K H O' t v :=
 At.map (λa vs q=>q.elim (λz=>.inl #[z.1,λm=>z.2 (s a m)]) .inr) (λ_ _ q=>q) (λa _ q=>#[q.1,λm=>q.2 (s a m)]) (λ_ _ q=>q) h
def aB.br{t:List T}{v:qak}(s:∀a∈O',a∈O)(h:aB K H O t v):aB K H O' t v :=
 aB.map (λa vs q=>q.elim (λz=>.inl #[z.1,λm=>z.2 (s a m)]) .inr) (λ_ _ q=>q) (λa _ q=>#[q.1,λm=>q.2 (s a m)]) (λ_ _ q=>q) h
def Rd.some{u:HO}(h:Rd H a u):H a≠none:=by obtain h|⟨o,h⟩:=h<;>rw[h]<;>simp
def At.more{t:T}(s:∀a∈O',a∈O\/H a=none)(h:At K H O t v):At K H O' t v :=
 At.map (λa vs q=>q.elim (λz=>.inl #[z.1,λm=>(s a m).elim z.2 (Rd.some z.1)]) .inr) (λ_ _ q=>q) (λa bf q=>#[q.1,λm=>(s a m).elim q.2 (by rw[q.1];simp)]) (λ_ _ q=>q) h
def aB.more{t:List T}{v:qak}(s:∀a∈O',a∈O\/H a=none)(h:aB K H O t v):aB K H O' t v :=
 aB.map (λa vs q=>q.elim (λz=>.inl #[z.1,λm=>(s a m).elim z.2 (Rd.some z.1)]) .inr) (λ_ _ q=>q) (λa bf q=>#[q.1,λm=>(s a m).elim q.2 (by rw[q.1];simp)]) (λ_ _ q=>q) h
def nA:HO->Bool
 |.lst _=>true
 |.dK _=>true
 |.dT _=>true
 |.ins _ _ _=>true
 |.ext _=>true
 |_=>false
def At.wrote{t:T}{o u:HO}(ha:a∈O)(hu:H a\u)(hm:nA u=true)(h:At K H O t v):At K (upd H a o) O t v:=by
 have ne:∀b,b∉O->b≠a:=λb hb e=>hb (by rw[e];calc ha);show At.map (λb vs q=>?_) (λb vs q=>?_) (λb bf q=>?_) (λb vs q=>by rw[az (Au q hu (by intro e;subst e;cases hm))];calc q) h;obtain q|q:=q
 show .inl #[?_,q.2];obtain z|⟨o',z⟩:=q.1
 calc .inl (by rw[az (ne b q.2)];calc z);calc .inr #[o',by rw[az (ne b q.2)];calc z];calc .inr q;obtain z|z:=q
 show .inl ?_;obtain z|⟨o',z⟩:=z
 calc .inl (by rw[az (Au z hu (by intro e;subst e;cases hm))];calc z);calc .inr #[o',by rw[az (Au z hu (by intro e;subst e;cases hm))];calc z];calc .inr z;calc#[by rw[az (ne b q.2)];calc q.1,q.2]
def aB.iff{ts:List T}:∀{vs:qak},aB K H O ts vs↔Paired (λv t=>At K H O t v) vs ts:=by
 induction ts with
 |nil=>intro vs;simp only[aB];calc#[λe=>by subst e;calc .nil,λh=>by cases h;rfl]
 |cons t ts ih=>
  intro vs;simp only[aB];constructor;rintro⟨v,r,rfl,h1,h2⟩;calc .cons h1 (ih.mp h2);intro h;cases h with
  |cons h1 h2=>calc#[_,_,9,h1,ih.mpr h2]
def aB.wrote{t:List T}{v:qak}{o u:HO}(ha:a∈O)(hu:H a\u)(hm:nA u=true)(h:aB K H O t v):aB K (upd H a o) O t v :=
 aB.iff.mpr (Paired.m7 (aB.iff.mp h) λ_ _ q=>q.wrote ha hu hm)
def aB.length{ts:List T}{vs:qak}(h:aB K H O ts vs):vs.length=27:=JG (aB.iff.mp h)
def aB.get{ts:List T}{vs:qak}(h:aB K H O ts vs){i:Nat}{t:T}(e:ts[i]?\t):∃v,vs[i]?\v/\At K H O t v:=by
 have q:=aB.iff.mp h;clear h;induction q generalizing i with
 |nil=>simp at e
 |cons r _ ih=>
  cases i with
  |zero=>simp at e;subst e;calc#[_,9,r]
  |succ i=>let(v,h1,h2):=ih (i:=i) (by simpa using e);calc#[v,by simpa using h1,h2]
def aB.cons{t:T}{ts:List T}{v:V}{vs:qak}(h:At K H O t v)(hs:aB K H O ts vs):aB K H O (t::ts) (v::vs):=by simp only[aB];calc#[v,vs,9,h,hs]
def aB.nil:aB K H O [] []:=by simp only[aB]
def aB.append{ts us:List T}{ws:qak}(h:aB K H O ts vs)(h':aB K H O us ws):aB K H O (ts++us) (vs++ws):=by
 rw[aB.iff] at h h' ⊢;induction h with
 |nil=>calc h'
 |cons r _ ih=>calc .cons r ih
def aB.drop{ts:List T}(n:Nat)(h:aB K H O ts vs):aB K H O (ts.drop n) (vs.drop n):=by
 rw[aB.iff] at h ⊢;induction h generalizing n with
 |nil=>cases n<;>calc .nil
 |cons r t ih=>cases n with
  |zero=>calc .cons r t
  |succ n=>calc ih n
def aB.take{ts:List T}(n:Nat)(h:aB K H O ts vs):aB K H O (ts.take n) (vs.take n):=by
 rw[aB.iff] at h ⊢;induction h generalizing n with
 |nil=>cases n<;>calc .nil
 |cons r t ih=>cases n with
  |zero=>calc .nil
  |succ n=>calc .cons r (ih n)
def aB.set{ts:List T}{t:T}(i:Nat)(h:aB K H O ts vs)(q:At K H O t v):aB K H O (ts.set i t) (vs.set i v):=by
 rw[aB.iff] at h ⊢;induction h generalizing i with
 |nil=>calc .nil
 |cons r s ih=>cases i with
  |zero=>calc .cons q s
  |succ i=>calc .cons r (ih i)
end
mutual
def rG:T->Bool
 |.tup ts=>ki ts
 |.lst _=>false
 |.dk _ _=>false
 |.dt _ _=>false
 |.df _ _ _=>false
 |.kt _=>false
 |.ins _ _ _=>false
 |.pin _ _=>false
 |_=>true
def ki:List T->Bool
 |[]=>true
 |t::ts=>rG t && ki ts
end
section
variable{O O':zm}
mutual
theorem At.rG:∀{t:T}{v:V},rG t=true->At K H O t v->At K H O' t v
 |.bK,_,_,h=>by simpa only[At] using h
 |.bl _,_,_,h=>by simpa only[At] using h
 |.int _,_,_,h=>by simpa only[At] using h
 |.str _,_,_,h=>by simpa only[At] using h
 |.ob _,_,_,h=>by simpa only[At] using h
 |.ty _,_,_,h=>by simpa only[At] using h
 |.tup ts,_,i,h=>by simp only[At] at h ⊢;simp only[VT.rG] at i;let(a,vs,e,h1,h2):=h;calc#[a,vs,e,h1,aB.rG i h2]
 |.lst ts,_,i,h=>by simp only[VT.rG] at i;cases i
 |.dk _ _,_,i,h=>by simp only[VT.rG] at i;cases i
 |.dt _ _,_,i,h=>by simp only[VT.rG] at i;cases i
 |.df _ _ _,_,i,h=>by simp only[VT.rG] at i;cases i
 |.kt _,_,i,h=>by simp only[VT.rG] at i;cases i
 |.ins _ _ _,_,i,h=>by simp only[VT.rG] at i;cases i
 |.pin _ _,_,i,h=>by simp only[VT.rG] at i;cases i
theorem aB.rG:∀{ts:List T}{vs:qak},ki ts=true->aB K H O ts vs->aB K H O' ts vs
 |[],_,_,h=>by simpa only[aB] using h
 |t::ts,_,i,h=>by simp only[VT.ki,iE] at i;simp only[aB] at h ⊢;let(v,r,e,h1,h2):=h;calc#[v,r,e,At.rG i.1 h1,aB.rG i.2 h2]
end
end
abbrev En:=List (Option (T×Bool))
structure Zc where
 H0:Hp
 P:List (Nat×Addr)
 Ox:zm
def Zc.ex(Z:Zc)(a:Addr):Zc:={Z with Ox:=a::Z.Ox}
def cT(K:qaf)(H:Hp)(A:zm)(a:Addr):T->Prop
 |.lst ts=>∃vs,H a\.lst vs/\aB K H A ts vs
 |.dk ks ts=>∃vs,ks.length=vs.length/\H a\.dK (ks.zip vs)/\aB K H A ts vs
 |.dt ks ts=>∃vs,ks.length=vs.length/\H a\.dT (ks.zip vs)/\aB K H A ts vs
 |.ins C ns ts=>∃dx vs,ns.length=vs.length/\H a\.ins C dx (ns.zip vs)/\aB K H A ts vs
 |_=>False
def jW(K:qaf)(H:Hp)(A:zm):Option (T×Bool)->qar->Option V->Prop
 |none,o,_=>o=none
 |some (t,false),o,s=>o=none/\∃v,s\v/\At K H A t v
 |some (t,true),o,s=>∃a,o\a/\s\.ref a/\cT K H A a t
def roots(O:HD):zm:=O.filterMap id
def av(Z:Zc)(O:HD):zm:=roots O++Z.Ox
structure ax(K:qaf)(Z:Zc)(tm:List (T×V))(O:HD)(ρ:En)(σ:St)(H:Hp):Prop where
 lσ:σ.length=ρ.length
 lO:O.length=ρ.length
 sl:∀(i:Nat) e,ρ[i]?\e->∃o s,O[i]?\o/\σ[i]?\s/\jW K H (av Z O) e o s
 nd:(roots O).Nodup
 own:∀a∈roots O,(a∈Z.P.map (·.2)\/Z.H0 a=none)/\a∉Z.Ox/\∃u,H a\u/\nA u=true
 par:∀p∈Z.P,O[p.1]?\some p.2
 ox:∀a∈Z.Ox,H a≠none
 keep:∀b o,Z.H0 b\o->b∉Z.P.map (·.2)->H b\o
 kj:∀p∈tm,At K H (av Z O) p.1 p.2
section
variable{Z:Zc}{tm:List (T×V)}{ρ:En}
def cT.map{A A':zm}{t:T}(h:cT K H A a t)(h1:H' a=H a)(h2:∀ts vs,aB K H A ts vs->aB K H' A' ts vs):cT K H' A' a t:=by
 cases t with
 |lst ts=>let(vs,e,q):=h;calc#[vs,h1.trans e,h2 _ _ q]
 |dk ks ts=>let(vs,l,e,q):=h;calc#[vs,l,h1.trans e,h2 _ _ q]
 |dt ks ts=>let(vs,l,e,q):=h;calc#[vs,l,h1.trans e,h2 _ _ q]
 |ins C ns ts=>let(dx,vs,l,e,q):=h;calc#[dx,vs,l,h1.trans e,h2 _ _ q]
 |_=>calc h.elim
def cT.mut{A:zm}{t:T}(h:cT K H A a t):∃u,H a\u/\nA u=true:=by
 cases t with
 |lst ts=>let(vs,e,q):=h;calc#[_,e,9]
 |dk ks ts=>let(vs,l,e,q):=h;calc#[_,e,9]
 |dt ks ts=>let(vs,l,e,q):=h;calc#[_,e,9]
 |ins C ns ts=>let(dx,vs,l,e,q):=h;calc#[_,e,9]
 |_=>calc h.elim
def cT.br{A A':zm}{t:T}(h:cT K H A a t)(s:∀b∈A',b∈A):cT K H A' a t:=h.map 9 λ_ _ q=>q.br s
def cT.same{A:zm}{t:T}(h:cT K H A a t)(s:aP H H'):cT K H' A a t:=by let(u,e,_):=h.mut;calc h.map (by rw[e];calc s _ _ e) λ_ _ q=>q.same s
def cT.at{A:zm}{t:T}(h:cT K H A a t)(n:a∉A):At K H A t (.ref a):=by
 cases t with
 |lst ts=>let(vs,e,q):=h;simp only[At];calc#[a,vs,9,.inl #[.inl e,n],q]
 |dk ks ts=>let(vs,l,e,q):=h;simp only[At];calc#[a,vs,9,l,#[e,n],q]
 |dt ks ts=>let(vs,l,e,q):=h;simp only[At];calc#[a,vs,9,l,#[e,n],q]
 |ins C ns ts=>let(dx,vs,l,e,q):=h;simp only[At];calc#[a,dx,vs,9,l,#[e,n],q]
 |_=>calc h.elim
def jW.map{A A':zm}{e:Option (T×Bool)}{o:qar}{s:Option V}(h:jW K H A e o s)(h1:∀t v,At K H A t v->At K H' A' t v)(h2:∀a t,o\a->cT K H A a t->cT K H' A' a t):jW K H' A' e o s:=by
 match e,h with
 |none,h=>calc h
 |some (t,false),#[e,v,es,q]=>calc#[e,v,es,h1 _ _ q]
 |some (t,true),#[a,e,es,q]=>calc#[a,e,es,h2 _ _ e q]
def aF:a∈roots O↔some a∈O:=by unfold roots;rw[Ya];calc#[λ#[x,h,e]=>by rw[id] at e;rw[<- e];calc h,λh=>#[_,h,9]]
def ax.ND(I:ax K Z tm O ρ σ H):∀a∈av Z O,H a≠none:=λa h=>by
 rcases gc.mp h with h|h
 let(_,_,u,e,_):=I.own a h;rw[e];simp;calc I.ox a h
def ax.same(I:ax K Z tm O ρ σ H)(s:aP H H'):ax K Z tm O ρ σ H' :=
 #[I.lσ,I.lO,λi e h=>let #[o,w,h1,h2,h3]:=I.sl i e h;#[o,w,h1,h2,h3.map (λ_ _ q=>q.same s) λ_ _ _ q=>q.same s],I.nd,
  λa h=>let #[h1,h2,u,e,m]:=I.own a h;#[h1,h2,u,s _ _ e,m],I.par,λa h=>by
   cases e:H a with
   |none=>calc absurd e (I.ox a h)
   |some u=>rw[s _ _ e];simp,
  λb o e n=>s _ _ (I.keep b o e n),λp hp=>(I.kj p hp).same s]
def bS(i:Nat):∀a∈roots (O.set i none),a∈roots O:=λa h=>by
 rw[aF] at h ⊢;rcases Tx h with z|z
 calc z;cases z
theorem d5:∀(O:HD)(i:Nat),(roots O).Nodup->(roots (O.set i none)).Nodup
 |[],i,h=>by simpa using h
 |o::O,0,h=>by
  cases o with
  |none=>simpa[roots] using h
  |some a=>simp only[roots,List.set_cons_zero,rf,id] at h ⊢;calc (oa.mp h).2
 |o::O,i+1,h=>by
  have key:=d5 O i;cases o with
  |none=>simp only[roots,SE,rf,id] at h ⊢;calc key h
  |some a=>simp only[roots,SE,rf,id] at h ⊢;rw[oa] at h ⊢;calc#[λz=>h.1 (bS i a z),key h.2]
def bT(i:Nat):∀a∈av Z (O.set i none),a∈av Z O:=λa h=>by
 rcases gc.mp h with h|h
 calc il _ (bS i a h);calc iC _ h
def get_set{l:List α}{x y:α}(h:(l.set i x)[j]?\y):(j=i/\y=x/\i<l.length)\/(j≠i/\l[j]?\y):=by rw[List.getElem?_set] at h;by_cases e:i=j;rw[ι e] at h;by_cases hl:i<l.length;rw[ι hl] at h;calc .inl #[e.symm,(Option.some.inj h).symm,hl];rw[θ hl] at h;cases h;rw[θ e] at h;calc .inr #[λz=>e z.symm,h]
def ax.put(I:ax K Z tm O ρ σ H){t:T}(hp:∀p∈Z.P,p.1≠i)(hv:At K H (av Z O) t v):ax K Z tm (O.set i none) (ρ.set i (some (t,false))) (σ.set i (some v)) H:=by
 have fw:∀{t:T}{v:V},At K H (av Z O) t v->At K H (av Z (O.set i none)) t v:=λq=>q.br (bT i);show#[by simp[I.lσ],by simp[I.lO],λj e h=>?_,d5 _ _ I.nd,λa h=>I.own a (bS i a h),λp q=>?_,I.ox,I.keep,λp q=>fw (I.kj p q)];rcases get_set h with⟨rfl,rfl,hl⟩|⟨ne,h⟩
 calc#[none,some v,by rw[D8 (by rw[I.lO];calc hl)],by rw[D8 (by rw[I.lσ];calc hl)],9,v,9,fw hv];let(o,s,h1,h2,h3):=I.sl j e h;calc#[o,s,by rw[vG (Ne.symm ne)];calc h1,by rw[vG (Ne.symm ne)];calc h2,h3.map (λ_ _ q=>fw q) λ_ _ _ q=>q.br (bT i)];rw[vG (Ne.symm (hp p q))];calc I.par p q
def ax.forget(I:ax K Z tm O ρ σ H)(hp:∀p∈Z.P,p.1≠i):ax K Z tm (O.set i none) (ρ.set i none) σ H:=by
 have fw:∀{t:T}{v:V},At K H (av Z O) t v->At K H (av Z (O.set i none)) t v:=λq=>q.br (bT i);show#[by simp[I.lσ],by simp[I.lO],λj e h=>?_,d5 _ _ I.nd,λa h=>I.own a (bS i a h),λp q=>?_,I.ox,I.keep,λp q=>fw (I.kj p q)];rcases get_set h with⟨rfl,rfl,hl⟩|⟨ne,h⟩
 obtain⟨s,hs⟩:∃s,σ[j]?\s:=#[σ[j]'(by rw[I.lσ];calc hl),by simp];calc#[none,s,by rw[D8 (by rw[I.lO];calc hl)],hs,9];let(o,s,h1,h2,h3):=I.sl j e h;calc#[o,s,by rw[vG (Ne.symm ne)];calc h1,h2,h3.map (λ_ _ q=>fw q) λ_ _ _ q=>q.br (bT i)];rw[vG (Ne.symm (hp p q))];calc I.par p q
theorem mK:∀(O:HD)(i:Nat)(a:Addr),a∉roots O->(roots O).Nodup->(roots (O.set i (some a))).Nodup
 |[],i,a,_,h=>by simpa using h
 |o::O,0,a,n,h=>by
  cases o with
  |none=>simp only[roots,List.set_cons_zero,rf,id] at n h ⊢;calc oa.mpr #[n,h]
  |some b=>calc oa.mpr #[λz=>n (gT _ z),(oa.mp h).2]
 |o::O,i+1,a,n,h=>by
  have key:=mK O i a;cases o with
  |none=>simp only[roots,SE,rf,id] at n h ⊢;calc key n h
  |some b=>
   simp only[roots,SE,rf,id] at n h ⊢;rw[oa] at h ⊢;show#[λz=>?_,key (λz=>n (gT _ z)) h.2];have z':=aF.mp z;rcases Tx z' with q|q
   calc h.1 (aF.mpr q);calc n (by rw[Option.some.inj q];calc fM)
def we(i:Nat):∀b∈av Z (O.set i (some a)),b∈av (Z.ex a) O:=λb h=>by
 rcases gc.mp h with h|h
 rcases Tx (aF.mp h) with z|z
 calc il _ (aF.mpr z);calc iC _ (by rw[Option.some.inj z];calc fM);calc iC _ (gT _ h)
def ax.acL(I:ax K (Z.ex a) tm O ρ σ H){t:T}(hp:∀p∈Z.P,p.1≠i)(hv:cT K H (av (Z.ex a) O) a t)(h0:Z.H0 a=none)(hx:a∉Z.Ox):ax K Z tm (O.set i (some a)) (ρ.set i (some (t,true))) (σ.set i (some (.ref a))) H:=by
 have sub:=we (Z:=Z) (O:=O) (a:=a) i;have fw:∀{t:T}{v:V},At K H (av (Z.ex a) O) t v->At K H (av Z (O.set i (some a))) t v:=λq=>q.br sub;have na:=λz=>(I.own a z).2.1 fM;show#[by simp[I.lσ],by simp[I.lO],λj e h=>?_,mK _ _ _ na I.nd,λb h=>?_,λp q=>?_,λb h=>I.ox b (gT _ h),I.keep,λp q=>fw (I.kj p q)];rcases get_set h with⟨rfl,rfl,hl⟩|⟨ne,h⟩
 calc#[some a,some (.ref a),by rw[D8 (by rw[I.lO];calc hl)],by rw[D8 (by rw[I.lσ];calc hl)],a,9,9,hv.br sub];let(o,s,h1,h2,h3):=I.sl j e h;calc#[o,s,by rw[vG (Ne.symm ne)];calc h1,by rw[vG (Ne.symm ne)];calc h2,h3.map (λ_ _ q=>fw q) λ_ _ _ q=>q.br sub];rcases Tx (aF.mp h) with z|z
 let(h1,h2,h3):=I.own b (aF.mpr z);calc#[h1,λq=>h2 (gT _ q),h3];cases z;calc#[.inr h0,hx,hv.mut];rw[vG (Ne.symm (hp p q))];calc I.par p q
theorem ax.jS(I:ax K Z tm O ρ σ H){t:T}(hp:∀p∈Z.P,p.1≠i)(hi:ρ[i]?\some (t,true)):ax K Z tm (O.set i none) (ρ.set i (some (t,false))) σ H:=by
 have fw:∀{t:T}{v:V},At K H (av Z O) t v->At K H (av Z (O.set i none)) t v:=λq=>q.br (bT i);let(o,s,h1,h2,a,rfl,rfl,hr):=I.sl i _ hi;have ha:=aF.mpr (eM h1);have na:a∉roots (O.set i none):=λz=>by
  let(j,hj):=JA.mp (aF.mp z);rcases get_set hj with⟨_,q,_⟩|⟨ne,q⟩
  cases q
  -- two places of one root
  have key:∀O (i j:Nat),i<j->O[i]?\some a->O[j]?\some a->(roots O).Nodup->False:=by
   intro O;induction O with
   |nil=>intro i j _ h;simp at h
   |cons o O ih=>
    intro i j S7 e1 e2 nd;cases j with
    |zero=>lia
    |succ j=>
     have CB:O[j]?\some a:=by simpa using e2
     cases i with
     |zero=>
      have:o\a:=by simpa using e1
      subst this;calc (oa.mp nd).1 (aF.mpr (eM CB))
     |succ i=>
      show ih i j () (by simpa using e1) CB ?_;cases o with
      |none=>simpa[roots] using nd
      |some b=>simp only[roots,rf,id] at nd;exact (oa.mp nd).2
  rcases Nat.lt_or_gt_of_ne ne with l|l
  calc key O j i l q h1 I.nd;exact key O i j l h1 q I.nd
 have nav:a∉av Z (O.set i none):=λz=>by
  rcases gc.mp z with z|z
  calc na z;exact (I.own a ha).2.1 z
 show#[by simp[I.lσ],by simp[I.lO],λj e h=>?_,d5 _ _ I.nd,λa h=>I.own a (bS i a h),λp q=>?_,I.ox,I.keep,λp q=>fw (I.kj p q)];rcases get_set h with⟨rfl,rfl,hl⟩|⟨ne,h⟩
 calc#[none,some (.ref a),by rw[D8 (by rw[I.lO];calc hl)],h2,9,.ref a,9,(hr.br (bT j)).at nav];let(o,s,h1,h2,h3):=I.sl j e h;calc#[o,s,by rw[vG (Ne.symm ne)];calc h1,h2,h3.map (λ_ _ q=>fw q) λ_ _ _ q=>q.br (bT i)];rw[vG (Ne.symm (hp p q))];calc I.par p q
theorem ax.wrote(I:ax K Z tm O ρ σ H){t t':T}{u:HO}(hi:ρ[i]?\some (t,true))(hO:O[i]?\some a)(hr:cT K (upd H a u) (av Z O) a t'):ax K Z tm O (ρ.set i (some (t',true))) σ (upd H a u):=by
 have ha:=aF.mpr (eM hO);have Eg:a∈av Z O:=il _ ha;let(hP,hx,u0,e0,m0):=I.own a ha;have inj:∀j b,j≠i->O[j]?\some b->b≠a:=by
  intro j b ne hj e;subst e;have key:∀O (i j:Nat),i<j->O[i]?\some b->O[j]?\some b->(roots O).Nodup->False:=by
   intro O;induction O with
   |nil=>intro i j _ h;simp at h
   |cons o O ih=>
    intro i j S7 e1 e2 nd;cases j with
    |zero=>lia
    |succ j=>
     have CB:O[j]?\some b:=by simpa using e2
     cases i with
     |zero=>
      have:o\b:=by simpa using e1
      subst this;calc (oa.mp nd).1 (aF.mpr (eM CB))
     |succ i=>
      show ih i j () (by simpa using e1) CB ?_;cases o with
      |none=>simpa[roots] using nd
      |some c=>simp only[roots,rf,id] at nd;exact (oa.mp nd).2
  rcases Nat.lt_or_gt_of_ne ne with l|l
  calc key O j i l hj hO I.nd;exact key O i j l hO hj I.nd
 show#[by simp[I.lσ],by simp[I.lO],λj e h=>?_,I.nd,λb h=>?_,I.par,λb h=>?_,λb o e n=>?_,λp q=>(I.kj p q).wrote Eg e0 m0];rcases get_set h with⟨rfl,rfl,hl⟩|⟨ne,h⟩
 let(o,s,h1,h2,a',h4,h5,h6):=I.sl j _ hi;rw[hO] at h1;cases h1;cases h4;calc#[_,s,hO,h2,a,9,h5,hr];let(o,s,h1,h2,h3):=I.sl j e h;show#[o,s,h1,h2,h3.map (λ_ _ q=>q.wrote Eg e0 m0) λb t e q=>?_];subst e;calc q.map (az (inj j b ne h1)) λ_ _ z=>z.wrote Eg e0 m0;let(h1,h2,v,e,m):=I.own b h;by_cases hb:b=a;subst hb;calc#[h1,h2,hr.mut];calc#[h1,h2,v,by rw[az hb];calc e,m];by_cases hb:b=a;subst hb;calc absurd h hx;rw[az hb];calc I.ox b h;by_cases hb:b=a;subst hb;obtain q|q:=hP
 calc absurd q n;rw[q] at e;cases e;rw[az hb];calc I.keep b o e n
def ax.fresh(I:ax K Z tm O ρ σ H)(h:H a=none):a∉av Z O/\a∉Z.Ox/\Z.H0 a=none:=by
 show#[λz=>I.ND a z h,λz=>I.ox a z h,?_];cases e:Z.H0 a with
 |none=>rfl
 |some o=>by_cases hp:a∈Z.P.map (·.2);let(p,Yv,rfl):=gy.mp hp;let(_,_,u,e',_):=I.own p.2 (aF.mpr (eM (I.par p Yv)));rw[h] at e';cases e';rw[I.keep a o e hp] at h;cases h
def cO:∀b∈av (Z.ex a) O,b∈av Z O\/b=a:=λb h=>by
 rcases gc.mp h with h|h
 calc .inl (il _ h);rcases cY.mp h with h|h
 calc .inr h;calc .inl (iC _ h)
def gA:∀b∈av Z O,b∈av (Z.ex a) O:=λb h=>by
 rcases gc.mp h with h|h
 calc il _ h;calc iC _ (gT _ h)
def ax.new(I:ax K Z tm O ρ σ H){u:HO}(h:H a=none)(hu:nA u=true):ax K (Z.ex a) tm O ρ σ (upd H a u):=by
 have s:aP H (upd H a u):=aE h;have J:=I.same s;let(n1,n2,n3):=I.fresh h;have mr:∀b∈av (Z.ex a) O,b∈av Z O\/H b=none:=λb hb=>(cO b hb).imp id λe=>by rw[e];exact h
 have fw:∀{t:T}{v:V},At K H (av Z O) t v->At K (upd H a u) (av (Z.ex a) O) t v:=λq=>(q.more mr).same s;show#[J.lσ,J.lO,λi e hi=>?_,J.nd,λb hb=>?_,J.par,λb hb=>?_,J.keep,λp hp=>fw (I.kj p hp)];let(o,w,h1,h2,h3):=I.sl i e hi;show#[o,w,h1,h2,h3.map (λ_ _ q=>fw q) λb t eo q=>?_];show cT.same (q.map 9 λ_ _ z=>z.more mr) s;let(q1,q2,q3):=J.own b hb;show#[q1,λz=>?_,q3];rcases cY.mp z with z|z
 calc n1 (by rw[<- z];calc il _ hb);calc q2 z;rcases cY.mp hb with z|z
 rw[z,aG];simp;calc J.ox b z
def ax.acM(I:ax K (Z.ex a) tm O ρ σ H):ax K Z tm O ρ σ H :=
 #[I.lσ,I.lO,λi e h=>let #[o,w,h1,h2,h3]:=I.sl i e h;#[o,w,h1,h2,h3.map (λ_ _ q=>q.br gA) λ_ _ _ q=>q.br gA],I.nd,
  λb h=>let #[q1,q2,q3]:=I.own b h;#[q1,λz=>q2 (gT _ z),q3],I.par,λb h=>I.ox b (gT _ h),I.keep,λp hp=>(I.kj p hp).br gA]
end
inductive Rt where
 |vw (t:T)
 |fr (t:T)
def Rt.t:Rt->T
 |.vw t=>t
 |.fr t=>t
def gB(K:qaf)(H:Hp)(A:zm)(t:T)(v:V):Prop:=At K H A t v\/∃a,v=.ref a/\cT K H A a t
def iy(K:qaf)(Z:Zc)(tm:List (T×V))(O:HD)(ρ:En)(σ:St)(H:Hp):Rt->V->Prop
 |.vw t,v=>ax K Z tm O ρ σ H/\At K H (av Z O) t v
 |.fr t,v=>∃a,v=.ref a/\ax K (Z.ex a) tm O ρ σ H/\cT K H (av (Z.ex a) O) a t/\Z.H0 a=none/\a∉Z.Ox
abbrev FE:=En->(T->Prop)->Prop
abbrev FP:=En->(Rt->Prop)->Prop
abbrev FX:=En->(En->Rt->Prop)->Prop
abbrev FB:=En->(Bool->Prop)->Prop
abbrev FA:=En->(List T->Prop)->Prop
section
variable{Z:Zc}{tm:List (T×V)}{ρ:En}{A:zm}
def gB.same{t:T}(s:aP H H')(h:gB K H A t v):gB K H' A t v:=h.imp (λq=>q.same s) λ#[a,e,q]=>#[a,e,q.same s]
def gB.lst{ts:List T}(h:gB K H A (.lst ts) v):∃a vs,v=.ref a/\fQ K H a vs/\aB K H A ts vs:=by
 obtain h|⟨a,rfl,vs,e,q⟩:=h
 simp only[At] at h;let(a,vs,rfl,l,q):=h;calc#[a,vs,9,l.sq,q];calc#[a,vs,9,fQ.of e,q]
def gB.tup{ts:List T}(h:gB K H A (.tup ts) v):∃a vs,v=.ref a/\dJ K H a vs/\aB K H A ts vs:=by
 obtain h|⟨a,rfl,q⟩:=h
 simpa only[At] using h;calc q.elim
def gB.dk{ks:List Key}{ts:List T}(h:gB K H A (.dk ks ts) v):∃a vs,v=.ref a/\ks.length=vs.length/\H a\.dK (ks.zip vs)/\aB K H A ts vs:=by
 obtain h|⟨a,rfl,vs,l,e,q⟩:=h
 simp only[At] at h;let(a,vs,rfl,l,d,q):=h;calc#[a,vs,9,l,d.1,q];calc#[a,vs,9,l,e,q]
def gB.dt{ts:List T}(h:gB K H A (.dt ks ts) v):∃a vs,v=.ref a/\ks.length=vs.length/\H a\.dT (ks.zip vs)/\aB K H A ts vs:=by
 obtain h|⟨a,rfl,vs,l,e,q⟩:=h
 simp only[At] at h;let(a,vs,rfl,l,d,q):=h;calc#[a,vs,9,l,d.1,q];calc#[a,vs,9,l,e,q]
def gB.df{ts:List T}(h:gB K H A (.df o ks ts) v):∃a vs,v=.ref a/\ks.length=vs.length/\H a\.jS o (.dT (ks.zip vs))/\aB K H A ts vs:=by
 obtain h|⟨a,rfl,q⟩:=h
 simp only[At] at h;let(a,vs,rfl,l,d,q):=h;calc#[a,vs,9,l,d.1,q];calc q.elim
def gB.kt{k:List Key}(h:gB K H A (.kt k) v):∃a,v=.ref a/\H a\.tup (k.map kV):=by
 obtain h|⟨a,rfl,q⟩:=h
 simp only[At] at h;let(a,rfl,d):=h;calc#[a,9,d.1];calc q.elim
def gB.ins{ns:ω}{ts:List T}(h:gB K H A (.ins C ns ts) v):∃a dx vs,v=.ref a/\ns.length=vs.length/\H a\.ins C dx (ns.zip vs)/\aB K H A ts vs:=by
 obtain h|⟨a,rfl,dx,vs,l,e,q⟩:=h
 simp only[At] at h;let(a,dx,vs,rfl,l,d,q):=h;calc#[a,dx,vs,9,l,d.1,q];calc#[a,dx,vs,9,l,e,q]
def gB.int{i:Int}(h:gB K H A (.int i) v):v=.int i:=h.elim (λq=>by simpa only[At] using q) λ#[_,_,q]=>q.elim
def gB.str{i:Str}(h:gB K H A (.str i) v):v=.str i:=h.elim (λq=>by simpa only[At] using q) λ#[_,_,q]=>q.elim
def gB.bl{i:Bool}(h:gB K H A (.bl i) v):v=.bl i:=h.elim (λq=>by simpa only[At] using q) λ#[_,_,q]=>q.elim
def gB.bK(h:gB K H A .bK v):v=.bK:=h.elim (λq=>by simpa only[At] using q) λ#[_,_,q]=>q.elim
def gB.ob(h:gB K H A (.ob a) v):v=.ref a:=h.elim (λq=>by simpa only[At] using q) λ#[_,_,q]=>q.elim
def bJ{i:Int}:At K H A (.int i) (.int i):=by simp only[At]
def d9{i:Str}:At K H A (.str i) (.str i):=by simp only[At]
def dO{i:Bool}:At K H A (.bl i) (.bl i):=by simp only[At]
def yR:At K H A .bK .bK:=by simp only[At]
def dg{ts:List T}(h:dJ K H a vs)(q:aB K H A ts vs):At K H A (.tup ts) (.ref a):=by simp only[At];calc#[a,vs,9,h,q]
def iy.env{r:Rt}(h:iy K Z tm O ρ σ H r v):ax K Z tm O ρ σ H:=by
 cases r with
 |vw t=>calc h.1
 |fr t=>let(a,_,I,_):=h;calc I.acM
def iy.at{r:Rt}(h:iy K Z tm O ρ σ H r v):At K H (av Z O) r.t v:=by
 cases r with
 |vw t=>calc h.2
 |fr t=>
  let(a,rfl,I,q,_,hx):=h;show (q.br gA).at λz=>?_;rcases gc.mp z with z|z
  calc (I.own a z).2.1 fM;calc hx z
def ax.wg(I:ax K Z tm O ρ σ H){ts:List T}(h:H a=none)(q:aB K H (av Z O) ts vs):iy K Z tm O ρ σ (upd H a (.lst vs)) (.fr (.lst ts)) (.ref a):=by let(n1,n2,n3):=I.fresh h;calc#[a,9,I.new h 9,#[vs,aG,(q.more λb hb=>(cO b hb).imp id λe=>by rw[e];calc h).same (aE h)],n3,n2]
def ax.newD(I:ax K Z tm O ρ σ H){ks:List Key}{ts:List T}(h:H a=none)(hl:ks.length=vs.length)(q:aB K H (av Z O) ts vs):iy K Z tm O ρ σ (upd H a (.dK (ks.zip vs))) (.fr (.dk ks ts)) (.ref a):=by let(n1,n2,n3):=I.fresh h;calc#[a,9,I.new h 9,#[vs,hl,aG,(q.more λb hb=>(cO b hb).imp id λe=>by rw[e];calc h).same (aE h)],n3,n2]
end
structure Bx(p:List (T×V)->Prop):Prop where
 h:∀tm,p tm
section
variable(X:Cx)(Z:Zc)
def lR(tm:List (T×V))(f:FE):TE:=λσ H Q=>E3 λρ O q=>ax X.K Z tm O ρ σ H/\f ρ q/\∀t,q t->∀v H',aP H H'->gB X.K H' (av Z O) t v->Q v H'
def lE(tm:List (T×V))(f:FE):TE:=λσ H Q=>E3 λρ O q=>ax X.K Z tm O ρ σ H/\f ρ q/\∀t,q t->∀v H',aP H H'->At X.K H' (av Z O) t v->Q v H'
def lP(tm:List (T×V))(f:FP):TE:=λσ H Q=>E3 λρ O q=>ax X.K Z tm O ρ σ H/\f ρ q/\∀r,q r->∀v H',aP H H'->iy X.K Z tm O ρ σ H' r v->Q v H'
def lX(tm:List (T×V))(f:FX):TE:=λσ H Q=>E3 λρ O q=>ax X.K Z tm O ρ σ H/\f ρ q/\∀ρ' r,q ρ' r->∀O' v H',iy X.K Z tm O' ρ' σ H' r v->Q v H'
def lB(tm:List (T×V))(f:FB):TT:=λσ H Q=>E3 λρ O q=>ax X.K Z tm O ρ σ H/\f ρ q/\∀b,q b->∀H',aP H H'->Q b H'
def lA(tm:List (T×V))(f:FA):TA:=λσ H Q=>E3 λρ O q=>ax X.K Z tm O ρ σ H/\f ρ q/\∀ts,q ts->∀vs H',aP H H'->aB X.K H' (av Z O) ts vs->Q vs H'
def lAR(tm:List (T×V))(f:FA):TA:=λσ H Q=>E3 λρ O q=>ax X.K Z tm O ρ σ H/\f ρ q/\∀ts,q ts->∀vs H',aP H H'->Paired (λv t=>gB X.K H' (av Z O) t v) vs ts->Q vs H'
def VR(e:Expr)(f:FE):Prop:=Bx λtm=>PE X e (lR X Z tm f)
instance{e:Expr}{f:FE}:CoeFun (VR X Z e f) λ_=>∀tm,PE X e (lR X Z tm f):=#[λh=>Bx.h h]
def VE(e:Expr)(f:FE):Prop:=Bx λtm=>PE X e (lE X Z tm f)
instance{e:Expr}{f:FE}:CoeFun (VE X Z e f) λ_=>∀tm,PE X e (lE X Z tm f):=#[λh=>Bx.h h]
def VP(e:Expr)(f:FP):Prop:=Bx λtm=>PE X e (lP X Z tm f)
instance{e:Expr}{f:FP}:CoeFun (VP X Z e f) λ_=>∀tm,PE X e (lP X Z tm f):=#[λh=>Bx.h h]
def VX(e:Expr)(f:FX):Prop:=Bx λtm=>PE X e (lX X Z tm f)
instance{e:Expr}{f:FX}:CoeFun (VX X Z e f) λ_=>∀tm,PE X e (lX X Z tm f):=#[λh=>Bx.h h]
def VC(e:Expr)(f:FB):Prop:=Bx λtm=>PT X e (lB X Z tm f)
instance{e:Expr}{f:FB}:CoeFun (VC X Z e f) λ_=>∀tm,PT X e (lB X Z tm f):=#[λh=>Bx.h h]
def VW(e:Expr)(f:FB):Prop:=Bx λtm=>PW X e (lB X Z tm f)
instance{e:Expr}{f:FB}:CoeFun (VW X Z e f) λ_=>∀tm,PW X e (lB X Z tm f):=#[λh=>Bx.h h]
def VA(es:qap)(f:FA):Prop:=Bx λtm=>PA X es (lA X Z tm f)
instance{es:qap}{f:FA}:CoeFun (VA X Z es f) λ_=>∀tm,PA X es (lA X Z tm f):=#[λh=>Bx.h h]
def S8(es:qap)(f:FA):Prop:=Bx λtm=>PA X es (lAR X Z tm f)
instance{es:qap}{f:FA}:CoeFun (S8 X Z es f) λ_=>∀tm,PA X es (lAR X Z tm f):=#[λh=>Bx.h h]
end
def PE.weak{t t':TE}(h:PE X e t)(hw:∀σ H Q,t' σ H Q->t σ H Q):PE X e t':=λε s σ H Q I q=>h ε s σ H Q I (hw _ _ _ q)
def PT.weak{t t':TT}(h:PT X e t)(hw:∀σ H Q,t' σ H Q->t σ H Q):PT X e t':=λε s σ H Q I q=>h ε s σ H Q I (hw _ _ _ q)
def PW.weak{t t':TT}(h:PW X e t)(hw:∀σ H Q,t' σ H Q->t σ H Q):PW X e t':=λwh ε s σ H Q I q=>h wh ε s σ H Q I (hw _ _ _ q)
def PA.weak{e:qap}{t t':TA}(h:PA X e t)(hw:∀σ H Q,t' σ H Q->t σ H Q):PA X e t':=λpos ε s σ H Q I q=>h pos ε s σ H Q I (hw _ _ _ q)
def PS.weak{b:Stmt}{t t':TS}(h:PS X b t)(hw:∀D σ H,t' D σ H->t D σ H):PS X b t':=λε s σ H D I q=>h ε s σ H D I (hw D σ H q)
def jF.km{b:qaq}{t t':TS}(h:jF X b t)(hw:∀D σ H,t' D σ H->t D σ H):jF X b t':=λε s σ H D I q=>h ε s σ H D I (hw D σ H q)
section
variable{Z:Zc}{a:Expr}{pos:Pos}
def VE.vr{f:FE}(h:VE X Z e f):VR X Z e f:=.mk λtm=>PE.weak (h tm) λσ H Q #[ρ,O,q,I,hf,k]=>#[ρ,O,q,I,hf,λt ht v H' s z=>k t ht v H' s (.inl z)]
def fT(f:FP):FE:=λρ Q=>f ρ λr=>Q r.t
def fV(f:FE):FP:=λρ Q=>f ρ λt=>Q (.vw t)
def fX(f:FP):FX:=λρ Q=>f ρ λr=>Q ρ r
def VP.ve{f:FP}(h:VP X Z e f):VE X Z e (fT f):=.mk λtm=>PE.weak (h tm) λσ H Q #[ρ,O,q,I,hf,k]=>#[ρ,O,λr=>q r.t,I,hf,λr hr v H' s z=>k r.t hr v H' s z.at]
def VP.vr{f:FP}(h:VP X Z e f):VR X Z e (fT f):=h.ve.vr
def VP.vx{f:FP}(h:VP X Z e f):VX X Z e (fX f):=.mk λtm=>PE.weak (h tm) λσ H Q #[ρ,O,q,I,hf,k]=>#[ρ,O,λr=>q ρ r,I,hf,λr hr v H' s z=>k ρ r hr O v H' z]
def VE.vp{f:FE}(h:VE X Z e f):VP X Z e (fV f):=.mk λtm=>PE.weak (h tm) λσ H Q #[ρ,O,q,I,hf,k]=>#[ρ,O,λt=>q (.vw t),I,hf,λt hr v H' s z=>k (.vw t) hr v H' s #[I.same s,z]]
def jq(i:Nat):FE:=λρ Q=>match ρ[i]? with
 |some (some (t,false))=>Q t
 |_=>False
def fR(i:Nat):FE:=λρ Q=>match ρ[i]? with
 |some (some (t,_))=>Q t
 |_=>False
def ai(i:Nat)(hN:X.N[i]?\x:=by rfl)(hv:m8 41 x:=by calc jvv 9)(hd:f9 x:=by decide)(gv:q_ x:=by decide):VE X Z (.Name x pos) (jq i):=.mk λtm=>PE.weak (cA hN hv hd gv) λσ H Q #[ρ,O,q,I,hf,k]=>by
 unfold jq at hf;split at hf
 rename_i t e
 let(o,s,h1,h2,rfl,v,rfl,h3):=I.sl i _ e;calc#[v,h2,k t hf v H 43 h3];calc hf.elim
def ae(i:Nat)(hN:X.N[i]?\x:=by rfl)(hv:m8 41 x:=by calc jvv 9)(hd:f9 x:=by decide)(gv:q_ x:=by decide):VR X Z (.Name x pos) (fR i):=.mk λtm=>PE.weak (cA hN hv hd gv) λσ H Q #[ρ,O,q,I,hf,k]=>by
 unfold fR at hf;split at hf
 rename_i t b e
 let(o,s,h1,h2,h3):=I.sl i _ e;cases b with
 |false=>let(rfl,v,rfl,h3):=h3;calc#[v,h2,k t hf v H 43 (.inl h3)]
 |true=>let(a,rfl,rfl,h3):=h3;exact#[_,h2,k t hf _ H 43 (.inr #[a,9,h3])]
 calc hf.elim
def fC(t:T):FP:=λ_ Q=>Q (.vw t)
def Ff{t:T}(h:PE X e (tC v))(ht:∀H A,At X.K H A t v):VP X Z e (fC t):=.mk λtm=>PE.weak h λσ H Q #[ρ,O,q,I,hf,k]=>k _ hf v H 43 #[I,ht _ _]
def af{i j pos}:VP X Z (.Constant (.int i) j pos) (fC (.int i)):=Ff OZ λ_ _=>bJ
def wj{i j pos}:VP X Z (.Constant (.bool i) j pos) (fC (.bl i)):=Ff T6 λ_ _=>dO
def au{i j pos}:VP X Z (.Constant (.str i) j pos) (fC (.str i)):=Ff O5 λ_ _=>d9
def iL{j pos}:VP X Z (.Constant .none j pos) (fC .bK):=Ff O0 λ_ _=>yR
def nP{t:T}(hg:Gl X x)(hm:X.mg x\u)(r:RelV v u)(ht:∀H A,At X.K H A t v)(hd:f9 x:=by decide):VP X Z (.Name x pos) (fC t):=Ff (JP hg hm r hd) ht
def nQ(K:qaf)(r:R2)(p:T->T->(Rt->Prop)->Prop):Prop :=
 ∀(Z:Zc)(tm:List (T×V))(O:HD)(ρ:En)(σ:St)(H:Hp)(x y:T)(v w:V)(q:Rt->Prop)(Q:VK),ax K Z tm O ρ σ H->gB K H (av Z O) x v->gB K H (av Z O) y w->p x y q ->
  (∀t,q t->∀u H',aP H H'->iy K Z tm O ρ σ H' t u->Q u H')->r v w H Q
def f2(fa fb:FE)(p:T->T->(Rt->Prop)->Prop):FP:=λρ Q=>fa ρ λx=>fb ρ λy=>p x y Q
def two{r:R2}{fa fb:FE}{p:T->T->(Rt->Prop)->Prop}(ho:nQ X.K r p){tm:List (T×V)}:∀σ H Q,lP X Z tm (f2 fa fb p) σ H Q->Ue r (lR X Z tm fa) (lR X Z tm fb) σ H Q:=λσ H Q #[ρ,O,q,I,hf,k] =>
 #[ρ,O,λx=>fb ρ λy=>p x y q,I,hf,λx hx v H1 s1 a1=>#[ρ,O,λy=>p x y q,I.same s1,hx,λy hy w H2 s2 a2=>
  ho Z tm O ρ σ H2 x y v w q Q ((I.same s1).same s2) (a1.same s2) a2 hy λt ht u H' s a=>k t ht u H' ((s1.trans s2).trans s) a]]
def gi{op:Operator}{r:R2}{fa fb:FE}{p:T->T->(Rt->Prop)->Prop}(h:eX X (binaryOp op) r)(ho:nQ X.K r p)(ha:VR X Z a fa)(hb:VR X Z b fb):VP X Z (.BinOp a op b pos) (f2 fa fb p) :=
 .mk λtm=>PE.weak (Nz h (ha tm) (hb tm)) (two ho)
def s_{op:CmpOp}{r:R2}{fa fb:FE}{p:T->T->(Rt->Prop)->Prop}(h:eX X (compareOp op) r)(ho:nQ X.K r p)(ha:VR X Z a fa)(hb:VR X Z b fb)(hm:behindInMarks op b=false):VP X Z (.Compare a [op] [b] pos) (f2 fa fb p) :=
 .mk λtm=>PE.weak (J_ h (ha tm) (hb tm) hm) (two ho)
def nB(f:FP):FB:=λρ Q=>f ρ λr=>match r with
 |.vw (.bl c)=>Q c
 |_=>False
def yS{r:Rt}{Q:Bool->Prop}(h:match r with | .vw (.bl c)=>Q c|_=>False):∃c,r=.vw (.bl c)/\Q c:=by split at h;calc#[_,9,h];calc h.elim
def lT{op:CmpOp}{r:R2}{fa fb:FE}{p:T->T->(Rt->Prop)->Prop}(h:eX X (compareOp op) r)(ho:nQ X.K r p)(ha:VR X Z a fa)(hb:VR X Z b fb)(hm:behindInMarks op b=false):VC X Z (.Compare a [op] [b] pos) (nB (f2 fa fb p)) :=
 .mk λtm=>PT.weak (Ka h (ha tm) (hb tm) hm) λσ H Q #[ρ,O,q,I,hf,k]=>two ho σ H _ #[ρ,O,_,I,hf,λt ht u H' s a=>by let(c,rfl,hc):=yS ht;have e:=a.2;calc#[c,e,k c hc H' s]]
def d_{f:FP}(h:VP X Z e f)(he:∀whole,isTrue e 19 whole=(do let v <- whole;standAt e.pos;holding [v] (truthy v)):=by intro _;rfl):VC X Z e (nB f) :=
 .mk λtm=>PT.weak (Ey (h tm) he) λσ H Q #[ρ,O,q,I,hf,k]=>#[ρ,O,_,I,hf,λt ht u H' s a=>by let(c,rfl,hc):=yS ht;have e:=a.2;calc#[c,e,k c hc H' s]]
def acN(f g:FB):FB:=λρ Q=>f ρ λc=>if c=true then g ρ Q else Q false
def fOr(f g:FB):FB:=λρ Q=>f ρ λc=>if c=true then Q true else g ρ Q
def acO(f:FB):FB:=λρ Q=>f ρ λc=>Q (!c)
def VW.vc{f:FB}(h:VW X Z e f):VC X Z e f:=.mk λtm=>PW.pt (h tm)
def cH{f:FB}(h:VC X Z a f):VW X Z (.BoolOp .And [a] pos) f:=.mk λtm=>pw_and1 (h tm)
def yT{f:FB}(h:VC X Z a f):VW X Z (.BoolOp .Or [a] pos) f:=.mk λtm=>pw_or1 (h tm)
def c5{rest:qap}{f g:FB}(h:VC X Z a f)(h':VW X Z (.BoolOp .And (b::rest) pos) g):VW X Z (.BoolOp .And (a::b::rest) pos) (acN f g) :=
 .mk λtm=>PW.weak (pw_and (h tm) (h' tm)) λσ H Q #[ρ,O,q,I,hf,k]=>#[ρ,O,_,I,hf,λc hc H1 s1=>by
  cases c with
  |true=>rw[ι 9] at hc ⊢;calc#[ρ,O,q,I.same s1,hc,λb hb H' s=>k b hb H' (s1.trans s)]
  |false=>rw[θ jk] at hc ⊢;calc k false hc H1 s1]
def AK{rest:qap}{f g:FB}(h:VC X Z a f)(h':VW X Z (.BoolOp .Or (b::rest) pos) g):VW X Z (.BoolOp .Or (a::b::rest) pos) (fOr f g) :=
 .mk λtm=>PW.weak (pw_or (h tm) (h' tm)) λσ H Q #[ρ,O,q,I,hf,k]=>#[ρ,O,_,I,hf,λc hc H1 s1=>by
  cases c with
  |true=>rw[ι 9] at hc ⊢;calc k true hc H1 s1
  |false=>rw[θ jk] at hc ⊢;calc#[ρ,O,q,I.same s1,hc,λb hb H' s=>k b hb H' (s1.trans s)]]
def tq{f:FB}(h:VC X Z a f):VC X Z (.UnaryOp .Not a pos) (acO f) :=
 .mk λtm=>PT.weak (O6 (h tm)) λσ H Q #[ρ,O,q,I,hf,k]=>#[ρ,O,_,I,hf,λc hc H1 s1=>k _ hc H1 s1]
def U1(f g:FP):FP:=λρ Q=>f ρ λr=>match r with
 |.vw (.bl true)=>g ρ Q
 |.vw (.bl false)=>Q (.vw (.bl false))
 |_=>False
def PZ(f g:FP):FP:=λρ Q=>f ρ λr=>match r with
 |.vw (.bl true)=>Q (.vw (.bl true))
 |.vw (.bl false)=>g ρ Q
 |_=>False
def U2(f:FP):FP:=λρ Q=>f ρ λr=>match r with
 |.vw (.bl c)=>Q (.vw (.bl (!c)))
 |_=>False
def Fh{op}{f:FP}(h:VP X Z a f):VP X Z (.BoolOp op [a] pos) f:=.mk λtm=>O7 (h tm)
def Fi{rest:qap}{f g:FP}(h:VP X Z a f)(h':VP X Z (.BoolOp .And (b::rest) pos) g):VP X Z (.BoolOp .And (a::b::rest) pos) (U1 f g) :=
 .mk λtm=>PE.weak (O8 (h tm) (h' tm)) λσ H Q #[ρ,O,q,I,hf,k]=>#[ρ,O,_,I,hf,λr hr v H1 s1 z=>by split at hr;have e:=z.2;simp only[At] at e;calc#[true,e,by rw[ι 9];calc#[ρ,O,q,I.same s1,hr,λb hb v H' s=>k b hb v H' (s1.trans s)]];have e:=z.2;simp only[At] at e;calc#[false,e,by rw[θ jk];calc k _ hr _ H1 s1 #[I.same s1,dO]];calc hr.elim]
def U3{rest:qap}{f g:FP}(h:VP X Z a f)(h':VP X Z (.BoolOp .Or (b::rest) pos) g):VP X Z (.BoolOp .Or (a::b::rest) pos) (PZ f g) :=
 .mk λtm=>PE.weak (T_ (h tm) (h' tm)) λσ H Q #[ρ,O,q,I,hf,k]=>#[ρ,O,_,I,hf,λr hr v H1 s1 z=>by split at hr;have e:=z.2;simp only[At] at e;calc#[true,e,by rw[ι 9];calc k _ hr _ H1 s1 #[I.same s1,dO]];have e:=z.2;simp only[At] at e;calc#[false,e,by rw[θ jk];calc#[ρ,O,q,I.same s1,hr,λb hb v H' s=>k b hb v H' (s1.trans s)]];calc hr.elim]
def P0{f:FP}(h:VP X Z a f):VP X Z (.UnaryOp .Not a pos) (U2 f) :=
 .mk λtm=>PE.weak (O9 (h tm)) λσ H Q #[ρ,O,q,I,hf,k]=>#[ρ,O,_,I,hf,λr hr v H1 s1 z=>by split at hr;have e:=z.2;simp only[At] at e;calc#[_,e,k _ hr _ H1 s1 #[I.same s1,dO]];calc hr.elim]
def fIf(c:FB)(f g:FP):FP:=λρ Q=>c ρ λb=>if b=true then f ρ Q else g ρ Q
def NF{fc:FB}{f g:FP}(hc:VC X Z c fc)(h:VP X Z a f)(h':VP X Z b g):VP X Z (.IfExp c a b pos) (fIf fc f g) :=
 .mk λtm=>PE.weak (Ez (hc tm) (h tm) (h' tm)) λσ H Q #[ρ,O,q,I,hf,k]=>#[ρ,O,_,I,hf,λc hc H1 s1=>by
  cases c with
  |true=>rw[ι 9] at hc ⊢;calc#[ρ,O,q,I.same s1,hc,λb hb v H' s=>k b hb v H' (s1.trans s)]
  |false=>rw[θ jk] at hc ⊢;calc#[ρ,O,q,I.same s1,hc,λb hb v H' s=>k b hb v H' (s1.trans s)]]
def tu:FA:=λ_ Q=>Q []
def fS(f:FE)(g:FA):FA:=λρ Q=>f ρ λt=>g ρ λts=>Q (t::ts)
def aj:VA X Z [] tu:=.mk λtm=>PA.weak cQ λσ H Q #[ρ,O,q,I,hf,k]=>k _ hf [] H 43 aB.nil
def aa{f:FE}{g:FA}(h:VE X Z e f)(h':VA X Z es g)(hs:starEach (e::es) 19=(false,eval e 19)::starEach es 19:=by rfl):VA X Z (e::es) (fS f g) :=
 .mk λtm=>PA.weak (bw (h tm) (h' tm) hs) λσ H Q #[ρ,O,q,I,hf,k]=>#[ρ,O,_,I,hf,λt ht v H1 s1 a1=>#[ρ,O,_,I.same s1,ht,λts gw vs H2 s2 a2=>k _ gw _ H2 (s1.trans s2) (aB.cons (a1.same s2) a2)]]
def aM:S8 X Z [] tu:=.mk λtm=>PA.weak cQ λσ H Q #[ρ,O,q,I,hf,k]=>k _ hf [] H 43 .nil
def aH{f:FE}{g:FA}(h:VR X Z e f)(h':S8 X Z es g)(hs:starEach (e::es) 19=(false,eval e 19)::starEach es 19:=by rfl):S8 X Z (e::es) (fS f g) :=
 .mk λtm=>PA.weak (bw (h tm) (h' tm) hs) λσ H Q #[ρ,O,q,I,hf,k]=>#[ρ,O,_,I,hf,λt ht v H1 s1 a1=>#[ρ,O,_,I.same s1,ht,λts gw vs H2 s2 a2=>k _ gw _ H2 (s1.trans s2) (.cons (a1.same s2) a2)]]
def U4(g:FA):FP:=λρ Q=>g ρ λts=>27<=sizeLine/\Q (.vw (.tup ts))
def acP(g:FA):FP:=λρ Q=>g ρ λts=>27<=sizeLine/\Q (.fr (.lst ts))
def aU{g:FA}{x1}(h:VA X Z es g):VP X Z (.Tuple es x1 pos) (U4 g) :=
 .mk λtm=>PE.weak (jT (h tm)) λσ H Q #[ρ,O,q,I,hf,k]=>#[ρ,O,_,I,hf,λts gw vs H1 s1 a1=>#[by rw[a1.length];calc gw.1,λp hp=>k _ gw.2 _ _ (s1.trans (aE hp)) #[(I.same s1).same (aE hp),dg (dJ.of aG) (a1.same (aE hp))]]]
def bz{g:FA}(h:VA X Z es g):VP X Z (.List es pos) (acP g) :=
 .mk λtm=>PE.weak (PB (h tm)) λσ H Q #[ρ,O,q,I,hf,k]=>#[ρ,O,_,I,hf,λts gw vs H1 s1 a1=>#[by rw[a1.length];calc gw.1,λp hp=>k _ gw.2 _ _ (s1.trans (aE hp)) ((I.same s1).wg hp a1)]]
end
mutual
def eqT:T->T->Bool
 |.bK,.bK=>true
 |.bl a,.bl b=>a==b
 |.bl a,.int b=>(if a then 1 else 0)==b
 |.int a,.bl b=>a==(if b then 1 else 0)
 |.int a,.int b=>a==b
 |.str a,.str b=>a==b
 |.tup a,.tup b=>gj a b
 |.lst a,.lst b=>gj a b
 |_,_=>false
def gj:List T->List T->Bool
 |[],[]=>true
 |a::as,b::bs=>eqT a b && gj as bs
 |_,_=>false
end
mutual
def plainT:T->Bool
 |.tup l=>cb l
 |.lst l=>cb l
 |.dk _ _=>false
 |.dt _ _=>false
 |.df _ _ _=>false
 |.kt _=>false
 |.ins _ _ _=>false
 |.pin _ _=>false
 |.ob _=>false
 |.ty _=>false
 |_=>true
def cb:List T->Bool
 |[]=>true
 |t::ts=>plainT t && cb ts
end
mutual
def dep:T->Nat
 |.tup l=>gC l+1
 |.lst l=>gC l+1
 |_=>0
def gC:List T->Nat
 |[]=>0
 |t::ts=>max (dep t) (gC ts)
end
mutual
theorem oC:∀(t:T),plainT t=true->eqT t t=true
 |.bK,_=>by simp[eqT]
 |.bl _,_=>by simp[eqT]
 |.int _,_=>by simp[eqT]
 |.str _,_=>by simp[eqT]
 |.tup l,h=>by simp only[plainT] at h;simp only[eqT];calc lU l h
 |.lst l,h=>by simp only[plainT] at h;simp only[eqT];calc lU l h
 |.dk _ _,h=>by simp only[plainT] at h;cases h
 |.dt _ _,h=>by simp only[plainT] at h;cases h
 |.df _ _ _,h=>by simp only[plainT] at h;cases h
 |.kt _,h=>by simp only[plainT] at h;cases h
 |.ins _ _ _,h=>by simp only[plainT] at h;cases h
 |.pin _ _,h=>by simp only[plainT] at h;cases h
 |.ob _,h=>by simp only[plainT] at h;cases h
 |.ty _,h=>by simp only[plainT] at h;cases h
theorem lU:∀(t:List T),cb t=true->gj t t=true
 |[],_=>by simp[gj]
 |t::ts,h=>by simp only[cb,iE] at h;simp only[gj,iE];calc#[oC t h.1,lU ts h.2]
end
theorem kn:∀{a b:List T},gj a b=true->a.length=b.length
 |[],[],_=>rfl
 |a::as,b::bs,h=>by simp only[gj,iE] at h;simp[kn h.2]
 |[],_::_,h=>by simp[gj] at h
 |_::_,[],h=>by simp[gj] at h
theorem ko:∀{a b:List T},a.length=b.length->gj a b=(List.range a.length).all λj=>match a[j]?,b[j]? with
  |some x,some y=>eqT x y
  |_,_=>true
 |[],[],_=>by simp[gj]
 |a::as,b::bs,h=>by have ih:=ko (by simpa using h);simp only[gj];rw[ih,vI,List.range_succ_eq_map,List.all_cons,List.all_map];rfl
 |[],_::_,h=>by simp at h
 |_::_,[],h=>by simp at h
theorem wm:∀{a b:List T},gj a b=((List.range (min a.length b.length)).all (λj=>match a[j]?,b[j]? with
  |some x,some y=>eqT x y
  |_,_=>true) && a.length==b.length)
 |a,b=>by
   by_cases h:a.length=b.length;rw[ko h,h,Jn];simp;have e:(a.length==b.length)=false:=by simpa using h
   rw[e,TX];cases q:gj a b with
   |false=>rfl
   |true=>calc absurd (kn q) h
section
variable{O O':zm}
def wo(I:Inv X ε σ H s){ys:qak}(h:fQ X.K H a xs)(h':dJ X.K H a ys):False:=by let(aN,_,p,_):=I.list h;let(jr,_,p2,_):=I.tuple h';let(o,n,e,c,_):=p;let(o2,e2,c2,_):=p2;rw[e] at e2;cases e2;rw[c] at c2;exact absurd c2 5
mutual
theorem At.inj(I:Inv X ε σ H s):∀{t u:T}{v:V},plainT t=true->plainT u=true->At X.K H O t v->At X.K H O' u v->t=u
 |.bK,u,v,_,pu,h,h'=>by simp only[At] at h;subst h;cases u<;>simp only[At] at h'<;>first|rfl|(simp only[plainT] at pu;cases pu;done)|(let(_,_,e,_):=h';cases e)|(cases h';done)
 |.bl b,u,v,_,pu,h,h'=>by simp only[At] at h;subst h;cases u<;>simp only[At] at h'<;>first|(simp only[plainT] at pu;cases pu;done)|(let(_,_,e,_):=h';cases e;done)|(cases h';rfl)|(cases h';done)
 |.int b,u,v,_,pu,h,h'=>by simp only[At] at h;subst h;cases u<;>simp only[At] at h'<;>first|(simp only[plainT] at pu;cases pu;done)|(let(_,_,e,_):=h';cases e;done)|(cases h';rfl)|(cases h';done)
 |.str b,u,v,_,pu,h,h'=>by simp only[At] at h;subst h;cases u<;>simp only[At] at h'<;>first|(simp only[plainT] at pu;cases pu;done)|(let(_,_,e,_):=h';cases e;done)|(cases h';rfl)|(cases h';done)
 |.dk _ _,_,_,p,_,_,_=>by simp only[plainT] at p;cases p
 |.dt _ _,_,_,p,_,_,_=>by simp only[plainT] at p;cases p
 |.df _ _ _,_,_,p,_,_,_=>by simp only[plainT] at p;cases p
 |.kt _,_,_,p,_,_,_=>by simp only[plainT] at p;cases p
 |.ins _ _ _,_,_,p,_,_,_=>by simp only[plainT] at p;cases p
 |.pin _ _,_,_,p,_,_,_=>by simp only[plainT] at p;cases p
 |.ob _,_,_,p,_,_,_=>by simp only[plainT] at p;cases p
 |.ty _,_,_,p,_,_,_=>by simp only[plainT] at p;cases p
 |.tup ts,u,v,p,pu,h,h'=>by
  simp only[At] at h;let(a,vs,rfl,h1,h2):=h;cases u with
  |tup us=>simp only[At] at h';let(b,ws,e,g1,g2):=h';cases e;cases I.lH h1 g1;simp only[plainT] at p pu;rw[aB.inj I p pu h2 g2]
  |lst us=>simp only[At] at h';let(b,ws,e,g1,g2):=h';cases e;calc (wo I g1.sq h1).elim
  |dk _ _=>simp only[plainT] at pu;cases pu
  |dt _ _=>simp only[plainT] at pu;cases pu
  |df _ _ _=>simp only[plainT] at pu;cases pu
  |kt _=>simp only[plainT] at pu;cases pu
  |ins _ _ _=>simp only[plainT] at pu;cases pu
  |pin _ _=>simp only[plainT] at pu;cases pu
  |ob _=>simp only[plainT] at pu;cases pu
  |ty _=>simp only[plainT] at pu;cases pu
  |_=>simp only[At] at h';cases h'
 |.lst ts,u,v,p,pu,h,h'=>by
  simp only[At] at h;let(a,vs,rfl,h1,h2):=h;cases u with
  |lst us=>simp only[At] at h';let(b,ws,e,g1,g2):=h';cases e;cases I.j_ h1.sq g1.sq;simp only[plainT] at p pu;rw[aB.inj I p pu h2 g2]
  |tup us=>simp only[At] at h';let(b,ws,e,g1,g2):=h';cases e;calc (wo I h1.sq g1).elim
  |dk _ _=>simp only[plainT] at pu;cases pu
  |dt _ _=>simp only[plainT] at pu;cases pu
  |df _ _ _=>simp only[plainT] at pu;cases pu
  |kt _=>simp only[plainT] at pu;cases pu
  |ins _ _ _=>simp only[plainT] at pu;cases pu
  |pin _ _=>simp only[plainT] at pu;cases pu
  |ob _=>simp only[plainT] at pu;cases pu
  |ty _=>simp only[plainT] at pu;cases pu
  |_=>simp only[At] at h';cases h'
theorem aB.inj(I:Inv X ε σ H s):∀{ts us:List T}{vs:qak},cb ts=true->cb us=true->aB X.K H O ts vs->aB X.K H O' us vs->ts=us
 |[],[],_,_,_,_,_=>rfl
 |[],_::_,_,_,_,h,h'=>by simp only[aB] at h h';subst h;let(_,_,e,_):=h';cases e
 |_::_,[],_,_,_,h,h'=>by simp only[aB] at h h';subst h';let(_,_,e,_):=h;cases e
 |t::ts,u::us,_,p,pu,h,h'=>by simp only[aB] at h h';simp only[cb,iE] at p pu;let(v,r,rfl,h1,h2):=h;let(v',r',e,g1,g2):=h';cases e;rw[At.inj I p.1 pu.1 h1 g1,aB.inj I p.2 pu.2 h2 g2]
end
theorem kq:∀{ts:List T}{j:Nat}{x:T},ts[j]?\x->dep x<=gC ts
 |[],_,_,h=>by simp at h
 |t::ts,0,x,h=>by simp at h;subst h;simp only[gC];lia
 |t::ts,j+1,x,h=>by have:=kq (by simpa using h);simp only[gC];lia
theorem cJ:∀{ts:List T}{j:Nat}{x:T},cb ts=true->ts[j]?\x->plainT x=true
 |[],_,_,_,h=>by simp at h
 |t::ts,0,x,p,h=>by simp at h;subst h;simp only[cb,iE] at p;calc p.1
 |t::ts,j+1,x,p,h=>by simp only[cb,iE] at p;calc cJ p.2 (by simpa using h)
def in1_units(A:Around):A.in1.units=A.units+1:=by first|rfl|simp[Around.in1,Around.units]
def kr(I:Inv X ε σ H s){ts us:List T}{ws:qak}{aN jr:qag}(h1:aB X.K H O ts vs)(h2:aB X.K H O' us ws)(r1:Vals vs aN)(r2:Vals ws jr)(key:∀(j:Nat) x y v w u u',ts[j]?\x->us[j]?\y->At X.K H O x v->At X.K H O' y w->RelV v u->RelV w u'->SeqAt.EqAt A s u u' (eqT x y)) :
  ∀(j:Nat)(g1:j<aN.toArray.size)(g2:j<jr.toArray.size),SeqAt.EqAt A s aN.toArray[j] jr.toArray[j] (match ts[j]?,us[j]? with
   |some x,some y=>eqT x y
   |_,_=>true):=λj g1 g2=>by
 have l1:=h1.length;have l2:=h2.length;have m1:=r1.length;have m2:=r2.length;simp only[iD] at g1 g2;have e1:ts[j]?\ts[j]'():=by simp
 have e2:us[j]?\us[j]'():=by simp
 let(v,a1,a2):=h1.get e1;let(w,b1,b2):=h2.get e2;let(u,c1,c2):=r1.get a1;let(u',d1,d2):=r2.get b1;have f1:aN.toArray[j]=u:=by rw[f_ ()] at c1;simpa using c1
 have f2:jr.toArray[j]=u':=by rw[f_ ()] at d1;simpa using d1
 rw[f1,f2,e1,e2];calc key j _ _ v w u u' e1 e2 a2 b2 c2 d2
def oE{O:zm}(I:Inv X ε σ H s){u:T}{w:V}{b:Value}(pu:plainT u=true)(hw:At X.K H O u w)(r:RelV w b):(u=.bK/\b=.none)\/(∃c,u=.bl c/\b=.bool c)\/(∃c t,u=.int c/\b=.int c t)\/(∃c t,u=.str c/\b=.str c t)\/(∃l p xs,u=.tup l/\b=.ref p/\s.heap.IsTuple p xs)\/∃l p xs,u=.lst l/\b=.ref p/\s.heap.IsList p xs:=by
 cases u with
 |tup l=>simp only[At] at hw;let(p,ws,rfl,q,_):=hw;cases r;let(_,_,p1,_):=I.tuple q;calc .inr (.inr (.inr (.inr (.inl #[l,p,_,9,9,p1]))))
 |lst l=>simp only[At] at hw;let(p,ws,rfl,q,_):=hw;cases r;let(_,_,p1,_):=I.list q.sq;calc .inr (.inr (.inr (.inr (.inr #[l,p,_,9,9,p1.isList]))))
 |bK=>simp only[At] at hw;subst hw;cases r;calc .inl #[9,9]
 |bl c=>simp only[At] at hw;subst hw;cases r;calc .inr (.inl #[c,9,9])
 |int c=>simp only[At] at hw;subst hw;let(t,rfl):=r;calc .inr (.inr (.inl #[c,t,9,9]))
 |str c=>simp only[At] at hw;subst hw;let(t,rfl):=r;calc .inr (.inr (.inr (.inl #[c,t,9,9])))
 |_=>simp only[plainT] at pu;cases pu
def AL(I:Inv X ε σ H s){t u:T}{w:V}{a b:Value}(gk:A.units<cLine)(key:∀(x y:T) (v w:V) (a b:Value),dep x+1<=dep t->plainT x=true->plainT y=true->At X.K H O x v->At X.K H O' y w->RelV v a->RelV w b->SeqAt.EqAt A.in1 s a b (eqT x y))(pt:plainT t=true)(pu:plainT u=true)(ht:At X.K H O t v)(hw:At X.K H O' u w)(rv:RelV v a)(rw':RelV w b):SeqAt.RcAt A s a b (eqT t u):=by
 rcases oE I pt ht rv with⟨rfl,rfl⟩|⟨d,rfl,rfl⟩|⟨d,_,rfl,rfl⟩|⟨d,_,rfl,rfl⟩|⟨l,p,_,rfl,rfl,h⟩|⟨l,p,_,rfl,rfl,h⟩<;>rcases oE I pu hw rw' with⟨rfl,rfl⟩|⟨c,rfl,rfl⟩|⟨c,_,rfl,rfl⟩|⟨c,_,rfl,rfl⟩|⟨l',p',_,rfl,rfl,h'⟩|⟨l',p',_,rfl,rfl,h'⟩<;>simp only[eqT]
 calc .none_none;calc .none_bool _;calc .none_int _ _;calc .none_str _ _;calc .none_tuple h' gk;calc .none_list h' gk;calc .bool_none _;calc .bool_bool _ _;calc .bool_int _ _ _;calc .bool_str _ _ _;calc .bool_tuple _ h' gk;calc .bool_list _ h' gk;calc .int_none _ _;calc .int_bool _ _ _;calc .int_int _ _ _ _;calc .int_str _ _ _ _;calc .int_tuple _ _ h' gk;calc .int_list _ _ h' gk;calc .str_none _ _;calc .str_bool _ _ _;calc .str_int _ _ _ _;calc .str_str _ _ _ _;calc .str_tuple _ _ h' gk;calc .str_list _ _ h' gk;calc .tuple_none h gk;calc .tuple_bool _ h gk;calc .tuple_int _ _ h gk;calc .tuple_str _ _ h gk;simp only[plainT] at pt pu;let(_,vs,rfl,h1,h2):=ht;let(_,ws,rfl,g1,g2):=hw;cases rv;cases rw';have e3:=h2.length;have e4:=g2.length;let(aN,r1,p1,_):=I.tuple h1;let(jr,r2,p2,_):=I.tuple g1;have e1:=r1.length;have e2:=r2.length;have:=SeqAt.RcAt.tuples p1 p2 gk (kr I h2 g2 r1 r2 λj x y v w u u' e1 e2 a1 a2 b1 b2=>key x y v w u u' (jR (Nat.succ_le_succ (kq e1)) (by simp only[dep];lia)) (cJ pt e1) (cJ pu e2) a1 a2 b1 b2);simp only[iD] at this;rw[<- e1,<- e2,e3,e4] at this;rw[wm];calc this;calc .tuple_list h h' gk;calc .list_none h gk;calc .list_bool _ h gk;calc .list_int _ _ h gk;calc .list_str _ _ h gk;calc .list_tuple h h' gk;simp only[plainT] at pt pu;let(_,vs,rfl,h1,h2):=ht;let(_,ws,rfl,g1,g2):=hw;cases rv;cases rw';have e3:=h2.length;have e4:=g2.length;let(aN,r1,p1,_):=I.list h1.sq;let(jr,r2,p2,_):=I.list g1.sq;have e1:=r1.length;have e2:=r2.length;by_cases hl:l.length=l'.length;have:=SeqAt.RcAt.lists p1.isList p2.isList (by simp only[iD];lia) gk (kr I h2 g2 r1 r2 λj x y v w u u' e1 e2 a1 a2 b1 b2=>key x y v w u u' (jR (Nat.succ_le_succ (kq e1)) (by simp only[dep];lia)) (cJ pt e1) (cJ pu e2) a1 a2 b1 b2);simp only[iD] at this;rw[<- e1,e3] at this;rw[ko hl];calc this;have:gj l l'=false:=by
  cases q:gj l l' with
  |false=>rfl
  |true=>exact absurd (kn q) hl
 rw[this];calc SeqAt.RcAt.lists_lengths p1.isList p2.isList (by simp only[iD];rw[bne_iff_ne];lia) gk
theorem Fj{a b:Value}{k:Bool}(h:SeqAt.RcAt A s a b k)(g:a=b->k=true)(f:∀x t,a≠.float x t):SeqAt.EqAt A s a b k:=λprog w E Q hq=>by
 show v9 (wpAny_ite_split (λe=>?_) λ_=>?_);rw[g (eq_of_beq e)] at hq;calc ζ (aah (η hq));cases a with
 |float x t=>calc absurd 9 (f x t)
 |_=>calc ζ (h prog w E _ (Ξ hq))
def yU(I:Inv X ε σ H s)(n:Nat):∀(t u:T)(v w:V)(a b:Value)(A:Around),dep t<=n->A.units+n<cLine->plainT t=true->plainT u=true->At X.K H O t v->At X.K H O' u w->RelV v a->RelV w b->SeqAt.EqAt A s a b (eqT t u):=by
 induction n using Nat.strongRecOn with
 |_ n ih=>intro t u v w a b A hd hu pt pu ht hw rv rw';show Fj (AL I () (λx y v w a b h=>?_) pt pu ht hw rv rw') (λe=>?_) λx t e=>?_;calc ih (n-1) () x y v w a b A.in1 () (by rw[in1_units];lia);subst e;cases rv.inj rw';cases At.inj I pt pu ht hw;calc oC _ pt;rcases oE I pt ht rv with⟨_,h⟩|⟨_,_,h⟩|⟨_,_,_,h⟩|⟨_,_,_,h⟩|⟨_,_,_,_,h,_⟩|⟨_,_,_,_,h,_⟩<;>cases e.symm.trans h
end
section
variable{O O':zm}
theorem P4(I:Inv X ε σ H s)(t u:T)(v w:V)(a b:Value)(A:Around)(hd:dep t<=100)(hu:A.units+101<cLine)(pt:plainT t=true)(pu:plainT u=true)(ht:At X.K H O t v)(hw:At X.K H O' u w)(rv:RelV v a)(rw':RelV w b):SeqAt.RcAt A s a b (eqT t u) :=
 AL I () (λx y v w a b h=>yU I 100 x y v w a b A.in1 () (by rw[in1_units];lia)) pt pu ht hw rv rw'
theorem P5(I:Inv X ε σ H s)(t u:T)(v w:V)(a b:Value)(A:Around)(hd:dep t<=100)(hu:A.units+101<cLine)(pt:plainT t=true)(pu:plainT u=true)(ht:At X.K H O t v)(hw:At X.K H O' u w)(rv:RelV v a)(rw':RelV w b):SeqAt.RcNeAt A s a b (!eqT t u):=by
 have gk:A.units<cLine:=by lia
 have gP:A.in1.units+100<cLine:=by rw[in1_units];lia
 rcases oE I pt ht rv with⟨rfl,rfl⟩|⟨d,rfl,rfl⟩|⟨d,_,rfl,rfl⟩|⟨d,_,rfl,rfl⟩|⟨l,p,_,rfl,rfl,h⟩|⟨l,p,_,rfl,rfl,h⟩<;>rcases oE I pu hw rw' with⟨rfl,rfl⟩|⟨c,rfl,rfl⟩|⟨c,_,rfl,rfl⟩|⟨c,_,rfl,rfl⟩|⟨l',p',_,rfl,rfl,h'⟩|⟨l',p',_,rfl,rfl,h'⟩<;>simp only[eqT]
 calc .none_none;calc .none_bool _;calc .none_int _ _;calc .none_str _ _;calc .none_tuple h' gk;calc .none_list h' gk;calc .bool_none _;calc .bool_bool _ _;calc .bool_int _ _ _;calc .bool_str _ _ _;calc .bool_tuple _ h' gk;calc .bool_list _ h' gk;calc .int_none _ _;calc .int_bool _ _ _;calc .int_int _ _ _ _;calc .int_str _ _ _ _;calc .int_tuple _ _ h' gk;calc .int_list _ _ h' gk;calc .str_none _ _;calc .str_bool _ _ _;calc .str_int _ _ _ _;calc .str_str _ _ _ _;calc .str_tuple _ _ h' gk;calc .str_list _ _ h' gk;calc .tuple_none h gk;calc .tuple_bool _ h gk;calc .tuple_int _ _ h gk;calc .tuple_str _ _ h gk;simp only[plainT] at pt pu;simp only[dep] at hd;let(_,vs,rfl,h1,h2):=ht;let(_,ws,rfl,g1,g2):=hw;cases rv;cases rw';have e3:=h2.length;have e4:=g2.length;let(aN,r1,p1,_):=I.tuple h1;let(jr,r2,p2,_):=I.tuple g1;have e1:=r1.length;have e2:=r2.length;have:=SeqAt.RcNeAt.tuples p1 p2 gk (kr I h2 g2 r1 r2 λj x y v w u u' e1 e2 a1 a2 b1 b2=>yU I 100 x y v w u u' A.in1 (jR (kq e1) ()) gP (cJ pt e1) (cJ pu e2) a1 a2 b1 b2);simp only[iD] at this;rw[<- e1,<- e2,e3,e4] at this;rw[wm];calc this;calc .tuple_list h h' gk;calc .list_none h gk;calc .list_bool _ h gk;calc .list_int _ _ h gk;calc .list_str _ _ h gk;calc .list_tuple h h' gk;simp only[plainT] at pt pu;simp only[dep] at hd;let(_,vs,rfl,h1,h2):=ht;let(_,ws,rfl,g1,g2):=hw;cases rv;cases rw';have e3:=h2.length;have e4:=g2.length;let(aN,r1,p1,_):=I.list h1.sq;let(jr,r2,p2,_):=I.list g1.sq;have e1:=r1.length;have e2:=r2.length;by_cases hl:l.length=l'.length;have:=SeqAt.RcNeAt.lists p1.isList p2.isList (by simp only[iD];lia) gk (kr I h2 g2 r1 r2 λj x y v w u u' e1 e2 a1 a2 b1 b2=>yU I 100 x y v w u u' A.in1 (jR (kq e1) ()) gP (cJ pt e1) (cJ pu e2) a1 a2 b1 b2);simp only[iD] at this;rw[<- e1,e3] at this;rw[ko hl];calc this;have:gj l l'=false:=by
  cases q:gj l l' with
  |false=>rfl
  |true=>exact absurd (kn q) hl
 rw[this];calc SeqAt.RcNeAt.lists_lengths p1.isList p2.isList (by simp only[iD];rw[bne_iff_ne];lia) gk
def gB.bare{A:zm}{t:T}(h:gB K H A t v):At K H [] t v:=by
 obtain h|⟨a,rfl,h⟩:=h
 calc At.br (λ_ z=>absurd z eG) h;calc (cT.br h (λ_ z=>absurd z eG)).at eG
def Kx(K:qaf)(neg:Bool):R2:=λx y H Q=>E2 λt u=>At K H [] t x/\At K H [] u y/\plainT t=true/\plainT u=true/\dep t<=100/\Q (.bl (if neg then !eqT t u else eqT t u)) H
def Fm(hu:X.A.units+101<cLine):eX X (compareOp .Eq) (Kx X.K false):=by intro ε s σ H x y v u Q I rx ry #[t,t',h1,h2,p1,p2,d,q];calc P4 I t t' x y v u X.A d hu p1 p2 h1 h2 rx ry 39 X.w X.xe _ #[.bl _,H,I,9,q]
def Fn(hu:X.A.units+101<cLine):eX X (compareOp .NotEq) (Kx X.K true):=by intro ε s σ H x y v u Q I rx ry #[t,t',h1,h2,p1,p2,d,q];calc P5 I t t' x y v u X.A d hu p1 p2 h1 h2 rx ry 39 X.w X.xe _ #[.bl _,H,I,9,q]
end
def U5(x y:T)(q:Rt->Prop):Prop:=match x,y with
 |.int i,.int j=>q (.vw (.bl (decide (i=j))))
 |.str i,.str j=>q (.vw (.bl (decide (i=j))))
 |.bl i,.bl j=>q (.vw (.bl (decide (i=j))))
 |x,y=>plainT x=true/\plainT y=true/\dep x<=100/\q (.vw (.bl (eqT x y)))
def Kz(x y:T)(q:Rt->Prop):Prop:=match x,y with
 |.int i,.int j=>q (.vw (.bl (!decide (i=j))))
 |.str i,.str j=>q (.vw (.bl (!decide (i=j))))
 |.bl i,.bl j=>q (.vw (.bl (!decide (i=j))))
 |x,y=>plainT x=true/\plainT y=true/\dep x<=100/\q (.vw (.bl (!eqT x y)))
def KA{x y:T}{q:Rt->Prop}(h:U5 x y q):plainT x=true/\plainT y=true/\dep x<=100/\q (.vw (.bl (eqT x y))):=by
 unfold U5 at h;split at h;calc#[9,9,e_ _,by simp only[eqT,X7];calc h];show#[9,9,e_ _,?_];have e:∀i j:Str,(i==j)=decide (i=j):=λi j=>by rw[OM];simp
 simp only[eqT,e];calc h;calc#[9,9,e_ _,by simp only[eqT,X7];calc h];calc h
def KC{x y:T}{q:Rt->Prop}(h:Kz x y q):plainT x=true/\plainT y=true/\dep x<=100/\q (.vw (.bl (!eqT x y))):=by
 unfold Kz at h;split at h;calc#[9,9,e_ _,by simp only[eqT,X7];calc h];show#[9,9,e_ _,?_];have e:∀i j:Str,(i==j)=decide (i=j):=λi j=>by rw[OM];simp
 simp only[eqT,e];calc h;calc#[9,9,e_ _,by simp only[eqT,X7];calc h];calc h
def Fo:nQ K (Kx K false) U5:=by intro Z tm O ρ σ H x y v w q Q I h1 h2 h k;let(p1,p2,d,h):=KA h;calc#[x,y,h1.bare,h2.bare,p1,p2,d,k _ h _ H 43 #[I,by rw[θ jk];calc dO]]
def Fp:nQ K (Kx K true) Kz:=by intro Z tm O ρ σ H x y v w q Q I h1 h2 h k;let(p1,p2,d,h):=KC h;calc#[x,y,h1.bare,h2.bare,p1,p2,d,k _ h _ H 43 #[I,by rw[ι 9];calc dO]]
def U6(g:Int->Int->Bool)(x y:T)(q:Rt->Prop):Prop:=match x,y with
 |.int i,.int j=>q (.vw (.bl (g i j)))
 |_,_=>False
def P6(x y:T)(q:Rt->Prop):Prop:=match x,y with
 |.int i,.int j=>q (.vw (.int (i-j)))
 |_,_=>False
def KD:nQ K (qp λi j=>.int (i-j)) P6:=by intro Z tm O ρ σ H x y v w q Q I h1 h2 h k;unfold P6 at h;split at h;calc#[_,_,h1.int,h2.int,k _ h _ H 43 #[I,bJ]];calc h.elim
def P7(x y:T)(q:Rt->Prop):Prop:=match x,y with
 |.int i,.int j=>EG i j/\q (.vw (.int (i * j)))
 |_,_=>False
def KG:nQ K (rI EG λi j=>.int (i * j)) P7:=by intro Z tm O ρ σ H x y v w q Q I h1 h2 h k;unfold P7 at h;split at h;calc#[_,_,h1.int,h2.int,h.1,k _ h.2 _ H 43 #[I,bJ]];calc h.elim
def P8(x y:T)(q:Rt->Prop):Prop:=match x,y with
 |.int i,.int j=>(0<j/\j<1073741824)/\q (.vw (.int (i / j)))
 |_,_=>False
def KH:nQ K (rI Uh λi j=>.int (i / j)) P8:=by intro Z tm O ρ σ H x y v w q Q I h1 h2 h k;unfold P8 at h;split at h;calc#[_,_,h1.int,h2.int,h.1,k _ h.2 _ H 43 #[I,bJ]];calc h.elim
def P9(x y:T)(q:Rt->Prop):Prop:=match x,y with
 |.int i,.int j=>0<j/\q (.vw (.int (i % j)))
 |_,_=>False
def KI:nQ K (rI (λ_ j=>0<j) λi j=>.int (i % j)) P9:=by intro Z tm O ρ σ H x y v w q Q I h1 h2 h k;unfold P9 at h;split at h;calc#[_,_,h1.int,h2.int,h.1,k _ h.2 _ H 43 #[I,bJ]];calc h.elim
def P_(x y:T)(q:Rt->Prop):Prop:=match x,y with
 |.int i,.int j=>(0<=j/\j<=1000000/\i.natAbs<2 ^ 64)/\q (.vw (.int (i ^ j.toNat)))
 |_,_=>False
def KJ:nQ K (rI JX λi j=>.int (i ^ j.toNat)) P_:=by intro Z tm O ρ σ H x y v w q Q I h1 h2 h k;unfold P_ at h;split at h;calc#[_,_,h1.int,h2.int,h.1,k _ h.2 _ H 43 #[I,bJ]];calc h.elim
def Qa(x y:T)(q:Rt->Prop):Prop:=match x,y with
 |.int i,.int j=>(0<=j/\j<=1000000/\i.natAbs<2 ^ 64)/\q (.vw (.int (i * 2 ^ j.toNat)))
 |_,_=>False
def KL:nQ K (rI JX λi j=>.int (i * 2 ^ j.toNat)) Qa:=by intro Z tm O ρ σ H x y v w q Q I h1 h2 h k;unfold Qa at h;split at h;calc#[_,_,h1.int,h2.int,h.1,k _ h.2 _ H 43 #[I,bJ]];calc h.elim
def Qb(x y:T)(q:Rt->Prop):Prop:=match x,y with
 |.int i,.int j=>0<=j/\q (.vw (.int (i / 2 ^ j.toNat)))
 |_,_=>False
def KN:nQ K (rI (λ_ j=>0<=j) λi j=>.int (i / 2 ^ j.toNat)) Qb:=by intro Z tm O ρ σ H x y v w q Q I h1 h2 h k;unfold Qb at h;split at h;calc#[_,_,h1.int,h2.int,h.1,k _ h.2 _ H 43 #[I,bJ]];calc h.elim
def Fq(x y:T)(q:Rt->Prop):Prop:=match x,y with
 |.int i,.int j=>q (.vw (.int (Builtin.bitAnd i j)))
 |_,_=>False
def Fs:nQ K (qp λi j=>.int (Builtin.bitAnd i j)) Fq:=by intro Z tm O ρ σ H x y v w q Q I h1 h2 h k;unfold Fq at h;split at h;calc#[_,_,h1.int,h2.int,k _ h _ H 43 #[I,bJ]];calc h.elim
def yV(x y:T)(q:Rt->Prop):Prop:=match x,y with
 |.int i,.int j=>q (.vw (.int (Builtin.bitOr i j)))
 |_,_=>False
def AN:nQ K (qp λi j=>.int (Builtin.bitOr i j)) yV:=by intro Z tm O ρ σ H x y v w q Q I h1 h2 h k;unfold yV at h;split at h;calc#[_,_,h1.int,h2.int,k _ h _ H 43 #[I,bJ]];calc h.elim
def pLt(x y:T)(q:Rt->Prop):Prop:=match x,y with
 |.int i,.int j=>q (.vw (.bl (decide (i<j))))
 |_,_=>False
def Qc:nQ K (qp λi j=>.bl (decide (i<j))) pLt:=by intro Z tm O ρ σ H x y v w q Q I h1 h2 h k;unfold pLt at h;split at h;calc#[_,_,h1.int,h2.int,k _ h _ H 43 #[I,dO]];calc h.elim
def pGt(x y:T)(q:Rt->Prop):Prop:=match x,y with
 |.int i,.int j=>q (.vw (.bl (decide (j<i))))
 |_,_=>False
def Qd:nQ K (qp λi j=>.bl (decide (j<i))) pGt:=by intro Z tm O ρ σ H x y v w q Q I h1 h2 h k;unfold pGt at h;split at h;calc#[_,_,h1.int,h2.int,k _ h _ H 43 #[I,dO]];calc h.elim
def NG(x y:T)(q:Rt->Prop):Prop:=match x,y with
 |.int i,.int j=>q (.vw (.int (i+j)))
 |_,_=>False
def Ft:nQ K (qp λi j=>.int (i+j)) NG:=by intro Z tm O ρ σ H x y v w q Q I h1 h2 h k;unfold NG at h;split at h;calc#[_,_,h1.int,h2.int,k _ h _ H 43 #[I,bJ]];calc h.elim
def NH(K:qaf):R2:=λx y H Q=>∃l b xs zs,x=.ref l/\y=.ref b/\fQ K H l xs/\fQ K H b zs/\34+zs.length<=sizeLine/\∀p,H p=none->Q (.ref p) (upd H p (.lst (xs++zs)))
def NI(K:qaf):R2:=λx y H Q=>∃a b xs ys,x=.ref a/\y=.ref b/\dJ K H a xs/\dJ K H b ys/\34+ys.length<=sizeLine/\(xs=[]->Q (.ref b) H)/\(xs≠[]->ys=[]->Q (.ref a) H)/\(xs≠[]->ys≠[]->∀p,H p=none->Q (.ref p) (upd H p (.tup (xs++ys))))
section
def KO:eX X (binaryOp .Add) (NH X.K):=by
 intro ε s σ H x y v u Q I rx ry h;let(l,b,xs,zs,rfl,rfl,hH,hB,hz,q):=h;cases rx;cases ry;let(aN,r,p1,z1):=I.list hH;let(jr,r2,p2,z2):=I.list hB;let((cls,dd,data,sl),n,ho,hc,_,hd):=p1;let((Uu,SW,data2,SX),n2,yg,Kg,_,hd2):=p2;subst hc hd Kg hd2;have l1:=r.length;have l2:=r2.length;have e:aN.toArray++jr.toArray=(aN++jr).toArray:=by simp
 show concat_meets #[_,ho,9] #[_,yg,9] noFill_list_add seq_list_add PySem.F.slot_list_add PySem.F.entry_list_add (PySem.F.args_list_add_2 _ _) (list_addW l b aN.toArray jr.toArray n n2 dd SW sl SX (by simp only[iD];lia)) #[ho,yg,?_];rw[e];calc#[.ref _,_,I.UG (r.append r2) (by rw[lq];lia),9,q _ I.fresh]
def KP:eX X (binaryOp .Add) (NI X.K):=by
 intro ε s σ H x y v u Q I rx ry h;let(a,b,xs,ys,rfl,rfl,ha,hb,hz,q0,q1,q2):=h;cases rx;cases ry;let(aN,r1,p1,_):=I.tuple ha;let(jr,r2,p2,_):=I.tuple hb;by_cases hx:xs=[];let((cls,dd,data,sl),ho,hc,n,hd):=id p1;let((Uu,SW,data2,SX),yg,Kg,n2,hd2):=id p2;subst hc hd Kg hd2;exact concat_meets #[_,ho,9] #[_,yg,9] noFill_tuple_add seq_tuple_add Zl Zi (Zg _ _)
  (tuple_addW0 a b aN.toArray jr.toArray n n2 dd SW sl SX (by simp[r1.gY.mpr hx])) #[ho,yg,#[.ref b,H,I,9,q0 hx]]
 show HT.Ke p1 p2 (λz=>hx (r1.gY.mp z)) (λz=>#[.ref a,H,I,9,q1 hx (r2.gY.mp z)]) (λz=>#[.ref 8,_,I.laid (λb ob q=>c9 _ q) (cv _) ?_,9,q2 hx (λw=>z (r2.gY.mpr w)) _ (I.bC.fresh (cv _))]) (by rw[<- r1.length,<- r2.length];calc hz);calc#[by rw[lq];calc hz,_,r1.append r2,IsTup.new _ _]
end
def NJ(K:qaf):R2:=λx y H Q=>qp (λi j=>.int (i+j)) x y H Q\/(λx y H Q=>∃i j,x=.str i/\y=.str j/\i.length+j.length<=sizeLine/\Q (.str (i++j)) H) x y H Q\/NH K x y H Q\/NI K x y H Q
def KQ:eX X (binaryOp .Add) (NJ X.K):=eX.or Pm (eX.or yB (eX.or KO KP))
def Qe(x y:T)(q:Rt->Prop):Prop:=match x,y with
 |.int i,.int j=>q (.vw (.int (i+j)))
 |.str i,.str j=>i.length+j.length<=sizeLine/\q (.vw (.str (i++j)))
 |.lst a,.lst b=>a.length+b.length<=sizeLine/\q (.fr (.lst (a++b)))
 |.tup a,.tup b=>a.length+b.length<=sizeLine/\q (.vw (.tup (a++b)))
 |_,_=>False
def KR:nQ K (NJ K) Qe:=by
 intro Z tm O ρ σ H x y v w q Q I h1 h2 h k;unfold Qe at h;split at h;calc .inl #[_,_,h1.int,h2.int,k _ h _ H 43 #[I,bJ]];calc .inr (.inl #[_,_,h1.str,h2.str,h.1,k _ h.2 _ H 43 #[I,d9]]);let(a,vs,rfl,s1,a1):=h1.lst;let(b,ws,rfl,s2,a2):=h2.lst;calc .inr (.inr (.inl #[a,b,vs,ws,9,9,s1,s2,by rw[a1.length,a2.length];calc h.1,λp hp=>k _ h.2 _ _ (aE hp) (I.wg hp (a1.append a2))]));let(a,vs,rfl,s1,a1):=h1.tup;let(b,ws,rfl,s2,a2):=h2.tup;show .inr (.inr (.inr #[a,b,vs,ws,9,9,s1,s2,by rw[a1.length,a2.length];calc h.1,λe=>?_,λ_ e=>?_,λ_ _ p hp=>?_]));subst e;have e:=a1.length
 rename_i xs ys
 have e':=Ni.mp e.symm;subst e';calc k _ h.2 _ H 43 #[I,dg s2 a2];subst e;have e:=a2.length
 rename_i xs ys _
 have e':=Ni.mp e.symm;subst e';calc k _ h.2 _ H 43 #[I,by rw[As];calc dg s1 a1];calc k _ h.2 _ _ (aE hp) #[I.same (aE hp),dg (dJ.of aG) ((a1.append a2).same (aE hp))];calc h.elim
section
variable{Z:Zc}{a:Expr}{pos:Pos}{fa fb:FE}
def bQ(ha:VR X Z a fa)(hb:VR X Z b fb):VP X Z (.BinOp a .Add b pos) (f2 fa fb Qe):=gi KQ KR ha hb
def jX(ha:VR X Z a fa)(hb:VR X Z b fb):VP X Z (.BinOp a .Sub b pos) (f2 fa fb P6):=gi Pn KD ha hb
def eh(ha:VR X Z a fa)(hb:VR X Z b fb):VP X Z (.BinOp a .Mult b pos) (f2 fa fb P7):=gi Po KG ha hb
def ba(ha:VR X Z a fa)(hb:VR X Z b fb):VP X Z (.BinOp a .FloorDiv b pos) (f2 fa fb P8):=gi JY KH ha hb
def aS(ha:VR X Z a fa)(hb:VR X Z b fb):VP X Z (.BinOp a .Mod b pos) (f2 fa fb P9):=gi Pp KI ha hb
def jY(ha:VR X Z a fa)(hb:VR X Z b fb):VP X Z (.BinOp a .Pow b pos) (f2 fa fb P_):=gi Pq KJ ha hb
def oF(ha:VR X Z a fa)(hb:VR X Z b fb):VP X Z (.BinOp a .LShift b pos) (f2 fa fb Qa):=gi Pr KL ha hb
def yW(ha:VR X Z a fa)(hb:VR X Z b fb):VP X Z (.BinOp a .RShift b pos) (f2 fa fb Qb):=gi Pt KN ha hb
def AO(ha:VR X Z a fa)(hb:VR X Z b fb):VP X Z (.BinOp a .BitAnd b pos) (f2 fa fb Fq):=gi Pu Fs ha hb
def lV(ha:VR X Z a fa)(hb:VR X Z b fb):VP X Z (.BinOp a .BitOr b pos) (f2 fa fb yV):=gi Ui AN ha hb
def acQ(f:FE):FP:=λρ Q=>f ρ λx=>match x with
 |.int i=>Q (.vw (.int (-i)))
 |_=>False
def oG(ha:VR X Z a fa):VP X Z (.UnaryOp .USub a pos) (acQ fa):=.mk λtm=>PE.weak (Ug Px (ha tm)) λσ H Q #[ρ,O,q,I,hf,k]=>#[ρ,O,_,I,hf,λt ht v H1 s1 a1=>by split at ht;calc#[_,a1.int,k _ ht _ H1 s1 #[I.same s1,bJ]];calc ht.elim]
def Fu(hu:X.A.units+101<cLine)(ha:VR X Z a fa)(hb:VR X Z b fb):VP X Z (.Compare a [.Eq] [b] pos) (f2 fa fb U5):=s_ (Fm hu) Fo ha hb (iH _)
def U7(hu:X.A.units+101<cLine)(ha:VR X Z a fa)(hb:VR X Z b fb):VP X Z (.Compare a [.NotEq] [b] pos) (f2 fa fb Kz):=s_ (Fn hu) Fp ha hb (iH _)
def bt(hu:X.A.units+101<cLine)(ha:VR X Z a fa)(hb:VR X Z b fb):VC X Z (.Compare a [.Eq] [b] pos) (nB (f2 fa fb U5)):=lT (Fm hu) Fo ha hb (iH _)
def fU(hu:X.A.units+101<cLine)(ha:VR X Z a fa)(hb:VR X Z b fb):VC X Z (.Compare a [.NotEq] [b] pos) (nB (f2 fa fb Kz)):=lT (Fn hu) Fp ha hb (iH _)
def ku(ha:VR X Z a fa)(hb:VR X Z b fb):VC X Z (.Compare a [.Lt] [b] pos) (nB (f2 fa fb pLt)):=lT Uj Qc ha hb (iH _)
def AQ(ha:VR X Z a fa)(hb:VR X Z b fb):VC X Z (.Compare a [.Gt] [b] pos) (nB (f2 fa fb pGt)):=lT Uk Qd ha hb (iH _)
def f3(fa fb fc:FE)(p p':T->T->(Rt->Prop)->Prop):FP:=λρ Q=>fa ρ λx=>fb ρ λy=>p x y λr=>match r with
 |.vw (.bl true)=>fc ρ λz=>p' y z Q
 |.vw (.bl false)=>Q (.vw (.bl false))
 |_=>False
end
def Fv{A:zm}{ts:List T}{i:Int}{t:T}(h:aB K H A ts vs)(e:iJ ts i\t):∃v,iJ vs i\v/\At K H A t v:=by
 unfold iJ at e ⊢;rw[h.length];cases q:yh ts.length i with
 |none=>rw[q] at e;cases e
 |some j=>rw[q] at e;let(v,h1,h2):=h.get e;calc#[v,h1,h2]
def Yw(x y:T)(q:Rt->Prop):Prop:=match x,y with
 |.lst ts,.int i=>∃t,iJ ts i\t/\q (.vw t)
 |.tup ts,.int i=>∃t,iJ ts i\t/\q (.vw t)
 |.str z,.int i=>z.length<=sizeLine/\∃c,iJ z.cps.toList i\c/\q (.vw (.str #[([c].toArray)]))
 |_,_=>False
def Qf:nQ K (rIx K) Yw:=by intro Z tm O ρ σ H x y v w q Q I h1 h2 h k;unfold Yw at h;split at h;let(t,e,h):=h;let(a,vs,rfl,s1,a1):=h1.lst;let(u,e',a2):=Fv a1 e;calc .inl #[a,vs,_,u,9,h2.int,s1,e',k _ h _ H 43 #[I,a2]];let(t,e,h):=h;let(a,vs,rfl,s1,a1):=h1.tup;let(u,e',a2):=Fv a1 e;calc .inr (.inl #[a,vs,_,u,9,h2.int,s1,e',k _ h _ H 43 #[I,a2]]);let(hz,c,e,h):=h;calc .inr (.inr #[_,_,c,h1.str,h2.int,hz,e,k _ h _ H 43 #[I,d9]]);calc h.elim
section
variable{Z:Zc}{a:Expr}{pos:Pos}{fa fb:FE}
def ar(ha:VR X Z a fa)(hb:VR X Z b fb)(hs:AF b:=by intro _ _;rfl):VP X Z (.Subscript a b pos) (f2 fa fb Yw) :=
 .mk λtm=>PE.weak (Uy PK (ha tm) (hb tm) hs) (two Qf)
end
abbrev FO:=En->(Option Int->Prop)->Prop
def lO(X:Cx)(Z:Zc)(tm:List (T×V))(f:FO):TO:=λσ H Q=>∃ρ O q,ax X.K Z tm O ρ σ H/\f ρ q/\∀o,q o->∀H',aP H H'->Q o H'
def VO(X:Cx)(Z:Zc)(e:Option Expr)(f:FO):Prop:=Bx λtm=>PO X e (lO X Z tm f)
instance{X:Cx}{Z:Zc}{e:Option Expr}{f:FO}:CoeFun (VO X Z e f) λ_=>∀tm,PO X e (lO X Z tm f):=#[λh=>Bx.h h]
def PO.weak{e:Option Expr}{t t':TO}(h:PO X e t)(hw:∀σ H Q,t' σ H Q->t σ H Q):PO X e t':=λε s σ H Q I q=>h ε s σ H Q I (hw _ _ _ q)
def fO0:FO:=λ_ Q=>Q none
def fO1(f:FE):FO:=λρ Q=>f ρ λt=>match t with
 |.int i=>Q (some i)
 |_=>False
def qG{α:Type}(xs:List α)(lo hi:Option Int):List α:=(xs.drop (HT.dX 34 0 lo)).take (HT.dX 34 34 hi-HT.dX 34 0 lo)
def aB.cut{A:zm}{ts:List T}(h:aB K H A ts vs)(lo hi:Option Int):aB K H A (qG ts lo hi) (Cu vs lo hi):=by unfold qG Cu;rw[h.length];calc (h.drop _).take _
def acR(K:qaf):V->Option Int->Option Int->Hp->VK->Prop:=λx lo hi H Q=>UD K x lo hi H Q\/Ux K x lo hi H Q\/UY x lo hi H Q
def acS:ER X (acR X.K):=ER.or Kn (ER.or PF PX)
def pSl(x:T)(lo hi:Option Int)(q:Rt->Prop):Prop:=match x with
 |.lst ts=>q (.fr (.lst (qG ts lo hi)))
 |.tup ts=>¬ (HT.dX 27 0 lo=0/\HT.dX 27 27 hi=27)/\q (.vw (.tup (qG ts lo hi)))
 |.str z=>z.length<=sizeLine/\q (.vw (.str (Txt.slice z lo hi)))
 |_=>False
def fSl(fa:FE)(fl fh:FO):FP:=λρ Q=>fa ρ λx=>fl ρ λlo=>fh ρ λhi=>pSl x lo hi Q
section
variable{Z:Zc}{a:Expr}{lo hi:Option Expr}{pos:Pos}{fa:FE}{fl fh:FO}
def tw:VO X Z none fO0:=.mk λtm=>PO.weak Kj λσ H Q #[ρ,O,q,I,hf,k]=>k _ hf H 43
def g7(h:VR X Z e fa):VO X Z (some e) (fO1 fa):=.mk λtm=>PO.weak (Kk (h tm)) λσ H Q #[ρ,O,q,I,hf,k]=>#[ρ,O,_,I,hf,λt ht v H' s z=>by split at ht;calc#[_,z.int,k _ ht H' s];calc ht.elim]
def iM(he:VR X Z e fa)(hl:VO X Z lo fl)(hh:VO X Z hi fh):VP X Z (.Subscript e (.Slice lo hi none p2) pos) (fSl fa fl fh) :=
 .mk λtm=>PE.weak (ES acS (he tm) (hl tm) (hh tm)) λσ H Q #[ρ,O,q,I,hf,k]=>#[ρ,O,_,I,hf,λx hx v H1 s1 a1=>#[ρ,O,_,I.same s1,hx,λl hl H2 s2=>#[ρ,O,_,(I.same s1).same s2,hl,λu hu H3 s3=>by have J:=((I.same s1).same s2).same s3;have a3:=(a1.same s2).same s3;have S:=(s1.trans s2).trans s3;unfold pSl at hu;split at hu;let(p,vs,rfl,q1,q2):=a3.lst;calc .inl #[p,vs,9,q1,λr hr=>k _ hu _ _ (S.trans (aE hr)) (J.wg hr (q2.cut _ _))];let(p,vs,rfl,q1,q2):=a3.tup;show .inr (.inl #[p,vs,9,q1,by rw[q2.length];calc hu.1,λr hr=>k _ hu.2 _ _ (S.trans (aE hr)) #[J.same (aE hr),dg (dJ.of aG) ((q2.cut _ _).same (aE hr))]]);calc .inr (.inr #[_,a3.str,hu.1,k _ hu.2 _ H3 S #[J,d9]]);calc hu.elim]]]
end
def NL(g:FA)(p:List T->(Rt->Prop)->Prop):FP:=λρ Q=>g ρ λts=>p ts Q
def iN(K:qaf)(r:qak->Hp->VK->Prop)(p:List T->(Rt->Prop)->Prop):Prop :=
 ∀(Z:Zc)(tm:List (T×V))(O:HD)(ρ:En)(σ:St)(H:Hp)(ts:List T)(vs:qak)(q:Rt->Prop)(Q:VK),ax K Z tm O ρ σ H->Paired (λv t=>gB K H (av Z O) t v) vs ts->p ts q ->
  (∀t,q t->∀u H',aP H H'->iy K Z tm O ρ σ H' t u->Q u H')->r vs H Q
section
variable{Z:Zc}{a:Expr}{pos:Pos}{g:FA}{id Ty:String}{r:qak->Hp->VK->Prop}{pp:List T->(Rt->Prop)->Prop}
def aT(hc:cV X (.builtin id) r)(ht:iN X.K r pp)(hg:Gl X x)(hm:X.mg x=none)(hv:bootBuiltins x\.builtin id)(ha:S8 X Z (e::es) g)(hn:x≠"__name__":=by decide)(qx:f9 x:=by decide)(hs:starEach (e::es) 19=(false,eval e 19)::starEach es 19:=by rfl)(jn:(backTo pos (starEach es 19)).any (·.1)=false:=by rfl):VP X Z (.Call 52 (e::es) [] pos) (NL g pp) :=
 .mk λtm=>PE.weak (oq hc hg hm hv (ha tm) hn qx hs jn) λσ H Q #[ρ,O,q,I,hf,k]=>#[ρ,O,_,I,hf,λts gw vs H1 s1 a1=>ht Z tm O ρ σ H1 ts vs q _ (I.same s1) a1 gw λt h u H' s z=>k t h u H' (s1.trans s) z]
def c0(hc:cV X (.type Ty) r)(ht:iN X.K r pp)(hg:Gl X x)(hm:X.mg x=none)(hv:bootBuiltins x\.type Ty)(ha:S8 X Z (e::es) g)(hn:x≠"__name__":=by decide)(qx:f9 x:=by decide)(hs:starEach (e::es) 19=(false,eval e 19)::starEach es 19:=by rfl)(jn:(backTo pos (starEach es 19)).any (·.1)=false:=by rfl):VP X Z (.Call 52 (e::es) [] pos) (NL g pp) :=
 .mk λtm=>PE.weak (rC hc hg hm hv (ha tm) hn qx hs jn) λσ H Q #[ρ,O,q,I,hf,k]=>#[ρ,O,_,I,hf,λts gw vs H1 s1 a1=>ht Z tm O ρ σ H1 ts vs q _ (I.same s1) a1 gw λt h u H' s z=>k t h u H' (s1.trans s) z]
end
def U8(ts:List T)(q:Rt->Prop):Prop:=match ts with
 |[.lst l]=>q (.vw (.int l.length))
 |[.tup l]=>q (.vw (.int l.length))
 |[.str z]=>z.length<=sizeLine/\q (.vw (.int z.length))
 |_=>False
def NM(K:qaf):qak->Hp->VK->Prop:=λxs H Q=>(∃p ys,xs=[.ref p]/\(fQ K H p ys\/dJ K H p ys)/\Q (.int ys.length) H)\/(∃z,xs=[.str z]/\z.length<=sizeLine/\Q (.int z.length) H)
def aX:cV X (.builtin "len") (NM X.K):=cV.or sW sX
def cx{F:α->β->Prop}{vs:List α}{t:β}(h:Paired F vs [t]):∃v,vs=[v]/\F v t:=by
 cases h with
 |cons r q=>cases q;calc#[_,9,r]
def aY:iN K (NM K) U8:=by intro Z tm O ρ σ H ts vs q Q I h hp k;unfold U8 at hp;split at hp;let(v,rfl,a):=cx h;let(p,ws,rfl,q1,q2):=a.lst;calc .inl #[p,ws,9,.inl q1,k _ hp _ H 43 #[I,by rw[q2.length];calc bJ]];let(v,rfl,a):=cx h;let(p,ws,rfl,q1,q2):=a.tup;calc .inl #[p,ws,9,.inr q1,k _ hp _ H 43 #[I,by rw[q2.length];calc bJ]];let(v,rfl,a):=cx h;calc .inr #[_,by rw[a.str],hp.1,k _ hp.2 _ H 43 #[I,bJ]];calc hp.elim
def NN(ts:List T)(q:Rt->Prop):Prop:=match ts with
 |[.lst l]=>q (.fr (.lst l))
 |[.tup l]=>q (.fr (.lst l))
 |_=>False
def dR:iN K (λxs H Q=>∃p ys,xs=[.ref p]/\(fQ K H p ys\/dJ K H p ys)/\∀l,H l=none->Q (.ref l) (upd H l (.lst ys))) NN:=by intro Z tm O ρ σ H ts vs q Q I h hp k;unfold NN at hp;split at hp;let(v,rfl,a):=cx h;let(p,ws,rfl,q1,q2):=a.lst;calc#[p,ws,9,.inl q1,λl hl=>k _ hp _ _ (aE hl) (I.wg hl q2)];let(v,rfl,a):=cx h;let(p,ws,rfl,q1,q2):=a.tup;calc#[p,ws,9,.inr q1,λl hl=>k _ hp _ _ (aE hl) (I.wg hl q2)];calc hp.elim
def Fw(ts:List T)(q:Rt->Prop):Prop:=match ts with
 |[.lst l]=>q (.vw (.tup l))
 |[.tup l]=>q (.vw (.tup l))
 |_=>False
def mM:iN K (λxs H Q=>∃p ys,xs=[.ref p]/\((fQ K H p ys/\∀l,H l=none->Q (.ref l) (upd H l (.tup ys)))\/(dJ K H p ys/\Q (.ref p) H))) Fw:=by intro Z tm O ρ σ H ts vs q Q I h hp k;unfold Fw at hp;split at hp;let(v,rfl,a):=cx h;let(p,ws,rfl,q1,q2):=a.lst;calc#[p,ws,9,.inl #[q1,λl hl=>k _ hp _ _ (aE hl) #[I.same (aE hl),dg (dJ.of aG) (q2.same (aE hl))]]];let(v,rfl,a):=cx h;let(p,ws,rfl,q1,q2):=a.tup;calc#[p,ws,9,.inr #[q1,k _ hp _ H 43 #[I,dg q1 q2]]];calc hp.elim
structure KS where
 nx:En->Prop
 rt:En->Rt->Prop
 bk:En->Prop:=λ_=>False
 ct:En->Prop:=λ_=>False
structure Fin(K:qaf)(Z:Zc)(tm:List (T×V))(d:KS)(D:Ends):Prop where
 nx:∀O ρ σ H,ax K Z tm O ρ σ H->d.nx ρ->D.nx σ H
 rt:∀O ρ σ H r v,iy K Z tm O ρ σ H r v->d.rt ρ r->D.rt v H
 bk:∀O ρ σ H,ax K Z tm O ρ σ H->d.bk ρ->D.bk σ H
 ct:∀O ρ σ H,ax K Z tm O ρ σ H->d.ct ρ->D.ct σ H
abbrev FS:=KS->En->Prop
def lS(X:Cx)(Z:Zc)(tm:List (T×V))(g:FS):TS:=λD σ H=>E3 λρ O d=>ax X.K Z tm O ρ σ H/\g d ρ/\Fin X.K Z tm d D
def VS(X:Cx)(Z:Zc)(st:Stmt)(g:FS):Prop:=Bx λtm=>PS X st (lS X Z tm g)
instance{X:Cx}{Z:Zc}{st:Stmt}{g:FS}:CoeFun (VS X Z st g) λ_=>∀tm,PS X st (lS X Z tm g):=#[λh=>Bx.h h]
def fW(X:Cx)(Z:Zc)(st:qaq)(g:FS):Prop:=Bx λtm=>jF X st (lS X Z tm g)
instance{X:Cx}{Z:Zc}{st:qaq}{g:FS}:CoeFun (fW X Z st g) λ_=>∀tm,jF X st (lS X Z tm g):=#[λh=>Bx.h h]
def bj(Z:Zc)(i:Nat):Prop:=∀p∈Z.P,p.1≠i
section
variable{Z:Zc}{st:Stmt}{g u:FS}{pos:Pos}
def U9:FS:=λd ρ=>d.nx ρ
def U_(g u:FS):FS:=λd ρ=>g {d with nx:=u d} ρ
def aJ:fW X Z [] U9:=.mk λtm=>jF.km Az λD σ H #[ρ,O,d,I,h,F]=>F.nx O ρ σ H I h
def ag(h1:VS X Z st g)(h2:fW X Z rest u):fW X Z (st::rest) (U_ g u):=.mk λtm=>jF.km (iG (h1 tm) (h2 tm)) λD σ H #[ρ,O,d,I,h,F] =>
 #[ρ,O,{d with nx:=u d},I,h,#[λO' ρ' σ' H' I' h'=>#[ρ',O',d,I',h',F],F.rt,F.bk,F.ct]]
def ak(h1:VS X Z st g):fW X Z [st] g:=.mk λtm=>ka (h1 tm)
def fW.weak(h:fW X Z rest g)(hw:∀d ρ,u d ρ->g d ρ):fW X Z rest u:=.mk λtm=>jF.km (h tm) λD σ H #[ρ,O,d,I,q,F]=>#[ρ,O,d,I,hw d ρ q,F]
def U'(f:FX):FS:=λd ρ=>f ρ λρ' _=>d.nx ρ'
def bq{f:FX}(h:VX X Z e f)(hs:swapsWith e none pos.line 19=pure false:=by rfl):VS X Z (.Expr e pos) (U' f):=.mk λtm=>PS.weak (JS (h tm) hs) λD σ H #[ρ,O,d,I,q,F] =>
 #[ρ,O,_,I,q,λρ' r hr O' v H' z=>F.nx O' ρ' σ H' z.env hr]
def acT(f:FX):FS:=λd ρ=>f ρ λρ' r=>d.rt ρ' r
def aK{f:FX}(h:VX X Z e f):VS X Z (.Return (some e) pos) (acT f):=.mk λtm=>PS.weak (yu (h tm)) λD σ H #[ρ,O,d,I,q,F] =>
 #[ρ,O,_,I,q,λρ' r hr O' v H' z=>F.rt O' ρ' σ H' r v z hr]
def gIf(c:FB)(g u:FS):FS:=λd ρ=>c ρ λb=>if b=true then g d ρ else u d ρ
def a_{fc:FB}{a b:qaq}(hc:VC X Z c fc)(ha:fW X Z a g)(hb:fW X Z b u):VS X Z (.If c a b pos) (gIf fc g u):=.mk λtm=>PS.weak (Nx (hc tm) (ha tm) (hb tm)) λD σ H #[ρ,O,d,I,q,F] =>
 #[ρ,O,_,I,q,λb hb H' s=>by
  cases b with
  |true=>rw[ι 9] at hb ⊢;calc#[ρ,O,d,I.same s,hb,F]
  |false=>rw[θ jk] at hb ⊢;calc#[ρ,O,d,I.same s,hb,F]]
def Va(i:Nat)(f:FX):FS:=λd ρ=>f ρ λρ' r=>d.nx (ρ'.set i (some (r.t,false)))
def acU(i:Nat)(f:FX):FS:=λd ρ=>f ρ λρ' r=>match r with
 |.fr t=>d.nx (ρ'.set i (some (t,true)))
 |_=>False
def ay{f:FX}(hN:X.N.Nodup)(hi:X.N[i]?\x)(hx:Loc 41 x)(he:VX X Z e f)(hp:bj Z i)(hs:swapsWith e (some (.Name x pos')) pos.line 19=pure false:=by rfl)(hf:X.fn x=true\/X.env.scope.names.lookup x\.local:=by first|calc .inl rfl|calc .inr rfl|assumption):VS X Z (.Assign [.Name x pos'] e pos) (Va i f):=.mk λtm=>PS.weak (sQ hN hi hx (he tm) hs hf) λD σ H #[ρ,O,d,I,q,F] =>
 #[ρ,O,_,I,q,λρ' r hr O' v H' z=>F.nx _ _ _ H' (z.env.put hp z.at) hr]
def cf{f:FX}(hN:X.N.Nodup)(hi:X.N[i]?\x)(hx:Loc 41 x)(he:VX X Z e f)(hp:bj Z i)(hs:swapsWith e (some (.Name x pos')) pos.line 19=pure false:=by rfl)(hf:X.fn x=true\/X.env.scope.names.lookup x\.local:=by first|calc .inl rfl|calc .inr rfl|assumption):VS X Z (.Assign [.Name x pos'] e pos) (acU i f):=.mk λtm=>PS.weak (sQ hN hi hx (he tm) hs hf) λD σ H #[ρ,O,d,I,q,F] =>
 #[ρ,O,_,I,q,λρ' r hr O' v H' z=>by split at hr;let(a,rfl,J,hR,h0,S0):=z;calc F.nx _ _ _ H' (J.acL hp hR h0 S0) hr;calc hr.elim]
def Vb(i:Nat)(f:FE)(p:T->T->(Rt->Prop)->Prop):FS:=λd ρ=>match ρ[i]? with
 |some (some (x,false))=>f ρ λy=>p x y λr=>d.nx (ρ.set i (some (r.t,false)))
 |_=>False
def Fx{f:FE}{op:Operator}{r:R2}{p:T->T->(Rt->Prop)->Prop}(hN:X.N.Nodup)(hi:X.N[i]?\x)(hx:Loc 41 x)(he:VR X Z e f)(ho:eX X (inplaceOp op) r)(ht:nQ X.K r p)(hp:bj Z i)(hf:X.fn x=true\/X.env.scope.names.lookup x\.local:=by first|calc .inl rfl|calc .inr rfl|assumption):VS X Z (.AugAssign (.Name x pos') op e pos) (Vb i f p):=.mk λtm=>PS.weak (Pc hN hi hx (he tm) ho hf) λD σ H #[ρ,O,d,I,q,F]=>by
 unfold Vb at q;split at q
 rename_i t e0
 let(o,s,h1,h2,rfl,v,rfl,h3):=I.sl i _ e0;calc#[v,h2,ρ,O,_,I,q,λy hy w H1 s1 a1=>ht Z tm O ρ σ H1 t y v w _ _ (I.same s1) (.inl (h3.same s1)) a1 hy λr hr z H2 s2 k=>F.nx _ _ _ H2 (k.env.put hp k.at) hr];calc q.elim
def acV(is:qao)(g:FS):FS:=λd ρ=>g d (is.foldl (λρ i=>match ρ[i]? with
 |some (some (t,true))=>ρ.set i (some (t,false))
 |_=>ρ) ρ)
theorem oH{K:qaf}{tm:List (T×V)}:∀(is:qao){O:HD}{ρ:En}{σ:St}{H:Hp},(∀i∈is,bj Z i)->ax K Z tm O ρ σ H->∃O',ax K Z tm O' (is.foldl (λρ i=>match ρ[i]? with
 |some (some (t,true))=>ρ.set i (some (t,false))
 |_=>ρ) ρ) σ H
 |[],O,ρ,σ,H,_,I=>#[O,I]
 |i::is,O,ρ,σ,H,hp,I=>by
  rw[JF];have Yv:=λj hj=>hp j (gT _ hj);split
  rename_i t e
  calc oH is Yv (I.jS (hp i fM) e);calc oH is Yv I
def KU(is:qao)(h:fW X Z rest g)(hp:∀i∈is,bj Z i):fW X Z rest (acV is g):=.mk λtm=>jF.km (h tm) λD σ H #[ρ,O,d,I,q,F]=>let #[O',I']:=oH is hp I;#[_,O',d,I',q,F]
end
section
variable{Z:Zc}{a:Expr}{pos:Pos}
def ax.root{tm:List (T×V)}{ρ:En}(I:ax K Z tm O ρ σ H){k:Nat}{t:T}(e:ρ[k]?\some (t,true)):∃a,O[k]?\some a/\σ[k]?\some (.ref a)/\cT K H (av Z O) a t:=by let(o,s,h1,h2,a,rfl,rfl,h3):=I.sl k _ e;calc#[a,h1,h2,h3]
def AR(k:Nat)(g:FA)(p:List T->List T->(List T->T->Prop)->Prop):FX:=λρ Q=>match ρ[k]? with
 |some (some (.lst ts,true))=>g ρ λvs=>p ts vs λgQ r=>Q (ρ.set k (some (.lst gQ,true))) (.vw r)
 |_=>False
def Vc(K:qaf)(r:V->qak->Hp->VK->Prop)(p:List T->List T->(List T->T->Prop)->Prop):Prop :=
 ∀(H:Hp)(A:zm)(l:Addr)(xs:qak)(ts us:List T)(vs:qak)(q:List T->T->Prop)(Q:VK),l∈A->H l\.lst xs->aB K H A ts xs->aB K H A us vs->p ts us q ->
  (∀gQ t,q gQ t->∀Yx v,aB K H A gQ Yx->At K H A t v->Q v (upd H l (.lst Yx)))->r (.ref l) vs H Q
def AS{r:V->qak->Hp->VK->Prop}{p:List T->List T->(List T->T->Prop)->Prop}(hm:Vc X.K r p){k:Nat}{g:FA}{tm:List (T×V)}{Q:VK}(h:lX X Z tm (AR k g p) σ H Q) :
  ∃l,σ[k]?\some (.ref l)/\(∃xs,fQ X.K H l xs)/\lA X Z tm g σ H λvs H1=>r (.ref l) vs H1 Q:=by
 let(ρ,O,q,I,hf,kk):=h;unfold AR at hf;split at hf
 rename_i ts e0
 let(l,h1,h2,xs,h3,h4):=I.root e0;show#[l,h2,#[xs,fQ.of h3],ρ,O,_,I,hf,λus Z0 vs H1 s1 a1=>?_];have J:=I.same s1;have ha:l∈av Z O:=il _ (aF.mpr (eM h1));calc hm H1 (av Z O) l xs ts us vs _ Q ha (s1 _ _ h3) (h4.same s1) a1 Z0 λgQ t ht Yx v b1 b2=>kk _ _ ht O _ _ #[J.wrote e0 h1 #[Yx,aG,b1.wrote ha (s1 _ _ h3) 9],b2.wrote ha (s1 _ _ h3) 9];calc hf.elim
def cN(k:Nat){name:Str}{id:String}{g:FA}{r:V->qak->Hp->VK->Prop}{pp:List T->List T->(List T->T->Prop)->Prop}(slot:Slot "list" name id)(PN:typeOf (.builtin id)=pure (.type "method_descriptor"))(hm:NC X id r)(ht:Vc X.K r pp)(ha:VA X Z (e::es) g)(hN:X.N[k]?\x:=by rfl)(hv:m8 41 x:=by calc jvv 9)(hd:f9 x:=by decide)(gv:q_ x:=by decide)(dB:attributeBase 52 name 19 (eval 52 19)=eval 52 19:=by rfl)(yN:((backTo bF (starEach (e::es) 19)).all (λx=>!x.1) && (backToKw bF (keywordEach [] 19)).all (λx=>x.1.isSome)
    && decide ((e::es).length+([]:List Keyword).length+(if ([]:List Keyword).isEmpty then 0 else 1)<30))=true:=by rfl)(dC:(apos.endLine==bF.line)=true:=by rfl)(hs:starEach (e::es) 19=(false,eval e 19)::starEach es 19:=by rfl)(jU:(backTo bF (starEach es 19)).any (·.1)=false:=by rfl) :
  VX X Z (.Call (.Attribute 52 name apos) (e::es) [] bF) (AR k g pp):=.mk λtm=>
 PE.weak (EV PySem.F.plainAttrs_list slot PN hm (cA hN hv hd gv) (ha tm) dB yN dC hs jU) λσ H Q h=>
  let #[l,h1,h2,h3]:=AS ht h;#[.ref l,h1,.inl #[9,h2],h3]
def Fy(k:Nat){name:Str}{id:String}{r:V->qak->Hp->VK->Prop}{pp:List T->List T->(List T->T->Prop)->Prop}(slot:Slot "list" name id)(PN:typeOf (.builtin id)=pure (.type "method_descriptor"))(hm:NC X id r)(ht:Vc X.K r pp)(hN:X.N[k]?\x:=by rfl)(hv:m8 41 x:=by calc jvv 9)(hd:f9 x:=by decide)(gv:q_ x:=by decide)(dB:attributeBase 52 name 19 (eval 52 19)=eval 52 19:=by rfl)(dC:(apos.endLine==bF.line)=true:=by rfl):VX X Z (.Call (.Attribute 52 name apos) [] [] bF) (AR k tu pp):=.mk λtm=>
 PE.weak (yM PySem.F.plainAttrs_list slot PN hm (cA hN hv hd gv) dB dC) λσ H Q h=>by let(l,h1,h2,ρ,O,q,I,hf,kk):=AS ht h;calc#[.ref l,h1,.inl #[9,h2],kk [] hf [] H 43 aB.nil]
def AU(ts us:List T)(q:List T->T->Prop):Prop:=match us with
 |[t]=>27<sizeLine/\q (ts++[t]) .bK
 |_=>False
def aQ:Vc K AG AU:=by intro H A l xs ts us vs q Q hl hH h1 h2 hp k;unfold AU at hp;split at hp;let(v,rfl,a):=cx (aB.iff.mp h2);calc#[l,xs,v,9,9,hH,by rw[h1.length];calc hp.1,k _ _ hp.2 _ _ (h1.append (aB.cons a aB.nil)) yR];calc hp.elim
def acW(ts us:List T)(q:List T->T->Prop):Prop:=us=[]/\∃t,ts[27-1]?\t/\q ts.dropLast t
def aB.dropLast{A:zm}{ts:List T}(h:aB K H A ts vs):aB K H A ts.dropLast vs.dropLast:=by rw[List.dropLast_eq_take,List.dropLast_eq_take,h.length];calc h.take _
def AV:Vc K UH acW:=by
 intro H A l xs ts us vs q Q hl hH h1 h2 hp k;let(rfl,t,e1,hq):=hp;have e:vs=[]:=by simpa only[aB] using h2
 let(v,e2,a):=h1.get e1;calc#[l,xs,v,9,e,hH,by rw[h1.length];calc e2,k _ _ hq _ _ h1.dropLast a]
def NO(k:Nat)(f fi:FE):FS:=λd ρ=>match ρ[k]? with
 |some (some (.lst ts,true))=>f ρ λv=>fi ρ λi=>match i with
  |.int j=>∃n,yh 27 j\n/\d.nx (ρ.set k (some (.lst (ts.set n v),true)))
  |_=>False
 |_=>False
def dh(k:Nat){f fi:FE}{i:Expr}(he:VE X Z e f)(hi:VR X Z i fi)(hN:X.N[k]?\x:=by rfl)(hv:m8 41 x:=by calc jvv 9)(hd:f9 x:=by decide)(gv:q_ x:=by decide)(ha:∀v,assign (.Subscript 52 i dH) 19 v=(do
    let ov <- holding [v] (eval (.Name x p) X.env)
    let iv <- holding [v,ov] (eval i X.env)
    standAt dH
    holding [v,ov,iv] (setItem ov iv v)
    release [v,ov,iv] []):=by intro _;rfl)(hs:swapsWithSole [.Subscript 52 i dH] e pos.line 19=pure false:=by rfl)(hw:swappedStores [.Subscript 52 i dH] e 19=pure none:=by rfl)(h1:(assignEach [.Subscript 52 i dH] 19).map (·.2)=[assign (.Subscript 52 i dH) 19]:=by rfl):VS X Z (.Assign [.Subscript 52 i dH] e pos) (NO k f fi):=.mk λtm=>
 PS.weak (ED (he tm) (Pb (cA hN hv hd gv) (hi tm) set_list ha) hs hw h1) λD σ H #[ρ,O,d,I,q,F]=>by
  unfold NO at q;split at q
  rename_i ts e0
  let(l,h1,h2,xs,h3,h4):=I.root e0;have ha:l∈av Z O:=il _ (aF.mpr (eM h1));show#[ρ,O,_,I,q,λt ht v H1 s1 a1=>#[.ref l,h2,ρ,O,_,I.same s1,ht,λj hj w H2 s2 a2=>?_]];split at hj;let(n,e1,hj):=hj;calc#[l,xs,_,n,9,a2.int,s2 _ _ (s1 _ _ h3),by rw[h4.length];calc e1,F.nx O _ σ _ (((I.same s1).same s2).wrote (t':=.lst (ts.set n t)) e0 h1 #[xs.set n v,aG,aB.wrote ha (s2 _ _ (s1 _ _ h3)) 9 (((h4.same s1).same s2).set n (a1.same s2))]) hj];calc hj.elim;calc q.elim
def ax.give{tm:List (T×V)}{ρ:En}(I:ax K Z tm O ρ σ H){t:T}(hp:bj Z i)(hi:ρ[i]?\some (t,true)):∃a,σ[i]?\some (.ref a)/\iy K Z tm (O.set i none) (ρ.set i none) σ H (.fr t) (.ref a):=by
 let(a,h1,h2,h3):=I.root hi;have ha:=aF.mpr (eM h1);let(o1,o2,o3):=I.own a ha;have J:=I.forget hp;have J2:=I.jS hp hi;have na:a∉roots (O.set i none):=λz=>by
  let(o,s,g1,g2,g3,v,g4,g5):=J2.sl i (some (t,false)) (by rw[D8 (by rw[<- I.lO];calc (dy.mp h1).1)]);rw[h2] at g2;cases g2;cases g4;have nn:a∉av Z (O.set i none):=by
   cases t with
   |lst ts=>
    simp only[At] at g5;let(b,vs,eb,l,_):=g5;cases eb;obtain l|⟨oo,_,_,lk,_⟩:=l
    calc l.2;exact λz2=>by
     have key:∀O i,O[i]?\some a->(roots O).Nodup->a∉roots (O.set i none):=by
      intro O;induction O with
      |nil=>intro i h;simp at h
      |cons o O ih=>
       intro i h nd;cases i with
       |zero=>
        have:o\a:=by simpa using h
        subst this;calc (oa.mp nd).1
       |succ i=>
        have h':O[i]?\some a:=by simpa using h
        cases o with
        |none=>simp only[roots,SE,rf,id] at nd ⊢;calc ih i h' nd
        |some b=>
         simp only[roots,SE,rf,id] at nd ⊢;rw[oa] at nd;intro z;rcases cY.mp z with z|z
         calc nd.1 (by rw[<- z];calc aF.mpr (eM h'));exact ih i h' nd.2 z
     rcases gc.mp z2 with z2|z2
     calc key O i h1 I.nd z2;calc o2 z2
   |dk ks ts=>simp only[At] at g5;let(b,vs,eb,_,d,_):=g5;cases eb;calc d.2
   |dt ks ts=>simp only[At] at g5;let(b,vs,eb,_,d,_):=g5;cases eb;calc d.2
   |ins C ns ts=>simp only[At] at g5;let(b,dx,vs,eb,_,d,_):=g5;cases eb;calc d.2
   |_=>exact h3.elim
  exact nn (il _ z)
 have hP:Z.H0 a=none:=by
  obtain z|z:=o1
  let(p,hpm,rfl):=gy.mp z;have:=J.par p hpm;calc absurd (aF.mpr (eM this)) na;exact z
 have sub:∀b∈av (Z.ex a) (O.set i none),b∈av Z O:=λb hb=>by
  rcases cO b hb with z|z
  calc bT i b z;rw[z];exact il _ ha
 show#[a,h2,a,9,#[J.lσ,J.lO,λj e h=>?_,J.nd,λb hb=>?_,J.par,λb hb=>?_,J.keep,λp hp=>(I.kj p hp).br sub],h3.br sub,hP,o2];rcases get_set h with⟨rfl,rfl,hl⟩|⟨ne,h⟩
 let(o,s,g1,g2,g3):=J.sl j none (by rw[D8 hl]);calc#[o,s,g1,g2,g3];let(o,s,g1,g2,g3):=I.sl j e h;calc#[o,s,by rw[vG (Ne.symm ne)];calc g1,g2,g3.map (λ_ _ q=>q.br sub) λ_ _ _ q=>q.br sub];let(q1,q2,q3):=J.own b hb;show#[q1,λz=>?_,q3];rcases cY.mp z with z|z
 calc na (by rw[<- z];calc hb);calc q2 z;rcases cY.mp hb with z|z
 let(u,eu,_):=o3;rw[z,eu];simp;calc I.ox b z
def NP(i:Nat):FX:=λρ Q=>match ρ[i]? with
 |some (some (t,true))=>Q (ρ.set i none) (.fr t)
 |some (some (t,false))=>Q ρ (.vw t)
 |_=>False
def eQ(i:Nat)(hp:bj Z i)(hN:X.N[i]?\x:=by rfl)(hv:m8 41 x:=by calc jvv 9)(hd:f9 x:=by decide)(gv:q_ x:=by decide):VX X Z (.Name x pos) (NP i):=.mk λtm=>PE.weak (cA hN hv hd gv) λσ H Q #[ρ,O,q,I,hf,k]=>by
 unfold NP at hf;split at hf
 rename_i t e
 let(a,h1,h2):=I.give hp e;exact#[_,h1,k _ _ hf _ _ H h2]
 rename_i t e
 let(o,s,h1,h2,rfl,v,rfl,h3):=I.sl i _ e;calc#[v,h2,k _ _ hf O v H #[I,h3]];calc hf.elim
end
def ax.qH{Z:Zc}{tm tm':List (T×V)}{ρ:En}(I:ax K Z tm O ρ σ H)(h:∀p∈tm',At K H (av Z O) p.1 p.2):ax K Z tm' O ρ σ H :=
 #[I.lσ,I.lO,I.sl,I.nd,I.own,I.par,I.ox,I.keep,h]
def iy.qH{Z:Zc}{bp tm:List (T×V)}{ρ:En}{r:Rt}(h:iy K Z (bp++tm) O ρ σ H r v):iy K Z tm O ρ σ H r v:=by
 cases r with
 |vw t=>calc#[h.1.qH λp hp=>h.1.kj p (iC _ hp),h.2]
 |fr t=>let(a,e,I,q):=h;calc#[a,e,I.qH λp hp=>I.kj p (iC _ hp),q]
def Wk(K:qaf)(J:It)(bp:List (T×V))(ts:List T):Prop:=∀H A,(∀a∈A,H a≠none)->(∀p∈bp,At K H A p.1 p.2)->∀i:Nat,
 (i<27->J.go i H)/\(27=i->J.stop i H)/\∀t,ts[i]?\t->∀x H',J.SR i H x H'->aP H H'/\At K H' A t x
abbrev FI:=En->(List T->Prop)->Prop
def lI(X:Cx)(Z:Zc)(tm:List (T×V))(f:FI):TI:=λσ H R=>E3 λρ O q=>ax X.K Z tm O ρ σ H/\f ρ q/\∀ts,q ts->∀J H' bp,aP H H'->(∀p∈bp,At X.K H' (av Z O) p.1 p.2)->Wk X.K J bp ts->R J H'
def VI(X:Cx)(Z:Zc)(tg iter:Expr)(f:FI):Prop:=Bx λtm=>PI X tg iter (lI X Z tm f)
instance{X:Cx}{Z:Zc}{tg iter:Expr}{f:FI}:CoeFun (VI X Z tg iter f) λ_=>∀tm,PI X tg iter (lI X Z tm f):=#[λh=>Bx.h h]
def PI.weak{tg:Expr}{t t':TI}(h:PI X tg e t)(hw:∀σ H R,t' σ H R->t σ H R):PI X tg e t':=λε s σ H R I q=>h ε s σ H R I (hw _ _ _ q)
def PG.weak{tg:Expr}{t t':TG}(h:PG X tg t)(hw:∀v σ H Q,t' v σ H Q->t v σ H Q):PG X tg t':=λε s σ H v u Q I r q=>h ε s σ H v u Q I r (hw _ _ _ _ q)
def EA.weak{tg:qap}{t t':JT}(h:EA X tg t)(hw:∀v σ H Q,t' v σ H Q->t v σ H Q):EA X tg t':=λε s σ H v u Q I r q=>h ε s σ H v u Q I r (hw _ _ _ _ q)
def acX(K:qaf)(tl:TE):TI:=λσ H R=>tl σ H λx H1=>(∃a,x=.ref a/\(∃xs,fQ K H1 a xs)/\R (ZM K a) H1)\/(∃a,x=.ref a/\(∃xs,dJ K H1 a xs)/\R (ZN K a) H1)\/∃z,x=.str z/\R (Yt z) H1
section
variable{Z:Zc}{tg:Expr}
def Fz{l:Expr}{tl:TE}(hl:PE X l tl):PI X tg l (acX X.K tl):=by
 intro ε s σ H R I h;show cz (hl ε s σ H _ I h) λv s1 #[x,H1,I1,r1,q1]=>?_;obtain⟨a,e,hq,q⟩|⟨a,e,hq,q⟩|⟨z,e,q⟩:=q1
 subst e;cases r1;let(xs,hq):=hq;let(aN,rv,p,hz):=I1.list hq;show aav p.isList #[51,[51],_,_,H1,9,I1.kept λb o e=>c9 _ e,Cf a _,#[_,gU _ 9,9,9],λb hb=>?_,q];have e:b=51:=by simpa using hb
 subst e;calc I1.nq (cv _) (I1.bC.fresh (cv _));subst e;cases r1;let(xs,hq):=hq;let(aN,rv,p,hz):=I1.tuple hq;show wpAny_pyIter_tuple (show s1.heap.IsTuple a aN.toArray from p) #[51,[51],_,_,H1,9,I1.kept λb o e=>c9 _ e,yw a _,#[_,gU _ 9,9,9],λb hb=>?_,q];have e:b=51:=by simpa using hb
 subst e;calc I1.nq (cv _) (I1.bC.fresh (cv _));subst e;let(t,rfl):=r1;show wpAny_pyIter_strU ?_;have I2:Inv X ε σ H1 {s1 with heap:=s1.heap.push {cls:=.type (strIterType z),data:=.fields ([.str z t,.int 0 0].toArray)} }:=I1.kept λb o e=>c9 _ e;show#[51,[51],_,_,H1,9,I2,Fd z t _,#[_,gU _ 9,9,9],λb hb=>?_,q];have e:b=51:=by simpa using hb
 subst e;calc I1.nq (cv _) I1.fresh
def acY(f:FE):FI:=λρ Q=>f ρ λt=>match t with
 |.lst ts=>Q ts
 |.tup ts=>Q ts
 |.str z=>Q (z.cps.toList.map λc=>.str #[([c].toArray)])
 |_=>False
theorem AW{ts:List T}:Wk K (ZM K a) [(.lst ts,.ref a)] ts:=λH A hA h i=>by have h:=h _ fM;let(b,vs,e,l,q):=h;cases e;have hl:=q.length;show#[λhi=>#[vs,vs[i]'(),l.sq,by simp],λhi=>#[vs,l.sq,()],λt ht x H' y=>?_];let(rfl,y):=y;let(v,e1,e2):=q.get ht;have:=y vs l.sq;rw[e1] at this;cases this;calc#[aP.refl _,e2]
theorem Qg{ts:List T}:Wk K (ZN K a) [(.tup ts,.ref a)] ts:=λH A hA h i=>by have h:=h _ fM;let(b,vs,e,l,q):=h;cases e;have hl:=q.length;show#[λhi=>#[vs,vs[i]'(),l,by simp],λhi=>#[vs,l,()],λt ht x H' y=>?_];let(rfl,y):=y;let(v,e1,e2):=q.get ht;have:=y vs l;rw[e1] at this;cases this;calc#[aP.refl _,e2]
def Qh{z:Str}:Wk K (Yt z) [] (z.cps.toList.map λc=>T.str #[([c].toArray)]):=λH A hA h i=>by show#[λhi=>by rw[bL,JB] at hi;calc hi,λhi=>by rw[bL,JB] at hi;calc Nat.le_of_eq hi,λt ht x H' y=>?_];let(rfl,c,hc,rfl):=y;rw[d4,D9,hc] at ht;cases ht;calc#[aP.refl _,d9]
def eA{l:Expr}{f:FE}(h:VE X Z l f):VI X Z tg l (acY f):=.mk λtm=>PI.weak (Fz (h tm)) λσ H R #[ρ,O,q,I,hf,k]=>#[ρ,O,_,I,hf,λt ht v H' s a=>by split at ht;have a0:=a;let(p,vs,rfl,l,_):=a;calc .inl #[p,9,#[vs,l.sq],k _ ht _ H' _ s (λp hp=>by rw[fP.mp hp];calc a0) AW];have a0:=a;let(p,vs,rfl,l,_):=a;calc .inr (.inl #[p,9,#[vs,l],k _ ht _ H' _ s (λp hp=>by rw[fP.mp hp];calc a0) Qg]);have e:=a;calc .inr (.inr #[_,e,k _ ht _ H' [] s (λp hp=>nomatch hp) Qh]);calc ht.elim]
def rangeT(lo:Int)(n:Nat):List T:=(List.range n).map λi=>T.int (lo+((i:Nat):Int))
theorem FC{lo:Int}:Wk K (Yl lo n) [] (rangeT lo n):=λH A hA h i=>by
 unfold rangeT;show#[λhi=>by rw[bL,rh] at hi;calc hi,λhi=>by rw[bL,rh] at hi;calc Nat.le_of_eq hi,λt ht x H' y=>?_];let(rfl,rfl):=y;rw[d4] at ht;cases e:(List.range n)[i]? with
 |none=>rw[e] at ht;cases ht
 |some j=>
  rw[e] at ht;have hj:j=i:=by have:=dy.mp e;let(h1,h2):=this;simpa using h2.symm
  subst hj;cases ht;calc#[aP.refl _,bJ]
def pR1(ts:List T)(Q:List T->Prop):Prop:=match ts with
 |[.int j]=>-(2 ^ 62)<=j/\j<2 ^ 62/\Q (rangeT 0 j.toNat)
 |_=>False
def Qi(g:FA)(p:List T->(List T->Prop)->Prop):FI:=λρ Q=>g ρ λts=>p ts Q
def cP{a:Expr}{g:FE}{pos:Pos}(hg:Gl X "range")(hm:X.mg "range"=none)(ha:VR X Z a g)(hs:starEach [a] 19=[(false,eval a 19)]:=by rfl) :
  VI X Z tg (.Call (.Name "range" p) [a] [] pos) (Qi (fS g tu) pR1):=.mk λtm=>PI.weak (Cg hg hm ((aH ha aM hs) tm) hs) λσ H R #[ρ,O,q,I,hf,k]=>#[ρ,O,_,I,hf,λts gw vs H' s a=>by
 unfold pR1 at gw;split at gw;let(v,rfl,a1):=cx a;calc#[_,by rw[a1.int],gw.1,gw.2.1,k _ gw.2.2 _ H' [] s (λp hp=>nomatch hp) FC];calc gw.elim]
abbrev FG:=T->En->(En->Prop)->Prop
abbrev KW:=List T->En->(En->Prop)->Prop
def lG(X:Cx)(Z:Zc)(tm:List (T×V))(is:qao)(h:FG):TG:=λv σ H Q=>E4 λρ O t q=>ax X.K Z tm O ρ σ H/\At X.K H (av Z O) t v/\h t ρ q/\∀ρ',q ρ'->∀O' σ',ax X.K Z tm O' ρ' σ' H->(∀a∈roots O',a∈roots O)->(∀(j:Nat),j∉is->O'[j]?=O[j]?)->σ'.length=σ.length->(∀(j:Nat),j∉is->σ'[j]?=σ[j]?)->Q σ' H
def lGs(X:Cx)(Z:Zc)(tm:List (T×V))(is:qao)(h:KW):JT:=λvs σ H Q=>E4 λρ O ts q=>ax X.K Z tm O ρ σ H/\aB X.K H (av Z O) ts vs/\h ts ρ q/\∀ρ',q ρ'->∀O' σ',ax X.K Z tm O' ρ' σ' H->(∀a∈roots O',a∈roots O)->(∀(j:Nat),j∉is->O'[j]?=O[j]?)->σ'.length=σ.length->(∀(j:Nat),j∉is->σ'[j]?=σ[j]?)->Q σ' H
def VG(X:Cx)(Z:Zc)(tg:Expr)(is:qao)(h:FG):Prop:=Bx λtm=>PG X tg (lG X Z tm is h)
instance{X:Cx}{Z:Zc}{tg:Expr}{is:qao}{h:FG}:CoeFun (VG X Z tg is h) λ_=>∀tm,PG X tg (lG X Z tm is h):=#[λh=>Bx.h h]
def Vd(X:Cx)(Z:Zc)(Yy:qap)(is:qao)(h:KW):Prop:=Bx λtm=>EA X Yy (lGs X Z tm is h)
instance{X:Cx}{Z:Zc}{Yy:qap}{is:qao}{h:KW}:CoeFun (Vd X Z Yy is h) λ_=>∀tm,EA X Yy (lGs X Z tm is h):=#[λh=>Bx.h h]
def hName(i:Nat):FG:=λt ρ Q=>Q (ρ.set i (some (t,false)))
def aw{pos:Pos}(hN:X.N.Nodup)(hi:X.N[i]?\x)(hx:Loc 41 x)(hp:bj Z i)(hf:X.fn x=true\/X.env.scope.names.lookup x\.local:=by first|calc .inl rfl|calc .inr rfl|assumption) :
  VG X Z (.Name x pos) [i] (hName i):=.mk λtm=>PG.weak (JU hN hi hx hf) λv σ H Q #[ρ,O,t,q,I,a,h,k] =>
 k _ h _ _ (I.put hp a) (bS i) (λj hj=>vG (λe=>hj (by simp[e]))) 4 λj hj=>vG (λe=>hj (by simp[e]))
def acZ:KW:=λts ρ Q=>ts=[]/\Q ρ
def NQ(h:FG)(hs:KW):KW:=λts ρ Q=>match ts with
 |t::r=>h t ρ λρ'=>hs r ρ' Q
 |[]=>False
def Ve(n:Nat)(h:KW):FG:=λt ρ Q=>match t with
 |.tup ts=>27=n/\h ts ρ Q
 |_=>False
def bR:Vd X Z [] [] acZ:=.mk λtm=>EA.weak JV λvs σ H Q #[ρ,O,ts,q,I,a,h,k]=>by
 let(rfl,h):=h;have e:vs=[]:=by simpa only[aB] using a
 calc#[e,k _ h O σ I (λ_ z=>z) (λ_ _=>rfl) 9 λ_ _=>rfl]
def aD{js:qao}{h:FG}{hs:KW}(h1:VG X Z e is h)(h2:Vd X Z es js hs)(hse:(assignEach (e::es) 19).map (·.2)=assign e 19::(assignEach es 19).map (·.2):=by rfl):Vd X Z (e::es) (is++js) (NQ h hs):=.mk λtm=>EA.weak (EB (h1 tm) (h2 tm) hse) λvs σ H Q #[ρ,O,ts,q,I,a,hh,k]=>by
 unfold NQ at hh;split at hh;simp only[aB] at a;let(v,r,rfl,a1,a2):=a;show#[v,r,9,ρ,O,_,_,I,a1,hh,λρ' hρ O' σ' I' ro eo l e=>#[ρ',O',_,q,I',a2.br λb hb=>?_,hρ,λρ2 h2 O2 σ2 I2 ro2 eo2 l2 e2=>k ρ2 h2 O2 σ2 I2 (λa z=>ro a (ro2 a z)) (λj hj=>?_) (l2.trans l) λj hj=>?_]];rcases gc.mp hb with z|z
 calc il _ (ro b z);calc iC _ z;rw[gc,not_or] at hj;calc (eo2 j hj.2).trans (eo j hj.1);rw[gc,not_or] at hj;calc (e2 j hj.2).trans (e j hj.1);calc hh.elim
def cK{k:Nat}{h:KW}{pos:Pos}(hc:X.calm=true)(hh:Vd X Z es is h)(hn:(assignEach es 19).length=n:=by rfl)(EC:(assignEach es 19).findIdx? (·.1)=none:=by rfl):VG X Z (.Tuple es k pos) is (Ve n h):=.mk λtm=>PG.weak (Pa hc (hh tm) hn EC) λv σ H Q #[ρ,O,t,q,I,a,h',kk]=>by unfold Ve at h';split at h';simp only[At] at a;let(p,vs,rfl,s,a):=a;calc#[p,vs,9,s,a.length.trans h'.1,ρ,O,_,q,I,a,h'.2,kk];calc h'.elim
def ac0(f:FE)(h:FG):FS:=λd ρ=>f ρ λt=>h t ρ d.nx
def tD{tg:Expr}{f:FE}{h:FG}{pos:Pos}(he:VE X Z e f)(hg:VG X Z tg is h)(hs:swapsWithSole [tg] e pos.line 19=pure false:=by rfl)(hw:swappedStores [tg] e 19=pure none:=by rfl)(h1:(assignEach [tg] 19).map (·.2)=[assign tg 19]:=by rfl):VS X Z (.Assign [tg] e pos) (ac0 f h):=.mk λtm=>PS.weak (ED (he tm) (hg tm) hs hw h1) λD σ H #[ρ,O,d,I,q,F] =>
 #[ρ,O,_,I,q,λt ht v H' s a=>#[ρ,O,t,_,I.same s,a,ht,λρ' hρ O' σ' I' _ _ _ _=>F.nx O' ρ' σ' H' I' hρ]]
def kx(ts:List T)(h:FG)(g:FS):FS:=λd ρ=>∃Pv:Nat->En->Prop,Pv 0 ρ/\(∀(i:Nat) t ρ',ts[i]?\t->Pv i ρ'->h t ρ' λρ2=>g {nx:=Pv (i+1),ct:=Pv (i+1),bk:=d.nx,rt:=d.rt} ρ2)/\∀ρ',Pv 27 ρ'->d.nx ρ'
def ac1(f:FI)(h:FG)(g:FS):FS:=λd ρ=>f ρ λts=>kx ts h g d ρ
theorem cg{body:qaq}{f:FI}{h:FG}{g:FS}{pos:Pos}(hp:PassesOwn 22 X.A 19 X.xe)(hc:X.calm=true)(hi:VI X Z tg iter f)(hg:VG X Z tg is h)(hb:fW X Z body g)(hs:∀x,foldedSetIterable iter 19 x=pure x:=by intro _;rfl):VS X Z (.For tg iter body [] pos) (ac1 f h g):=by
 show .mk λtm ε s σ H D I0 hw=>?_;let(ρ,O,d,I,q,F):=hw;show yy (g:=λv σ H Q=>∃bp,lG X Z (bp++tm) is h v σ H Q) (tb:=λD σ H=>∃bp,lS X Z (bp++tm) g D σ H) hp hc (hi tm) (λε s σ H v u Q I r #[bp,z]=>hg (bp++tm) ε s σ H v u Q I r z) (λε s σ H D I #[bp,z]=>hb (bp++tm) ε s σ H D I z) hs ε s σ H D I0 #[ρ,O,_,I,q,λts gw J H' bp s a wk=>?_];let(Pv,p0,step,fin):=gw;have J0:=(I.same s).qH λp hp=>by
  rcases gc.mp hp with z|z
  calc a p z;exact (I.same s).kj p z
 show#[λi m σ H=>m=27-i/\i<=27/\E2 λρ O=>ax X.K Z (bp++tm) O ρ σ H/\Pv i ρ,#[27,by simp,e_ _,ρ,O,J0,p0],?_];rintro i m σ1 H1 ⟨rfl,hi,ρ1,O1,I1,p1⟩;let(w1,w2,w3):=wk H1 (av Z O1) I1.ND (λp hp=>I1.kj p (il _ hp)) i;have un:∀{O:HD}{ρ:En}{σ:St}{H:Hp},ax X.K Z (bp++tm) O ρ σ H->ax X.K Z tm O ρ σ H:=λI=>I.qH λp hp=>I.kj p (iC _ hp);by_cases c8:i<27;show .inr #[w1 c8,λσ' H'=>E2 λρ O=>ax X.K Z (bp++tm) O ρ σ' H'/\Pv (i+1) ρ,λσ' H' #[ρ',O',I',p']=>#[27-(i+1),(),9,c8,ρ',O',I',p'],λx H2 y=>?_];have e:ts[i]?\ts[i]:=by simp[c8]
 let(s2,a2):=w3 ts[i] e x H2 y;calc#[bp,ρ1,O1,ts[i],_,I1.same s2,a2,step i _ ρ1 e p1,λρ2 h2 O2 σ2 I2 _ _ _ _=>#[bp,ρ2,O2,_,I2,h2,#[λO ρ σ H I p=>#[ρ,O,I,p],λO ρ σ H r v z p=>F.rt O ρ σ H r v z.qH p,λO ρ σ H I p=>F.nx O ρ σ H (un I) p,λO ρ σ H I p=>#[ρ,O,I,p]]]];have e:i=27:=by lia
 subst e;calc .inl #[w2 (9),F.nx O1 ρ1 σ1 H1 (un I1) (fin ρ1 p1)]
def Qj(c:FB)(g:FS):FS:=λd ρ=>∃(Pv:Nat->En->Prop),(∃m,Pv m ρ)/\∀m ρ',Pv m ρ'->c ρ' λb=>if b=true then g {nx:=λρ2=>∃m',m'<m/\Pv m' ρ2,ct:=λρ2=>∃m',m'<m/\Pv m' ρ2,bk:=d.nx,rt:=d.rt} ρ' else d.nx ρ'
theorem wq{body:qaq}{fc:FB}{g:FS}{pos:Pos}(hp:PassesOwn 22 X.A 19 X.xe)(hc:VC X Z c fc)(hb:fW X Z body g):VS X Z (.While c body [] pos) (Qj fc g):=.mk λtm=>PS.weak (vU hp (hc tm) (hb tm)) λD σ H #[ρ,O,d,I,q,F]=>by
 let(Pv,(m0,p0),step):=q;show#[λm σ H=>E2 λρ O=>ax X.K Z tm O ρ σ H/\Pv m ρ,#[m0,ρ,O,I,p0],?_];rintro m σ1 H1 ⟨ρ1,O1,I1,p1⟩;show#[ρ1,O1,_,I1,step m ρ1 p1,λb hb H2 s2=>?_];cases b with
 |true=>calc#[λσ' H'=>∃m',m'<m/\E2 λρ O=>ax X.K Z tm O ρ σ' H'/\Pv m' ρ,λσ' H' z=>z,ρ1,O1,_,I1.same s2,hb,#[λO ρ σ H I #[m',hm,p]=>#[m',hm,ρ,O,I,p],F.rt,F.nx,λO ρ σ H I #[m',hm,p]=>#[m',hm,ρ,O,I,p]]]
 |false=>calc F.nx O1 ρ1 σ1 H2 (I1.same s2) hb
end
def dS(O:HD)(n:Nat):roots (O++List.replicate n none)=roots O:=by
 unfold roots;rw[List.filterMap_append];have:(List.replicate n (none:qar)).filterMap id=[]:=by
  induction n with
  |zero=>rfl
  |succ n ih=>rw[Jj,rf];exact ih
 rw[this,As]
def ax.longer{Z:Zc}{tm:List (T×V)}{ρ:En}(I:ax K Z tm O ρ σ H)(n:Nat){τ:St}(hτ:τ.length=n) :
  ax K Z tm (O++List.replicate n none) (ρ++List.replicate n none) (σ++τ) H:=by
 have ea:av Z (O++List.replicate n none)=av Z O:=by unfold av;rw[dS]
 show#[by simp[I.lσ,hτ],by simp[I.lO],λi e h=>?_,by rw[dS];calc I.nd,λa h=>I.own a (by rw[dS] at h;calc h),λp hp=>?_,I.ox,I.keep,λp hp=>by rw[ea];calc I.kj p hp];rw[ea];by_cases hi:i<ρ.length;rw[nL hi] at h;let(o,s,h1,h2,h3):=I.sl i e h;calc#[o,s,by rw[nL (by rw[I.lO];calc hi)];calc h1,by rw[nL (by rw[I.lσ];calc hi)];calc h2,h3];rw[sM (),Er] at h;split at h
 rename_i hl
 cases h;show#[none,τ[i-σ.length]'(by rw[I.lσ,hτ];calc hl),?_,?_,9];rw[sM (by rw[I.lO];lia),Er,ι (by rw[I.lO];calc hl)];rw[sM (by rw[I.lσ];lia)];simp;cases h;have:=I.par p hp;have hl:=(dy.mp this).1;rw[nL hl];calc this
def ax.Qk{Z:Zc}{tm:List (T×V)}{ρ:En}{u o:HO}(I:ax K (Z.ex a) tm O ρ σ H)(hu:H a\u)(hm:nA u=true)(h0:Z.H0 a=none):ax K (Z.ex a) tm O ρ σ (upd H a o):=by
 have Eg:a∈av (Z.ex a) O:=iC _ fM;have nr:∀b∈roots O,b≠a:=λb hb e=>(I.own b hb).2.1 (by rw[e];calc fM);show#[I.lσ,I.lO,λi e h=>?_,I.nd,λb hb=>?_,I.par,λb hb=>?_,λb o' e n=>?_,λp hp=>(I.kj p hp).wrote Eg hu hm];let(o',s,h1,h2,h3):=I.sl i e h;show#[o',s,h1,h2,h3.map (λ_ _ q=>q.wrote Eg hu hm) λb t e q=>?_];subst e;calc q.map (az (nr b (aF.mpr (eM h1)))) λ_ _ z=>z.wrote Eg hu hm;let(q1,q2,v,e,m):=I.own b hb;calc#[q1,q2,v,by rw[az (nr b hb)];calc e,m];by_cases e:b=a;subst e;rw[aG];simp;rw[az e];calc I.ox b hb;have:b≠a:=λe'=>by subst e';have e2:Z.H0 b\o':=e;rw[h0] at e2;cases e2
 rw[az this];calc I.keep b o' e n
def du(h:FG)(fc:FB)(fe:FE)(ρ:En):List T->(List T->Prop)->Prop
 |[],Q=>Q []
 |t::ts,Q=>h t ρ λρ2=>fc ρ2 λb=>if b=true then fe ρ2 λu=>du h fc fe ρ ts λus=>Q (u::us) else du h fc fe ρ ts Q
def AX(n:Nat)(is:qao)(f:FI)(h:FG)(fc:FB)(fe:FE):FP:=λρ Q=>(is.all λj=>decide (ρ.length<=j))=true/\f ρ λts=>27<=sizeLine/\du h fc fe (ρ++List.replicate n none) ts λus=>Q (.fr (.lst us))
def S9(X:Cx)(Z:Zc)(ifs:qap)(f:FB):Prop:=Bx λtm=>E1 X ifs (lB X Z tm f)
instance{X:Cx}{Z:Zc}{ifs:qap}{f:FB}:CoeFun (S9 X Z ifs f) λ_=>∀tm,E1 X ifs (lB X Z tm f):=#[λh=>Bx.h h]
def KY:FB:=λ_ Q=>Q true
def E1.weak{e:qap}{t t':TT}(h:E1 X e t)(hw:∀σ H Q,t' σ H Q->t σ H Q):E1 X e t':=λε s σ H Q I q=>h ε s σ H Q I (hw _ _ _ q)
section
variable{Z:Zc}
def kz:S9 X Z [] KY:=.mk λtm=>E1.weak Kr λσ H Q #[ρ,O,q,I,h,k]=>k true h H 43
def g8{f:FB}(h:VC X Z c f):S9 X Z [c] f:=.mk λtm=>Ks (h tm)
def cG(X:Cx)(Z:Zc)(tm:List (T×V))(is:qao)(h:FG):TG:=λv σ H Q=>E2 λD bp=>lG X (Z.ex D) (bp++tm) is h v σ H Q
def cB(X:Cx)(Z:Zc)(tm:List (T×V))(f:FB):TT:=λσ H Q=>E2 λD bp=>lB X (Z.ex D) (bp++tm) f σ H Q
def cE(X:Cx)(Z:Zc)(tm:List (T×V))(f:FE):TE:=λσ H Q=>E2 λD bp=>lE X (Z.ex D) (bp++tm) f σ H Q
theorem Ql{Z:Zc}{tm bp:List (T×V)}{ρ:En}{H1:Hp}{D:Addr}{J:It}{ts:List T}{h:FG}{fc:FB}{fe:FE}{q:Rt->Prop}{Q:VK}(X:Cx)(hK:X.K=K)(I:ax K Z (bp++tm) O ρ σ H1)(hD:H1 D=none)(wk:Wk K J bp ts)(hz:27<=sizeLine)(Yz:∀j∈is,ρ.length<=j)(hw:du h fc fe (ρ++List.replicate n none) ts λus=>q (.fr (.lst us)))(k:∀r,q r->∀v H',aP H1 H'->iy K Z tm O ρ σ H' r v->Q v H') :
  E_ J (cG X Z tm is h) (cB X Z tm fc) (cE X Z tm fe) n σ D (Q (.ref D)) H1:=by
 subst hK;let(n1,n2,n3):=I.fresh hD;show#[λi m acc H2=>m=27-i/\i<=27/\aP H1 H2/\H2 D\.lst acc/\∃us,aB X.K H2 (av (Z.ex D) O) us acc/\acc.length<=i/\ax X.K (Z.ex D) (bp++tm) O ρ σ H2/\du h fc fe (ρ++List.replicate n none) (ts.drop i) λr=>q (.fr (.lst (us++r))),
  #[27,by simp,e_ _,aE hD,aG,[],aB.nil,e_ _,I.new hD 9,by simpa using hw],?_]
 rintro i m acc H2 ⟨rfl,hi,s2,YA,us,a2,hl,I2,w2⟩;show#[YA,?_];let(w1,w2',w3):=wk H2 (av (Z.ex D) O) I2.ND (λp hp=>I2.kj p (il _ hp)) i;by_cases c8:i<27;show .inr #[w1 c8,(),λx H3 y=>?_];have e:ts[i]?\ts[i]:=by simp[c8]
 let(s3,a3):=w3 ts[i] e x H3 y;rw[Tz c8] at w2;have I3:=(I2.same s3).longer n (τ:=List.replicate n none) 4;have ea:av (Z.ex D) (O++List.replicate n none)=av (Z.ex D) O:=by unfold av;rw[dS]
 show#[D,bp,_,_,ts[i],_,I3,by rw[ea];calc a3,w2,λρ4 hρ4 O4 σ4 I4 ro4 eo4 l4 e4=>#[#[?_,λj v hj=>?_],D,bp,ρ4,O4,_,I4,hρ4,λb hb H5 s5=>?_]];rw[l4];simp;have YB:=(dy.mp hj).1;have:j∉is:=λz=>by have:=Yz j z;have:=I.lσ;lia
 rw[e4 j this,nL YB];calc hj;have S5:=(s2.trans s3).trans s5;have J5:=(I2.same s3).same s5;cases b with
 |true=>
   show UP #[D,bp,ρ4,O4,_,I4.same s5,hb,λu hu y H6 s6 a6=>?_];have hD6:=s6 _ _ (s5 _ _ (s3 _ _ YA));show#[hD6,27-(i+1),(),9,c8,λb o e=>?_,aG,us++[u],?_,by simp;lia,(J5.same s6).Qk hD6 9 n3,?_];rw[az (bx e hD)];calc s6 _ _ (S5 _ _ e);have Eg:D∈av (Z.ex D) O:=iC _ fM;have a6':At X.K H6 (av (Z.ex D) O) u y:=a6.br λb hb=>by
    rcases gc.mp hb with z|z
    let(j,hj):=JA.mp (aF.mp z);have YB:=(dy.mp hj).1;have nj:j∉is:=λz=>by have:=Yz j z;have:=I.lO;lia
    have:=eo4 j nj;rw[nL YB,hj] at this;calc il _ (aF.mpr (eM this));exact iC _ z
   calc aB.wrote Eg hD6 9 ((((a2.same s3).same s5).same s6).append (aB.cons a6' aB.nil));have e2:∀r,(us++[u])++r=us++(u::r):=λr=>by simp
   simp only[e2];calc hu
 |false=>exact UO #[27-(i+1),(),9,c8,S5,s5 _ _ (s3 _ _ YA),us,(a2.same s3).same s5,(),J5,hb]
 have e:i=27:=by lia
 subst e;show .inl #[w2' (9),?_];rw[List.drop_length] at w2;simp only[du,As] at w2;show k _ w2 _ H2 s2 #[D,9,I2.qH λp hp=>I2.kj p (iC _ hp),#[acc,YA,a2],n3,n2]
def AY{tm:List (T×V)}{f:FI}{h:FG}{fc:FB}{fe:FE}{Q:VK}(hq:lP X Z tm (AX n is f h fc fe) σ H Q):Fc n (lI X Z tm f) (cG X Z tm is h) (cB X Z tm fc) (cE X Z tm fe) σ H Q:=by
 let(ρ,O,q,I,(Yz,hf),k):=hq;show#[ρ,O,_,I,hf,λts gw J H' bp s a wk D hD=>?_];have I':=(I.same s).qH λp hp=>by
  rcases gc.mp hp with z|z
  calc a p z;exact (I.same s).kj p z
 show Ql X 9 I' hD wk gw.1 (λj hj=>?_) gw.2 λr hr v H2 s2 z=>k r hr v H2 (s.trans s2) z;have:=JD.mp Yz j hj;calc ψ this
variable{ts:ω}{elt tg:Expr}{ifs:qap}{pos:Pos}{f:FI}{h:FG}{fc:FB}{fe:FE}
def dD(hc:X.calm=true)(hS:jV X.N ts 41 sc=true)(hi:VI X Z tg iter f)(hg:∀D cl C fp s H,VG 35 (Z.ex D) tg is h)(ht:∀D cl C fp s H,S9 35 (Z.ex D) ifs fc)(he:∀D cl C fp s H,VE 35 (Z.ex D) elt fe)(hs:∀x,foldedSetIterable iter 19 x=pure x:=by intro _;rfl):VP X Z 48 (AX 27 is f h fc fe):=.mk λtm=>
 PE.weak (Kt hc hS (hi tm) (λcl C fp s H ε s' σ H' v u Q I r #[D,bp,z]=>hg D cl C fp s H (bp++tm) ε s' σ H' v u Q I r z) (λcl C fp s H ε s' σ H' Q I #[D,bp,z]=>ht D cl C fp s H (bp++tm) ε s' σ H' Q I z)
  (λcl C fp s H ε s' σ H' Q I #[D,bp,z]=>he D cl C fp s H (bp++tm) ε s' σ H' Q I z) hs) λσ H Q hq=>AY hq
def wt{py v_:Pos}(hN:X.N.Nodup)(hy:X.N[i]?\y)(hx:Loc 41 y)(hc:X.calm=true)(hS:jV X.N ts 41 sc=true)(hi:VI X Z tg iter f)(hg:∀D cl C fp s H,VG 35 (Z.ex D) tg is h)(ht:∀D cl C fp s H,S9 35 (Z.ex D) ifs fc)(he:∀D cl C fp s H,VE 35 (Z.ex D) elt fe)(UX:swapsWith 48 (some (.Name y py)) v_.line 19=pure true)(hs:∀x,foldedSetIterable iter 19 x=pure x)(hf:X.fn y=true\/X.env.scope.names.lookup y\.local)(tm:List (T×V)) :
  PS X (.Assign [.Name y py] 48 v_) (JW (lP X Z tm (AX 27 is f h fc fe)) (oj i)) :=
 PS.weak (Ku hN hy hx hc hS (hi tm) (λcl C fp s H ε s' σ H' v u Q I r #[D,bp,z]=>hg D cl C fp s H (bp++tm) ε s' σ H' v u Q I r z) (λcl C fp s H ε s' σ H' Q I #[D,bp,z]=>ht D cl C fp s H (bp++tm) ε s' σ H' Q I z)
  (λcl C fp s H ε s' σ H' Q I #[D,bp,z]=>he D cl C fp s H (bp++tm) ε s' σ H' Q I z) UX hs hf) λD σ H hq=>AY hq
def KZ{py v_:Pos}(hN:X.N.Nodup)(hy:X.N[i]?\y)(hx:Loc 41 y)(hc:X.calm=true)(hS:jV X.N ts 41 sc=true)(hi:VI X Z tg iter f)(hg:∀D cl C fp s H,VG 35 (Z.ex D) tg is h)(ht:∀D cl C fp s H,S9 35 (Z.ex D) ifs fc)(he:∀D cl C fp s H,VE 35 (Z.ex D) elt fe)(hp:bj Z i)(UX:swapsWith 48 (some (.Name y py)) v_.line 19=pure true:=by rfl)(hs:∀x,foldedSetIterable iter 19 x=pure x:=by intro _;rfl)(hf:X.fn y=true\/X.env.scope.names.lookup y\.local:=by first|calc .inl rfl|calc .inr rfl|assumption) :
  VS X Z (.Assign [.Name y py] 48 v_) (Va i (fX (AX 27 is f h fc fe))):=.mk λtm=>
 PS.weak (wt hN hy hx hc hS hi hg ht he UX hs hf tm) λD σ H #[ρ,O,d,I,q,F]=>#[ρ,O,_,I,q,λr hr v H' s z=>F.nx _ _ _ H' (z.env.put hp z.at) hr]
def i9{h:FG}{fc:FB}{fe:FE}{ρ:En}{ts:List T}{Q:List T->Prop}(p:T->Bool)(u:T->T)(step:∀t∈ts,∀k:List T->Prop,∀r:List T->Prop,(if p t=true then r [u t] else r [])->h t ρ λρ2=>fc ρ2 λb=>if b=true then fe ρ2 λx=>r [x] else r [])(hq:Q ((ts.filter p).map u)):du h fc fe ρ ts Q:=by
 induction ts generalizing Q with
 |nil=>calc hq
 |cons t ts ih=>
  have st:=step t fM (λ_=>True) (λl=>match l with
   |[x]=>du h fc fe ρ ts λus=>Q (x::us)
   |_=>du h fc fe ρ ts Q)
  have rest:∀{Q':List T->Prop},Q' ((ts.filter p).map u)->du h fc fe ρ ts Q':=λhq=>ih (λt ht=>step t (gT _ ht)) hq;show st ?_;by_cases hp:p t=true;rw[ι hp];show rest ?_;rw[Zj hp] at hq;calc hq;rw[θ hp];show rest ?_;rw[Zk hp] at hq;calc hq
end
def fj(K:qaf)(H:Hp)(A:zm):List Bool->zm->List T->qak->Prop
 |[],as,ts,vs=>as=[]/\ts=[]/\vs=[]
 |false::fs,as,ts,vs=>∃t gQ v jI,ts=t::gQ/\vs=v::jI/\At K H A t v/\fj K H A fs as gQ jI
 |true::fs,as,ts,vs=>∃a rH t gQ jI,as=a::rH/\ts=t::gQ/\vs=.ref a::jI/\cT K H A a t/\fj K H A fs rH gQ jI
def Vf(K:qaf)(H:Hp)(as Ox:zm)(H':Hp)(us:List T):Rt->V->Prop
 |.vw t,v=>At K H' (as++Ox) t v/\Paired (λa u=>cT K H' (as++Ox) a u) as us
 |.fr t,v=>∃b,v=.ref b/\H b=none/\b∉as/\cT K H' (b::(as++Ox)) b t/\Paired (λa u=>cT K H' (b::(as++Ox)) a u) as us
abbrev GT:=List T->(List T->Rt->Prop)->Prop
def tG(K:qaf)(fs:List Bool)(G:GT):Sp:=λvs H Q _=>E4 λts as Ox q=>as.Nodup/\(∀a∈as,a∉Ox)/\(∀a∈Ox,H a≠none)/\fj K H (as++Ox) fs as ts vs/\G ts q /\
 ∀us r,q us r->∀v H',(∀b o,H b\o->b∉as->H' b\o)->Vf K H as Ox H' us r v->Q v H'
def ro:List Bool->zm->HD
 |[],_=>[]
 |false::fs,as=>none::ro fs as
 |true::fs,a::as=>some a::ro fs as
 |true::fs,[]=>none::ro fs []
def pz:List Bool->zm->Nat->List (Nat×Addr)
 |[],_,_=>[]
 |false::fs,as,k=>pz fs as (k+1)
 |true::fs,a::as,k=>(k,a)::pz fs as (k+1)
 |true::fs,[],k=>pz fs [] (k+1)
def wu:List Bool->List T->En
 |f::fs,t::ts=>some (t,f)::wu fs ts
 |_,_=>[]
def kA:List Bool->En->List T
 |[],_=>[]
 |false::fs,ρ=>kA fs ρ.tail
 |true::fs,some (t,_)::ρ=>t::kA fs ρ
 |true::fs,ρ=>.bK::kA fs ρ.tail
section
variable{A:zm}
theorem iO:∀{fs:List Bool}{as:zm}{ts:List T}{vs:qak},fj K H A fs as ts vs->27=fs.length/\vs.length=fs.length/\(ro fs as).length=fs.length/\(wu fs ts).length=fs.length/\roots (ro fs as)=as
 |[],as,ts,vs,h=>by let(rfl,rfl,rfl):=h;calc#[9,9,9,9,9]
 |false::fs,as,ts,vs,h=>by let(t,gQ,v,jI,rfl,rfl,_,h):=h;let(h1,h2,h3,h4,h5):=iO h;calc#[by simp[h1],by simp[h2],by simp[ro,h3],by simp[wu,h4],by simpa[ro,roots] using h5]
 |true::fs,as,ts,vs,h=>by let(a,rH,t,gQ,jI,rfl,rfl,rfl,_,h):=h;let(h1,h2,h3,h4,h5):=iO h;show#[by simp[h1],by simp[h2],by simp[ro,h3],by simp[wu,h4],?_];simp only[ro,roots,rf,id] at h5 ⊢;rw[h5]
theorem oI:∀{fs:List Bool}{as:zm}{ts:List T}{vs:qak},fj K H A fs as ts vs->∀(i:Nat) e,(wu fs ts)[i]?\e->∃o s,(ro fs as)[i]?\o/\(vs.map some)[i]?\s/\jW K H A e o s
 |[],as,ts,vs,h,i,e,he=>by simp[wu] at he
 |false::fs,as,ts,vs,h,i,e,he=>by
  let(t,gQ,v,jI,rfl,rfl,a,h):=h;cases i with
  |zero=>simp only[wu,X3,Option.some.injEq] at he;subst he;calc#[none,some v,9,9,9,v,9,a]
  |succ i=>calc oI h i e (by simpa[wu] using he)
 |true::fs,as,ts,vs,h,i,e,he=>by
  let(a,rH,t,gQ,jI,rfl,rfl,rfl,r,h):=h;cases i with
  |zero=>simp only[wu,X3,Option.some.injEq] at he;subst he;calc#[some a,some (.ref a),9,9,a,9,9,r]
  |succ i=>calc oI h i e (by simpa[wu] using he)
theorem lW:∀{fs:List Bool}{as:zm}{ts:List T}{vs:qak},fj K H A fs as ts vs->∀a∈as,∃t,cT K H A a t
 |[],as,ts,vs,h,a,ha=>by let(rfl,rfl,rfl):=h;cases ha
 |false::fs,as,ts,vs,h,a,ha=>by let(t,gQ,v,jI,rfl,rfl,_,h):=h;calc lW h a ha
 |true::fs,as,ts,vs,h,a,ha=>by
  let(b,rH,t,gQ,jI,rfl,rfl,rfl,r,h):=h;rcases cY.mp ha with z|z
  subst z;calc#[t,r];calc lW h a z
theorem FD:∀{fs:List Bool}{as:zm}{ts:List T}{vs:qak}(k:Nat),fj K H A fs as ts vs->(pz fs as k).map (·.2)=as/\∀p∈pz fs as k,k<=p.1/\(ro fs as)[p.1-k]?\some p.2
 |[],as,ts,vs,k,h=>by let(rfl,rfl,rfl):=h;calc#[9,λ_ z=>nomatch z]
 |false::fs,as,ts,vs,k,h=>by
  let(t,gQ,v,jI,rfl,rfl,_,h):=h;let(h1,h2):=FD (k+1) h;show#[h1,λp hp=>?_];let(l,e):=h2 p hp;show#[(),?_];have:p.1-k=(p.1-(k+1))+1:=by lia
  rw[this];simpa[ro] using e
 |true::fs,as,ts,vs,k,h=>by
  let(a,rH,t,gQ,jI,rfl,rfl,rfl,_,h):=h;let(h1,h2):=FD (k+1) h;show#[by simp[pz,h1],λp hp=>?_];rcases cY.mp hp with z|z
  subst z;calc#[cv _,by simp[ro]];let(l,e):=h2 p z;show#[(),?_];have:p.1-k=(p.1-(k+1))+1:=by lia
  rw[this];simpa[ro] using e
theorem tH{R:Addr->T->Prop}{ρ:En}:∀{fs:List Bool}{as:zm}{ts:List T}{vs:qak}(k:Nat),fj K H A fs as ts vs->(∀p∈pz fs as k,∃t,ρ[p.1]?\some (t,true)/\R p.2 t)->Paired R as (kA fs (ρ.drop k))
 |[],as,ts,vs,k,h,_=>by let(rfl,rfl,rfl):=h;calc .nil
 |false::fs,as,ts,vs,k,h,q=>by let(t,gQ,v,jI,rfl,rfl,_,h):=h;have:=tH (k+1) h q;simp only[kA,List.tail_drop];calc this
 |true::fs,as,ts,vs,k,h,q=>by
  let(a,rH,t,gQ,jI,rfl,rfl,rfl,_,h):=h;have:=tH (ρ:=ρ) (k+1) h λp hp=>q p (gT _ hp);let(u,e,r):=q (k,a) fM;have hk:=(dy.mp e).1;have e2:ρ[k]\(u,true):=by rw[f_ hk] at e;exact Option.some.inj e
  rw[Tz hk,e2];calc .cons r this
end
theorem FH{N:ω}{fs:List Bool}{as Ox:zm}{ts:List T}{Q:VK}{q:List T->Rt->Prop}{g:FS}(nd:as.Nodup)(nx:∀a∈as,a∉Ox)(ox:∀a∈Ox,H a≠none)(ha:fj X.K H (as++Ox) fs as ts vs)(kk:∀us r,q us r->∀v H',(∀b o,H b\o->b∉as->H' b\o)->Vf X.K H as Ox H' us r v->Q v H')(hq:g {nx:=λρ=>q (kA fs ρ) (.vw .bK),rt:=λρ r=>q (kA fs ρ) r} (wu fs ts++List.replicate (N.length-27) none)) :
  lS X #[H,pz fs as 0,Ox] [] g {nx:=λ_ H'=>Q .bK H',rt:=Q} (start N vs) H:=by
 obtain⟨K,eK⟩:∃K,K=X.K:=#[_,9];unfold lS;rw[<- eK] at ha kk ⊢;let(l1,l2,l3,l4,l5):=iO ha;let(p1,p2):=FD 0 ha;have ea:av #[H,pz fs as 0,Ox] (ro fs as++List.replicate (N.length-27) none)=as++Ox:=by unfold av;rw[dS,l5]
 have I0:ax K #[H,pz fs as 0,Ox] [] (ro fs as++List.replicate (N.length-27) none) (wu fs ts++List.replicate (N.length-27) none) (start N vs) H:=by
  show#[?_,?_,λi e he=>?_,by rw[dS,l5];calc nd,λa h=>?_,λp hp=>?_,ox,λb o e _=>e,λp hp=>nomatch hp];unfold L2.start;simp[l2,l4,l1];simp[l3,l4];rw[ea];by_cases hi:i<fs.length;rw[nL (by rw[l4];calc hi)] at he;let(o,s,h1,h2,h3):=oI ha i e he;show#[o,s,by rw[nL (by rw[l3];calc hi)];calc h1,?_,h3];unfold L2.start;rw[nL (by rw[bL,l2];calc hi)];calc h2;rw[List.getElem?_append_right (),Er] at he;split at he
  rename_i hl
  cases he;show#[none,none,?_,?_,9];rw[sM (),Er,ι (by rw[l3];rw[l4] at hl;calc hl)];unfold L2.start;rw[sM (by rw[bL];lia),Er,bL,ι (by rw[l2];rw[l4,l1] at hl;calc hl)];cases he;rw[dS,l5] at h;let(t,r):=lW ha a h;calc#[.inl (by rw[p1];calc h),nx a h,r.mut];let(_,e):=p2 p hp;rw[Nat.sub_zero] at e;rw[nL (dy.mp e).1];exact e
 have fin:∀{O:HD}{ρ:En}{σ:St}{H':Hp}{Z':Zc},Z'.P=pz fs as 0->ax K Z' [] O ρ σ H'->Paired (λa u=>cT K H' (av Z' O) a u) as (kA fs ρ):=λ{O ρ σ H' Z'} eP I=>by
  have:=tH (ρ:=ρ) (R:=λa u=>cT K H' (av Z' O) a u) 0 ha λp hp=>?_;rw[List.drop_zero] at this;calc this;have e:=I.par p (by rw[eP];calc hp);have hl:=(dy.mp e).1;have Jq:p.1<ρ.length:=by rw[<- I.lO];exact hl
  let(o,s',h1,h2,h3):=I.sl p.1 ρ[p.1] 4;rw[e] at h1;cases h1;cases q:ρ[p.1] with
  |none=>rw[q] at h3;cases h3
  |some tb=>
    let(t,b):=tb;rw[q] at h3;cases b with
    |false=>cases h3.1
    |true=>let(a',e1,_,r):=h3;cases e1;exact#[t,by rw[<- q];simp,r]
 have keep:∀{O:HD}{ρ:En}{σ:St}{H':Hp}{Z':Zc},Z'.H0=H->Z'.P=pz fs as 0->ax K Z' [] O ρ σ H'->∀b o,H b\o->b∉as->H' b\o:=λe0 eP I b o e n=>I.keep b o (by rw[e0];calc e) (by rw[eP,p1];calc n);have sub:∀{O:HD}{ρ:En}{σ:St}{H':Hp}{Z':Zc},Z'.P=pz fs as 0->ax K Z' [] O ρ σ H'->∀a∈as,a∈roots O:=λeP I a h=>by
  have:a∈(pz fs as 0).map (·.2):=by rw[p1];exact h
  let(p,hp,rfl):=gy.mp this;exact aF.mpr (eM (I.par p (by rw[eP];calc hp)))
 show#[_,_,_,I0,hq,#[λO ρ σ H' I h=>?_,λO ρ σ H' r v z h=>?_,λ_ _ _ _ _ h=>h.elim,λ_ _ _ _ _ h=>h.elim]];have sb:∀a∈as++Ox,a∈av #[H,pz fs as 0,Ox] O:=λa h=>by
  rcases gc.mp h with h|h
  calc il _ (sub 9 I a h);exact iC _ h
 calc kk _ _ h .bK H' (keep 9 9 I) #[yR,Paired.m7 (fin 9 I) λ_ _ q=>q.br sb];cases r with
 |vw t=>
   let(I,a):=z;have sb:∀a∈as++Ox,a∈av #[H,pz fs as 0,Ox] O:=λa h=>by
    rcases gc.mp h with h|h
    calc il _ (sub 9 I a h);exact iC _ h
   calc kk _ _ h v H' (keep 9 9 I) #[a.br sb,Paired.m7 (fin 9 I) λ_ _ q=>q.br sb]
 |fr t=>
   let(b,rfl,I,hR,h0,hx):=z;have sb:∀a∈b::(as++Ox),a∈av (Zc.ex #[H,pz fs as 0,Ox] b) O:=λa h=>by
    rcases cY.mp h with h|h
    rw[h];calc iC _ fM;rcases gc.mp h with h|h
    calc il _ (sub 9 I a h);exact iC _ (gT _ h)
   calc kk _ _ h (.ref b) H' (keep 9 9 I) #[b,9,h0,λhb=>(I.own b (sub 9 I b hb)).2.1 fM,hR.br sb,Paired.m7 (fin 9 I) λ_ _ q=>q.br sb]
section
def YC{st:Stmt}{N:ω}{k:Nat}{fs:List Bool}{G:GT}(F:Ef K x qual st f fd)(S:aI N ps (aq st))(hfs:fs.length=ps.length)(gz:∀(bP:Value) (A:Around) (outer:List Env) (s:Shared) (H:Hp) (E:XK) (as Ox:zm),bA k (A.deeper (envOfC qual (aq st) 8 f bP))->∀ts q,27=fs.length->G ts q ->
    ∃g,fW (ke i8 P w K mg base N qual (aq st) f bP A outer s H E).Ed #[H,pz fs as 0,Ox] (cw st) g/\g {nx:=λρ=>q (kA fs ρ) (.vw .bK),rt:=λρ r=>q (kA fs ρ) r} (wu fs ts++List.replicate (N.length-27) none)) :
  dA P w K mg base i8 (k+1) f fd ps (tG K fs G):=by
 show F.ok S (λvs H Q E h=>?_) (λbP A outer s H vs Q E hr h=>?_);let(ts,as,Ox,q,_,_,_,ha,_):=h;rw[<- hfs];calc (iO ha).2.1;let(ts,as,Ox,q,nd,nx,ox,ha,hG,kk):=h;have l1:=(iO ha).1;let(g,hg,hq):=gz bP A outer s H E as Ox hr ts q l1 hG;calc#[_,hg [],FH nd nx ox ha kk hq]
end
def cD(K:qaf)(n:Nat)(G:List T->(Rt->Prop)->Prop):Sp:=tG K (List.replicate n false) λts q=>G ts (q [])
section
variable{A:zm}
theorem g9:∀{n:Nat}{ts:List T}{vs:qak},27=n->aB K H A ts vs->fj K H A (List.replicate n false) [] ts vs
 |0,ts,vs,l,h=>by have e:ts=[]:=Ni.mp l;subst e;simp only[aB] at h;calc#[9,9,h]
 |n+1,ts,vs,l,h=>by
  cases ts with
  |nil=>simp at l
  |cons t ts=>simp only[aB] at h;let(v,r,rfl,h1,h2):=h;calc#[t,ts,v,r,9,9,h1,g9 (by simpa using l) h2]
end
def ax.NR{Z:Zc}{tm:List (T×V)}{ρ:En}(I:ax K Z tm O ρ σ H)(h:H a=none)(s:aP H H'){u:HO}(hu:H' a\u):ax K (Z.ex a) tm O ρ σ H':=by
 have J:=I.same s;let(n1,n2,n3):=I.fresh h;have mr:∀b∈av (Z.ex a) O,b∈av Z O\/H b=none:=λb hb=>(cO b hb).imp id λe=>by rw[e];exact h
 have fw:∀{t:T}{v:V},At K H (av Z O) t v->At K H' (av (Z.ex a) O) t v:=λq=>(q.more mr).same s;show#[J.lσ,J.lO,λi e hi=>?_,J.nd,λb hb=>?_,J.par,λb hb=>?_,J.keep,λp hp=>fw (I.kj p hp)];let(o,w,h1,h2,h3):=I.sl i e hi;show#[o,w,h1,h2,h3.map (λ_ _ q=>fw q) λb t eo q=>?_];calc cT.same (q.map 9 λ_ _ z=>z.more mr) s;let(q1,q2,q3):=J.own b hb;show#[q1,λz=>?_,q3];rcases cY.mp z with z|z
 calc n1 (by rw[<- z];calc il _ hb);calc q2 z;rcases cY.mp hb with z|z
 rw[z,hu];simp;calc J.ox b z
def tI(n:Nat)(g:FA)(G:List T->(Rt->Prop)->Prop):FP:=λρ Q=>g ρ λts=>27=n/\G ts Q
section
variable{Z:Zc}{k:Nat}{G:List T->(Rt->Prop)->Prop}{pos:Pos}{g:FA}
def AZ{tm:List (T×V)}{ρ:En}{ts:List T}{q:Rt->Prop}{Q:VK}(I:ax X.K Z tm O ρ σ H)(a:aB X.K H (av Z O) ts vs)(hn:27=n)(hG:G ts q)(k:∀r,q r->∀v H',aP H H'->iy X.K Z tm O ρ σ H' r v->Q v H'):cD X.K n G (vs++[]) H Q E0:=by
 rw[As];show#[ts,[],av Z O,λ_ r=>q r,Jm,λ_ z=>absurd z eG,I.ND,g9 hn a,hG,λus r hr v H' fr z=>?_];have s:aP H H':=λb o e=>fr b o e eG;cases r with
 |vw t=>calc k _ hr v H' s #[I.same s,z.1]
 |fr t=>
  let(b,rfl,hb,_,hR,_):=z;let(n1,n2,n3):=I.fresh hb;let(u,eu,_):=hR.mut;show k _ hr _ H' s #[b,9,I.NR hb s eu,hR.br λc hc=>?_,n3,n2];rcases cO c hc with z|z
  calc gT _ z;rw[z];calc fM
def cy(F:dA 39 X.w X.K X.mg X.base i8 k f fd ps (cD X.K n G))(hr:bA k X.A)(hg:Gl X x)(hm:X.mg x\.ref f)(hk:W.keepIn X.K (.ref f)=true)(hb:Binds X.K fd ps [])(ha:VA X Z (e::es) g)(qx:f9 x:=by decide)(he:starEach (e::es) 19=(false,eval e 19)::starEach es 19:=by rfl)(jn:(backTo pos (starEach es 19)).any (·.1)=false:=by rfl) :
  VP X Z (.Call 52 (e::es) [] pos) (tI n g G):=.mk λtm=>PE.weak (gX F hr hg hm hk hb .nil jH (ha tm) qx he jn) λσ H Q #[ρ,O,q,I,hf,k] =>
 #[ρ,O,_,I,hf,λts gw vs H1 s1 a1=>AZ (I.same s1) a1 gw.1 gw.2 λr hr v H' s z=>k r hr v H' (s1.trans s) z]
end
def AM(K:qaf)(H:Hp)(A:zm)(O:HD)(ρ:En):List (Option Nat)->List T->qak->Prop
 |[],ts,vs=>ts=[]/\vs=[]
 |none::ms,ts,vs=>∃t gQ v jI,ts=t::gQ/\vs=v::jI/\At K H A t v/\AM K H A O ρ ms gQ jI
 |some k::ms,ts,vs=>∃a t gQ jI,ts=t::gQ/\vs=.ref a::jI/\ρ[k]?\some (t,true)/\O[k]?\some a/\AM K H A O ρ ms gQ jI
def lAM(X:Cx)(Z:Zc)(tm:List (T×V))(ms:List (Option Nat))(f:FA):TA:=λσ H Q=>E3 λρ O q=>ax X.K Z tm O ρ σ H/\f ρ q/\∀ts,q ts->∀vs H',aP H H'->AM X.K H' (av Z O) O ρ ms ts vs->Q vs H'
def Qm(X:Cx)(Z:Zc)(es:qap)(ms:List (Option Nat))(f:FA):Prop:=Bx λtm=>PA X es (lAM X Z tm ms f)
instance{X:Cx}{Z:Zc}{es:qap}{ms:List (Option Nat)}{f:FA}:CoeFun (Qm X Z es ms f) λ_=>∀tm,PA X es (lAM X Z tm ms f):=#[λh=>Bx.h h]
def FJ(i:Nat):FE:=λρ Q=>match ρ[i]? with
 |some (some (t,true))=>Q t
 |_=>False
section
variable{Z:Zc}{g:FA}
def A0:Qm X Z [] [] tu:=.mk λtm=>PA.weak cQ λσ H Q #[ρ,O,q,I,hf,k]=>k _ hf [] H 43 #[9,9]
def fm{ms:List (Option Nat)}{f:FE}(h:VE X Z e f)(h':Qm X Z es ms g)(hs:starEach (e::es) 19=(false,eval e 19)::starEach es 19:=by rfl):Qm X Z (e::es) (none::ms) (fS f g) :=
 .mk λtm=>PA.weak (bw (h tm) (h' tm) hs) λσ H Q #[ρ,O,q,I,hf,k]=>#[ρ,O,_,I,hf,λt ht v H1 s1 a1=>#[ρ,O,_,I.same s1,ht,λts gw vs H2 s2 a2=>k _ gw _ H2 (s1.trans s2) #[t,ts,v,vs,9,9,a1.same s2,a2]]]
def nR(j:Nat){ms:List (Option Nat)}{py:Pos}(h':Qm X Z es ms g)(hN:X.N[j]?\y:=by rfl)(hv:m8 41 y:=by calc jvv 9)(hd:f9 y:=by decide)(gv:q_ y:=by decide)(hs:starEach (.Name y py::es) 19=(false,eval (.Name y py) 19)::starEach es 19:=by rfl):Qm X Z (.Name y py::es) (some j::ms) (fS (FJ j) g) :=
 .mk λtm=>PA.weak (bw (cA hN hv hd gv) (h' tm) hs) λσ H Q #[ρ,O,q,I,hf,k]=>by
  have YD:FJ j ρ λt=>g ρ λts=>q (t::ts):=hf;unfold FJ at YD;split at YD
  rename_i t e0
  let(a,h1,h2,h3):=I.root e0;calc#[.ref a,h2,ρ,O,_,I,YD,λts gw vs H2 s2 a2=>k _ gw _ H2 s2 #[a,t,ts,vs,9,9,e0,h1,a2]];calc YD.elim
end
def putK:qao->List T->En->En
 |k::ks,u::us,ρ=>putK ks us (ρ.set k (some (u,true)))
 |_,_,ρ=>ρ
theorem oJ:∀(ks:qao)(us:List T)(ρ:En),(putK ks us ρ).length=ρ.length
 |[],_,_=>rfl
 |_::_,[],_=>rfl
 |k::ks,u::us,ρ=>by rw[putK,oJ];simp
theorem wx:∀{ks:qao}{us:List T}{ρ:En}{i:Nat}{e:Option (T×Bool)},ks.Nodup->ks.length=us.length->(putK ks us ρ)[i]?\e->(i∉ks/\ρ[i]?\e)\/∃(j:Nat)(u:T),ks[j]?\i/\us[j]?\u/\e\(u,true)
 |[],us,ρ,i,e,_,_,h=>.inl #[eG,h]
 |k::ks,[],ρ,i,e,_,l,h=>by simp at l
 |k::ks,u::us,ρ,i,e,nd,l,h=>by
  rw[oa] at nd;rcases wx nd.2 (by simpa using l) (show (putK ks us (ρ.set k (some (u,true))))[i]?\e from h) with⟨h1,h2⟩|⟨j,u',h1,h2,h3⟩
  rcases get_set h2 with⟨rfl,rfl,_⟩|⟨ne,h2⟩
  calc .inr #[0,u,9,9,9];calc .inl #[λz=>by rcases cY.mp z with z|z;calc ne z;calc h1 z,h2];calc .inr #[j+1,u',by simpa using h1,by simpa using h2,h3]
section
variable{A:zm}
def At.Qn{as:zm}{t:T}(fr:∀b o,H b\o->b∉as->H' b\o)(sub:∀a∈as,a∈A)(mu:∀a∈as,∃u,H a\u/\nA u=true)(h:At K H A t v):At K H' A t v:=by
 show At.map (H:=H) (H':=H') (λb vs q=>?_) (λb vs q=>?_) (λb bf q=>?_) (λb vs q=>fr _ _ q λm=>by let(u,eu,mm):=mu b m;rw[q] at eu;cases eu;cases mm) h
 obtain q|q:=q
 show .inl #[?_,q.2];have nb:b∉as:=λz=>q.2 (sub b z);obtain z|⟨o',z⟩:=q.1
 calc .inl (fr _ _ z nb);calc .inr #[o',fr _ _ z nb];calc .inr q;obtain z|z:=q
 show .inl ?_;have nb:b∉as:=λm=>by
  let(u,eu,mu):=mu b m;obtain z|⟨o',z⟩:=z
  rw[z] at eu;cases eu;cases mu;rw[z] at eu;cases eu;cases mu
 obtain z|⟨o',z⟩:=z
 calc .inl (fr _ _ z nb);calc .inr #[o',fr _ _ z nb];calc .inr z;calc#[fr _ _ q.1 λz=>q.2 (sub b z),q.2]
theorem AM.args{A':zm}{O:HD}{ρ:En}(sub:∀a∈A',a∈A)(hr:∀(k:Nat) t,ρ[k]?\some (t,true)->∃a,O[k]?\some a/\cT K H A a t):∀{ms:List (Option Nat)}{ts:List T}{vs:qak},AM K H A O ρ ms ts vs ->
  ∃as,fj K H A' (ms.map Option.isSome) as ts vs/\Paired (λa k=>O[k]?\some a) as (ms.filterMap id)
 |[],ts,vs,h=>#[[],#[9,h.1,h.2],.nil]
 |none::ms,ts,vs,h=>by let(t,gQ,v,jI,rfl,rfl,a,h):=h;let(as,h1,h2):=AM.args sub hr h;calc#[as,#[t,gQ,v,jI,9,9,a.br sub,h1],h2]
 |some k::ms,ts,vs,h=>by let(a,t,gQ,jI,rfl,rfl,e0,e1,h):=h;let(as,h1,h2):=AM.args sub hr h;let(a',e2,r):=hr k t e0;rw[e1] at e2;cases e2;calc#[a::as,#[a,as,t,gQ,jI,9,9,9,r.br sub,h1],.cons e1 h2]
end
def Qo(ms:List (Option Nat))(g:FA)(G:GT):FX:=λρ Q=>g ρ λts=>G ts λus r=>Q (putK (ms.filterMap id) us ρ) r
section
variable{Z:Zc}{k:Nat}{fs:List Bool}{G:GT}{pos:Pos}{g:FA}{ms:List (Option Nat)}
theorem wy{tm:List (T×V)}{ρ:En}(I:ax K Z tm O ρ σ H)(h1:O[i]?\some a)(h2:O[j]?\some a):i=j:=by
 have key:∀(O:HD)(i j:Nat),i<j->O[i]?\some a->O[j]?\some a->(roots O).Nodup->False:=by
  intro O;induction O with
  |nil=>intro i j _ h;simp at h
  |cons o O ih=>
   intro i j S7 e1 e2 nd;cases j with
   |zero=>lia
   |succ j=>
    have CB:O[j]?\some a:=by simpa using e2
    cases i with
    |zero=>
     have:o\a:=by simpa using e1
     subst this;simp only[roots,rf,id] at nd;calc (oa.mp nd).1 (aF.mpr (eM CB))
    |succ i=>
     show ih i j () (by simpa using e1) CB ?_;cases o with
     |none=>simpa[roots] using nd
     |some b=>simp only[roots,rf,id] at nd;exact (oa.mp nd).2
 rcases Nat.lt_trichotomy i j with l|l|l
 calc (key O i j l h1 h2 I.nd).elim;calc l;calc (key O j i l h2 h1 I.nd).elim
theorem fq{α β:Type}{F:α->β->Prop}:∀{l₁:List α}{l₂:List β}{a:α},Paired F l₁ l₂->a∈l₁->∃b∈l₂,F a b
 |_,_,_,.nil,h=>nomatch h
 |_,_,a,.cons r t,h=>by
  rcases cY.mp h with z|z
  subst z;calc#[_,fM,r];let(b,h1,h2):=fq t z;calc#[b,gT _ h1,h2]
theorem oK{α β:Type}{F:α->β->Prop}:∀{l₁:List α}{l₂:List β}{i:Nat}{b:β},Paired F l₁ l₂->l₂[i]?\b->∃a,l₁[i]?\a/\F a b
 |_,_,_,_,.nil,e=>by simp at e
 |_,_,0,_,.cons r _,e=>by simp at e;subst e;calc#[_,9,r]
 |_,_,i+1,b,.cons _ t,e=>by let(a,h1,h2):=oK (i:=i) (b:=b) t (by simpa using e);calc#[a,by simpa using h1,h2]
theorem d6{α β:Type}{F:α->β->Prop}:∀{l₁:List α}{l₂:List β}{i:Nat}{a:α},Paired F l₁ l₂->l₁[i]?\a->∃b,l₂[i]?\b/\F a b
 |_,_,_,_,.nil,e=>by simp at e
 |_,_,0,_,.cons r _,e=>by simp at e;subst e;calc#[_,9,r]
 |_,_,i+1,b,.cons _ t,e=>by let(a,h1,h2):=d6 (i:=i) (a:=b) t (by simpa using e);calc#[a,by simpa using h1,h2]
def ax.called{Z':Zc}{tm:List (T×V)}{ρ:En}{as:zm}{ks:qao}{us:List T}(I:ax K Z tm O ρ σ H)(hk:Paired (λa k=>O[k]?\some a) as ks)(nk:ks.Nodup)(fr:∀b o,H b\o->b∉as->H' b\o)(hu:Paired (λa u=>cT K H' (av Z' O) a u) as us)(hZ:Z'.H0=Z.H0)(hP:Z'.P=Z.P)(hox:∀a∈Z'.Ox,a∉roots O/\H' a≠none)(more:∀a∈av Z' O,a∈av Z O\/H a=none):ax K Z' tm O (putK ks us ρ) σ H':=by
 have yX:∀a∈as,a∈roots O:=λa h=>by let(k,_,e):=fq hk h;exact aF.mpr (eM e)
 have sub:∀a∈as,a∈av Z O:=λa h=>il _ (yX a h);have ac2:∀a∈as,a∈av Z' O:=λa h=>il _ (yX a h);have mu:∀a∈as,∃u,H a\u/\nA u=true:=λa h=>(I.own a (yX a h)).2.2;have fw:∀{t:T}{v:V},At K H (av Z O) t v->At K H' (av Z' O) t v:=λq=>(q.more more).Qn fr ac2 mu;have YE:∀{t:List T}{v:qak},aB K H (av Z O) t v->aB K H' (av Z' O) t v:=λq=>aB.iff.mpr (Paired.m7 (aB.iff.mp q) λ_ _ z=>fw z);show#[by rw[oJ];calc I.lσ,by rw[oJ];calc I.lO,λi e h=>?_,I.nd,λb hb=>?_,by rw[hP];calc I.par,λa ha=>(hox a ha).2,λb o e n=>?_,λp hp=>fw (I.kj p hp)];rcases wx nk (by rw[<- JG hk,JG hu]) h with⟨h1,h2⟩|⟨j,u,h1,h2,rfl⟩
 let(o,s,g1,g2,g3):=I.sl i e h2;show#[o,s,g1,g2,g3.map (λ_ _ q=>fw q) λb t eo q=>?_];subst eo;have nb:b∉as:=λm=>by let(k,yY,CI):=fq hk m;exact h1 (by rw[wy I g1 CI];calc yY)
 let(u,eu,_):=q.mut;calc q.map (by rw[eu];calc fr _ _ eu nb) λ_ _ z=>YE z;let(a,ha,r):=oK hu h2;let(k,yY,CI):=d6 hk ha;rw[h1] at yY;cases yY;have hl:i<ρ.length:=by rw[<- I.lO];exact (dy.mp CI).1
 let(o,s,g1,g2,g3):=I.sl i ρ[i] 4;rw[CI] at g1;cases g1;show#[some a,s,CI,g2,a,9,?_,r];cases q:ρ[i] with
 |none=>rw[q] at g3;cases g3
 |some tb=>
  let(t,b):=tb;rw[q] at g3;cases b with
  |false=>cases g3.1
  |true=>let(a',e1,e2,_):=g3;cases e1;exact e2
 let(q1,q2,v,e,m):=I.own b hb;show#[by rw[hZ,hP];calc q1,λz=>(hox b z).1 hb,?_];by_cases hba:b∈as;let(j,hj):=JA.mp hba;let(u,_,r):=d6 hu hj;calc r.mut;calc#[v,fr _ _ e hba,m];rw[hZ] at e;rw[hP] at n;show fr _ _ (I.keep b o e n) λm=>?_;rcases (I.own b (yX b m)).1 with z|z
 calc n z;rw[z] at e;cases e
def wz(F:dA 39 X.w X.K X.mg X.base i8 k f fd ps (tG X.K fs G))(hr:bA k X.A)(hg:Gl X x)(hm:X.mg x\.ref f)(hk:W.keepIn X.K (.ref f)=true)(hb:Binds X.K fd ps [])(ha:Qm X Z (e::es) ms g)(hfs:ms.map Option.isSome=fs:=by rfl)(Js:(ms.filterMap id).Nodup:=by decide)(qx:f9 x:=by decide)(he:starEach (e::es) 19=(false,eval e 19)::starEach es 19:=by rfl)(jn:(backTo pos (starEach es 19)).any (·.1)=false:=by rfl) :
  VX X Z (.Call 52 (e::es) [] pos) (Qo ms g G):=.mk λtm=>PE.weak (gX F hr hg hm hk hb .nil jH (ha tm) qx he jn) λσ H Q #[ρ,O,q,I,hf,k] =>
 #[ρ,O,_,I,hf,λts gw vs H1 s1 a1=>by
   subst hfs;change tG X.K _ G (vs++[]) H1 Q E0;rw[As];have J:=I.same s1;let(as,h1,h2):=AM.args (A':=av Z O) (λ_ z=>z) (λk t e=>by let(a,q1,q2,q3):=J.root e;calc#[a,q1,q3]) a1;have yX:∀a∈as,a∈roots O:=λa h=>by let(k,_,e):=fq h2 h;exact aF.mpr (eM e)
   have ndA:as.Nodup:=by
    clear h1;have:∀{as:zm}{ks:qao},ks.Nodup->Paired (λa k=>O[k]?\some a) as ks->as.Nodup:=by
     intro as ks nd h;induction h with
     |nil=>calc Jm
     |cons r t ih=>rw[oa] at nd ⊢;show#[λm=>?_,ih nd.2];let(k',m1,m2):=fq t m;exact nd.1 (by rw[wy J r m2];calc m1)
    exact this Js h2
   have YF:∀b,b∈as++(av Z O).filter (λb=>decide (b∉as))↔b∈av Z O:=λb=>by rw[gc,D_];constructor;rintro (z|z);calc il _ (yX b z);calc z.1;intro z;by_cases hb:b∈as;calc .inl hb;exact .inr #[z,ο hb]
   let(rH,K0,qI):=AM.args (A':=as++(av Z O).filter (λb=>decide (b∉as))) (λb z=>(YF b).mp z) (λk t e=>by let(a,q1,q2,q3):=J.root e;calc#[a,q1,q3]) a1;have ee:rH=as:=by
    have:∀{as rH:zm}{ks:qao},Paired (λa k=>O[k]?\some a) as ks->Paired (λa k=>O[k]?\some a) rH ks->rH=as:=by
     intro as rH ks h h';induction h generalizing rH with
     |nil=>cases h';rfl
     |cons r t ih=>
       cases h' with
       |cons r' t'=>rw[r] at r';cases r';rw[ih t']
    exact this h2 qI
   subst ee;show#[ts,rH,(av Z O).filter (λb=>decide (b∉rH)),_,ndA,λa h z=>?_,λa h=>J.ND a (D_.mp h).1,K0,gw,λus r hr v H' fr z=>?_];calc (ψ (D_.mp z).2) h;have Vg:∀a∈Z.Ox,a∉roots O/\H' a≠none:=λa h=>by
    have na:a∉roots O:=λm=>(J.own a m).2.1 h;show#[na,?_];cases e:H1 a with
    |none=>calc absurd e (J.ox a h)
    |some u=>rw[fr _ _ e λm=>na (yX a m)];simp
   cases r with
   |vw t=>let(z1,z2):=z;calc k _ _ hr O v H' #[J.called h2 Js fr (Paired.m7 z2 λ_ _ q=>q.br λb hb=>(YF b).mpr hb) 9 9 Vg λa h=>.inl h,z1.br λb hb=>(YF b).mpr hb]
   |fr t=>
     let(b,rfl,hb,nb,hR,z2):=z;let(n1,n2,n3):=J.fresh hb;have sb:∀c∈av (Z.ex b) O,c∈b::(rH++(av Z O).filter (λb=>decide (b∉rH))):=λc hc=>by
      rcases cO c hc with z|z
      calc gT _ ((YF c).mpr z);rw[z];exact fM
     show k _ _ hr O _ H' #[b,9,J.called h2 Js fr (Paired.m7 z2 λ_ _ q=>q.br sb) 9 9 (λa h=>?_) (λa h=>(cO a h).imp id λe=>by rw[e];calc hb),hR.br sb,n3,n2];rcases cY.mp h with z|z
     subst z;let(u,eu,_):=hR.mut;calc#[λm=>n1 (il _ m),by rw[eu];simp];calc Vg a z]
end
section
variable(K:qaf)
theorem tJ:PySem.W.kitOne K (.type "int") (.type "bool")\false:=by kernel_rfl
theorem wB:PySem.W.kitOne K (.type "int") (.type "str")\false:=by kernel_rfl
theorem qJ:PySem.W.kitOne K (.type "bool") (.type "bool")\true:=by kernel_rfl
theorem tK:PySem.W.kitOne K (.type "bool") (.type "str")\false:=by kernel_rfl
theorem tM:PySem.W.kitOne K (.type "str") (.type "bool")\false:=by kernel_rfl
theorem wC:PySem.W.kitOne K (.type "str") (.type "str")\true:=by kernel_rfl
theorem qK:PySem.W.kitOne K (.type "list") (.type "bool")\false:=by kernel_rfl
theorem tO:PySem.W.kitOne K (.type "list") (.type "str")\false:=by kernel_rfl
theorem oM:PySem.W.kitOne K (.type "tuple") (.type "bool")\false:=by kernel_rfl
theorem qL:PySem.W.kitOne K (.type "tuple") (.type "str")\false:=by kernel_rfl
theorem qM:PySem.W.kitOne K (.type "dict") (.type "bool")\false:=by kernel_rfl
theorem tP:PySem.W.kitOne K (.type "dict") (.type "str")\false:=by kernel_rfl
theorem kB:PySem.W.kitOne K (.type "NoneType") (.type "bool")\false:=by kernel_rfl
theorem lY:PySem.W.kitOne K (.type "NoneType") (.type "str")\false:=by kernel_rfl
end
def Ty2(K:qaf)(H:Hp):V->String->Prop
 |.bK,t=>t="NoneType"
 |.bl _,t=>t="bool"
 |.int _,t=>t="int"
 |.str _,t=>t="str"
 |.ref a,t=>(t="list"/\∃xs,fQ K H a xs)\/(t="tuple"/\∃xs,dJ K H a xs)\/(t="dict"/\∃bf,H a\.dK bf)
 |_,_=>False
def Vh(K:qaf):qak->Hp->VK->Prop:=λxs H Q=>E4 λx n t b=>xs=[x,.ty n]/\Ty2 K H x t/\W.kitOne K (.type t) (.type n)\b/\Q (.bl b) H
def CJ:cV X (.builtin "isinstance") (Vh X.K):=by
 intro ε s σ H xs us Q I r h;let(x,n,t,b,rfl,ty,e,q):=h;let(u,w',rfl,rx,ry):=vals2 r;obtain rfl:=ry;have fin:∀tk,EP X ε σ Q (.bool b) {s with toks:=tk}:=λtk=>#[.bl b,H,I.tok _,9,q];cases x with
 |bK=>cases (show t=_ from ty);cases (show u=Value.none from rx);calc ON W.kitx_none I.vJ True.intro e (λz=>nomatch z) fin
 |bl y=>cases (show t=_ from ty);cases (show u=Value.bool y from rx);calc ON W.kitx_bool I.vJ True.intro e (λz=>nomatch z) fin
 |int i=>cases (show t=_ from ty);let(t,q):=(show ∃t,u=Value.int i t from rx);cases q;calc ON W.kitx_int I.vJ True.intro e (λz=>nomatch z) fin
 |str y=>cases (show t=_ from ty);let(t,q):=(show ∃t,u=Value.str y t from rx);cases q;calc ON W.kitx_str I.vJ True.intro e (λz=>nomatch z) fin
 |ref a=>
  cases (show u=Value.ref a from rx);obtain⟨rfl,xs,hq⟩|⟨rfl,xs,hq⟩|⟨rfl,bf,hq⟩:=ty
  let(aN,_,p,_):=I.list hq;let(o,n',h1,h2,_):=p;calc ON W.kitx_list I.vJ #[o,h1,h2] e (λz=>nomatch z) fin;let(aN,_,p,_):=I.tuple hq;let(o,h1,h2,_):=p;calc ON W.kitx_tuple I.vJ #[o,h1,h2] e (λz=>nomatch z) fin;let(_,_,vs,_,p):=(show bO 39 X.w H 50 a (.dK bf) from I.bC a _ hq);let(o,es,ep,h1,h2,_):=p;calc ON W.kitx_dict I.vJ #[o,h1,h2.1] e (λz=>nomatch z) fin
 |_=>calc (show False from ty).elim
def isBool:T->Bool
 |.bl _=>true
 |_=>false
def isStr:T->Bool
 |.str _=>true
 |_=>false
def known:T->Bool
 |.dt _ _=>false
 |.df _ _ _=>false
 |.kt _=>false
 |.ins _ _ _=>false
 |.pin _ _=>false
 |.ob _=>false
 |.ty _=>false
 |_=>true
def yZ(K:qaf)(n:String)(p:T->Bool):Prop:=∀H A t v,known t=true->gB K H A t v->∃ty,Ty2 K H v ty/\W.kitOne K (.type ty) (.type n)\p t
def CK:yZ K "bool" isBool:=by
 intro H A t v hk h;cases t with
 |bK=>rw[h.bK];calc#[_,9,kB K]
 |bl b=>rw[h.bl];calc#[_,9,qJ K]
 |int b=>rw[h.int];calc#[_,9,tJ K]
 |str b=>rw[h.str];calc#[_,9,tM K]
 |tup l=>let(a,vs,rfl,q,_):=h.tup;calc#[_,.inr (.inl #[9,_,q]),oM K]
 |lst l=>let(a,vs,rfl,q,_):=h.lst;calc#[_,.inl #[9,_,q],qK K]
 |dk ks l=>let(a,vs,rfl,_,q,_):=h.dk;calc#[_,.inr (.inr #[9,_,q]),qM K]
 |_=>simp only[known] at hk;cases hk
def d7:yZ K "str" isStr:=by
 intro H A t v hk h;cases t with
 |bK=>rw[h.bK];calc#[_,9,lY K]
 |bl b=>rw[h.bl];calc#[_,9,tK K]
 |int b=>rw[h.int];calc#[_,9,wB K]
 |str b=>rw[h.str];calc#[_,9,wC K]
 |tup l=>let(a,vs,rfl,q,_):=h.tup;calc#[_,.inr (.inl #[9,_,q]),qL K]
 |lst l=>let(a,vs,rfl,q,_):=h.lst;calc#[_,.inl #[9,_,q],tO K]
 |dk ks l=>let(a,vs,rfl,_,q,_):=h.dk;calc#[_,.inr (.inr #[9,_,q]),tP K]
 |_=>simp only[known] at hk;cases hk
def Vi(f:FE)(p:T->Bool):FP:=λρ Q=>f ρ λt=>known t=true/\Q (.vw (.bl (p t)))
section
variable{Z:Zc}{a:Expr}{pos:Pos}{fa fb YG:FE}
def tQ:bootBuiltins "isinstance"\.builtin "isinstance":=by decide +kernel
def eR{n:String}{q:T->Bool}(hq:yZ X.K n q)(hg:Gl X "isinstance")(hm:X.mg "isinstance"=none)(hgy:Gl X y)(hmy:X.mg y=none)(hby:bootBuiltins y\.type n)(ha:VR X Z e fa)(hny:y≠"__name__":=by decide)(hdy:f9 y:=by decide)(hs:starEach [e,.Name y p2] 19=(false,eval e 19)::starEach [.Name y p2] 19:=by rfl)(Cq:starEach [.Name y p2] 19=(false,eval (.Name y p2) 19)::starEach [] 19:=by rfl)(jn:(backTo pos (starEach [.Name y p2] 19)).any (·.1)=false:=by rfl) :
  VP X Z (.Call (.Name "isinstance" p) [e,.Name y p2] [] pos) (Vi fa q):=.mk λtm=>
 PE.weak (oq CJ hg hm tQ (bw (ha tm) (bw (JQ (v:=.ty n) hgy hmy hby rfl hny hdy) cQ Cq) hs) 5 5 hs jn) λσ H Q #[ρ,O,q',I,hf,k]=>#[ρ,O,_,I,hf,λt ht v H1 s1 a1=>by let(ty,h1,h2):=hq H1 _ t v ht.1 a1;calc#[v,n,ty,_,9,h1,h2,k _ ht.2 _ H1 s1 #[I.same s1,dO]]]
def jJ:T->Bool
 |.bK=>true
 |.bl _=>true
 |.int _=>true
 |.str _=>true
 |_=>false
def wD:List T->Bool
 |[]=>true
 |t::ts=>jJ t && wD ts
def Eh(x:T):List T->Bool
 |[]=>false
 |t::ts=>eqT t x || Eh x ts
theorem lZ{K:qaf}{H:Hp}{A:zm}:∀{ts:List T}{vs:qak}{x:T}{v:V},wD ts=true->jJ x=true->aB K H A ts vs->At K H A x v->vs.all iK=true/\iK v=true/\Yn v vs=Eh x ts
 |[],vs,x,v,_,fx,h,hx=>by simp only[aB] at h;subst h;show#[9,?_,9];cases x<;>simp only[At] at hx<;>first|(subst hx;rfl)|(simp only[jJ] at fx;cases fx)
 |t::ts,vs,x,v,f,fx,h,hx=>by
  let(u,r,rfl,h1,h2):=h;simp only[wD,iE] at f;let(i1,i2,i3):=lZ f.2 fx h2 hx;have ft:iK u=true:=by cases t<;>simp only[At] at h1<;>first|(subst h1;rfl)|(have:=f.1;simp only[jJ] at this;cases this)
  have e:Jr u v=eqT t x:=by
   cases t<;>simp only[At] at h1<;>first
    | (have:=f.1;simp only[jJ] at this;cases this;done)
    | (subst h1
       cases x<;>simp only[At] at hx<;>first
        | (simp only[jJ] at fx;cases fx;done)
        | (subst hx;simp[Jr,eqT];done))
  show#[by simp[ft,i1],i2,?_];simp only[Eh,Yn,Ca]
  congr 1
def Vj(K:qaf)(neg:Bool):R2:=λx y H Q=>rIn K neg x y H Q\/E2 λi j=>x=.str i/\y=.str j/\Q (.bl (if neg then !(!(Builtin.Str.occurrences j i 0 j.length 1).isEmpty) else !(Builtin.Str.occurrences j i 0 j.length 1).isEmpty)) H
def FK:eX X (compareOp .In) (Vj X.K false):=by
 intro ε s σ H x y v u Q I rx ry h;obtain h|⟨i,j,h1,h2,h⟩:=h
 calc Cv ε s σ H x y v u Q I rx ry h;calc Ck ε s σ H x y v u Q I rx ry #[i,j,h1,h2,by simpa using h]
def FL(i j:Str):Bool:=!(Builtin.Str.occurrences j i 0 j.length 1).isEmpty
def YH(x y:T)(q:Rt->Prop):Prop:=match y with
 |.lst ts=>jJ x=true/\wD ts=true/\q (.vw (.bl (Eh x ts)))
 |.tup ts=>jJ x=true/\wD ts=true/\q (.vw (.bl (Eh x ts)))
 |.str j=>∃i,x=.str i/\q (.vw (.bl (FL i j)))
 |_=>False
def FN:nQ K (Vj K false) YH:=by
 intro Z tm O ρ σ H x y v w q Q I h1 h2 h k;have x1:jJ x=true->At K H (av Z O) x v:=λf=>by
  obtain h|⟨a,rfl,h⟩:=h1
  calc h;cases x<;>first|exact h.elim|(simp only[jJ] at f;cases f)
 unfold YH at h;split at h;let(f1,f2,h):=h;let(a,vs,rfl,q1,q2):=h2.lst;let(i1,i2,i3):=lZ f2 f1 q2 (x1 f1);calc .inl #[a,vs,9,.inl q1,i2,i1,k _ h _ H 43 #[I,by rw[θ jk,i3];calc dO]];let(f1,f2,h):=h;let(a,vs,rfl,q1,q2):=h2.tup;let(i1,i2,i3):=lZ f2 f1 q2 (x1 f1);calc .inl #[a,vs,9,.inr q1,i2,i1,k _ h _ H 43 #[I,by rw[θ jk,i3];calc dO]];let(i,rfl,h):=h;calc .inr #[i,_,h1.str,h2.str,k _ h _ H 43 #[I,by rw[θ jk];calc dO]];calc h.elim
def Vk(ha:VR X Z a fa)(hb:VR X Z b fb)(hm:behindInMarks .In b=false:=by rfl):VP X Z (.Compare a [.In] [b] pos) (f2 fa fb YH):=s_ FK FN ha hb hm
def NS(ha:VR X Z a fa)(hb:VR X Z b fb)(hm:behindInMarks .In b=false:=by rfl):VC X Z (.Compare a [.In] [b] pos) (nB (f2 fa fb YH)):=lT FK FN ha hb hm
def A3:T->Bool
 |.bK=>true
 |_=>false
def tR(x y:T)(q:Rt->Prop):Prop:=match y with
 |.bK=>q (.vw (.bl (!A3 x)))
 |_=>False
def K6{A:zm}{t:T}(h:gB K H A t v):decide (v=.bK)=A3 t:=by
 cases t with
 |bK=>rw[h.bK];rfl
 |bl b=>rw[h.bl];rfl
 |int b=>rw[h.int];rfl
 |str b=>rw[h.str];rfl
 |ob b=>rw[h.ob];rfl
 |ty b=>have:=h.elim (λq=>by simpa only[At] using q) λ#[_,_,q]=>q.elim;rw[this];rfl
 |tup l=>let(a,vs,rfl,_):=h.tup;rfl
 |lst l=>let(a,vs,rfl,_):=h.lst;rfl
 |dk ks l=>let(a,vs,rfl,_):=h.dk;rfl
 |dt ks l=>let(a,vs,rfl,_):=h.dt;rfl
 |df o ks l=>let(a,vs,rfl,_):=h.df;rfl
 |kt k=>let(a,rfl,_):=h.kt;rfl
 |ins C ns l=>let(a,dx,vs,rfl,_):=h.ins;rfl
 |pin a t=>have e:=h.elim (λq=>by simp only[At] at q;calc q.1) λ#[_,_,q]=>q.elim;rw[e];rfl
def CM:nQ K (λx y H Q=>y=.bK/\Q (.bl (!decide (x=.bK))) H) tR:=by intro Z tm O ρ σ H x y v w q Q I h1 h2 h k;unfold tR at h;split at h;calc#[h2.bK,k _ h _ H 43 #[I,by rw[K6 h1];calc dO]];calc h.elim
def FQ(ha:VR X Z a fa)(hb:VR X Z b fb):VC X Z (.Compare a [.IsNot] [b] pos) (nB (f2 fa fb tR)):=lT J1 CM ha hb (iH _)
def FR{g g':Int->Int->Bool}{tm:List (T×V)}{Q:VK}(h:lP X Z tm (f3 fa fb YG (U6 g) (U6 g')) σ H Q):EH (qp λi j=>.bl (g i j)) (qp λi j=>.bl (g' i j)) (lR X Z tm fa) (lR X Z tm fb) (lR X Z tm YG) σ H Q:=by
 let(ρ,O,q,I,hf,k):=h;show#[ρ,O,_,I,hf,λx hx v H1 s1 a1=>#[ρ,O,_,I.same s1,hx,λy hy w H2 s2 a2=>?_]];have J:=(I.same s1).same s2;unfold U6 at hy;split at hy
 rename_i i j
 show#[i,j,(a1.same s2).int,a2.int,_,9,?_];cases e:g i j with
 |true=>
  rw[e] at hy;show UP #[ρ,O,_,J,hy,λz hz w3 H3 s3 a3=>?_];split at hz
  rename_i e1
  cases e1;calc#[_,_,(a2.same s3).int,a3.int,k _ hz _ H3 ((s1.trans s2).trans s3) #[J.same s3,dO]];calc hz.elim
 |false=>rw[e] at hy;exact UO (k _ hy _ H2 (s1.trans s2) #[J,dO])
 calc hy.elim
def FT{op Py:CmpOp}{g g':Int->Int->Bool}(ho:eX X (compareOp op) (qp λi j=>.bl (g i j)))(m_:eX X (compareOp Py) (qp λi j=>.bl (g' i j)))(ha:VR X Z a fa)(hb:VR X Z b fb)(hc:VR X Z c YG)(hm:lastMarks [op,Py] [b,c]=false:=by with_unfolding_all rfl):VC X Z (.Compare a [op,Py] [b,c] pos) (nB (f3 fa fb YG (U6 g) (U6 g'))):=.mk λtm=>PT.weak (EI ho m_ (ha tm) (hb tm) (hc tm) hm) λσ H Q #[ρ,O,q,I,hf,k] =>
 FR #[ρ,O,_,I,hf,λt ht u H' s a=>by let(c,rfl,hc):=yS ht;have e:=a.2;calc#[c,e,k c hc H' s]]
def cW(ts:List T):List T:=ts.mapIdx λi t=>.tup [.int (i:Int),t]
def Vl(f:FE):FI:=λρ Q=>f ρ λt=>match t with
 |.lst ts=>Q (cW ts)
 |_=>False
theorem K7{a:Addr}{ts:List T}:Wk K (Ite K a) [(.lst ts,.ref a)] (cW ts):=λH A hA h i=>by
 have h:=h _ fM;let(b,vs,e,l,q):=h;cases e;have hl:=q.length;have hle:(cW ts).length=27:=by unfold cW;rw[List.length_mapIdx]
 show#[λhi=>#[vs,vs[i]'(),l.sq,by simp],λhi=>#[vs,l.sq,()],λt ht x H' y=>?_];let(p,u,hp,rfl,hu,rfl):=y;unfold cW at ht;rw[Sz] at ht;cases e:ts[i]? with
 |none=>rw[e] at ht;cases ht
 |some t'=>rw[e] at ht;cases ht;let(v,e1,e2):=q.get e;have:=hu vs l.sq;rw[e1] at this;cases this;calc#[aE hp,dg (dJ.of aG) (aB.cons bJ (aB.cons (e2.same (aE hp)) aB.nil))]
def fY{x1}(hg:Gl X "enumerate")(hm:X.mg "enumerate"=none)(ha:VE X Z a fa)(hs:starEach [a] 19=[(false,eval a 19)]:=by rfl) :
  VI X Z (.Tuple elts x1 tp) (.Call (.Name "enumerate" p) [a] [] pos) (Vl fa):=.mk λtm=>PI.weak (Kv hg hm (bw (ha tm) cQ hs) hs) λσ H R #[ρ,O,q,I,hf,k]=>#[ρ,O,_,I,hf,λt ht v H' s a=>by
 split at ht;have a0:=a;let(p,vs,rfl,l,_):=a;calc#[p,9,#[vs,l.sq],k _ ht _ H' _ s (λp hp=>by rw[fP.mp hp];calc a0) K7];calc ht.elim]
def dc:List T->Option (List Bool)
 |[]=>some []
 |.bl b::ts=>(dc ts).map (b::·)
 |_=>none
def intsOf:List T->Option (qan)
 |[]=>some []
 |.int b::ts=>(intsOf ts).map (b::·)
 |_=>none
theorem FU{K:qaf}{H:Hp}{A:zm}:∀{ts:List T}{bs:List Bool}{vs:qak},dc ts\bs->aB K H A ts vs->vs=bs.map V.bl
 |[],bs,vs,e,h=>by simp only[dc] at e;cases e;simp only[aB] at h;rw[h];rfl
 |.bl b::ts,bs,vs,e,h=>by
  simp only[dc] at e;cases q:dc ts with
  |none=>rw[q] at e;cases e
  |some cs=>rw[q] at e;cases e;let(v,r,rfl,rfl,h):=h;rw[FU q h];rfl
 |.bK::_,_,_,e,_=>by simp[dc] at e
 |.int _::_,_,_,e,_=>by simp[dc] at e
 |.str _::_,_,_,e,_=>by simp[dc] at e
 |.tup _::_,_,_,e,_=>by simp[dc] at e
 |.lst _::_,_,_,e,_=>by simp[dc] at e
 |.dk _ _::_,_,_,e,_=>by simp[dc] at e
 |.dt _ _::_,_,_,e,_=>by simp[dc] at e
 |.df _ _ _::_,_,_,e,_=>by simp[dc] at e
 |.kt _::_,_,_,e,_=>by simp[dc] at e
 |.ins _ _ _::_,_,_,e,_=>by simp[dc] at e
 |.pin _ _::_,_,_,e,_=>by simp[dc] at e
 |.ob _::_,_,_,e,_=>by simp[dc] at e
 |.ty _::_,_,_,e,_=>by simp[dc] at e
theorem A4{K:qaf}{H:Hp}{A:zm}:∀{ts:List T}{bs:qan}{vs:qak},intsOf ts\bs->aB K H A ts vs->vs=bs.map V.int
 |[],bs,vs,e,h=>by simp only[intsOf] at e;cases e;simp only[aB] at h;rw[h];rfl
 |.int b::ts,bs,vs,e,h=>by
  simp only[intsOf] at e;cases q:intsOf ts with
  |none=>rw[q] at e;cases e
  |some cs=>rw[q] at e;cases e;let(v,r,rfl,rfl,h):=h;rw[A4 q h];rfl
 |.bK::_,_,_,e,_=>by simp[intsOf] at e
 |.bl _::_,_,_,e,_=>by simp[intsOf] at e
 |.str _::_,_,_,e,_=>by simp[intsOf] at e
 |.tup _::_,_,_,e,_=>by simp[intsOf] at e
 |.lst _::_,_,_,e,_=>by simp[intsOf] at e
 |.dk _ _::_,_,_,e,_=>by simp[intsOf] at e
 |.dt _ _::_,_,_,e,_=>by simp[intsOf] at e
 |.df _ _ _::_,_,_,e,_=>by simp[intsOf] at e
 |.kt _::_,_,_,e,_=>by simp[intsOf] at e
 |.ins _ _ _::_,_,_,e,_=>by simp[intsOf] at e
 |.pin _ _::_,_,_,e,_=>by simp[intsOf] at e
 |.ob _::_,_,_,e,_=>by simp[intsOf] at e
 |.ty _::_,_,_,e,_=>by simp[intsOf] at e
def Vm(ts:List T)(q:Rt->Prop):Prop:=match ts with
 |[.lst l]=>∃bs,dc l\bs/\q (.vw (.bl (bs.all id)))
 |_=>False
def CN:iN K (λxs H Q=>∃(p:Addr)(bs:List Bool),xs=[.ref p]/\fQ K H p (bs.map V.bl)/\Q (.bl (bs.all id)) H) Vm:=by intro Z tm O ρ σ H ts vs q Q I h hp k;unfold Vm at hp;split at hp;let(bs,e,hp):=hp;let(v,rfl,a):=cx h;let(p,ws,rfl,q1,q2):=a.lst;rw[FU e q2] at q1;calc#[p,bs,9,q1,k _ hp _ H 43 #[I,dO]];calc hp.elim
def Vn(ts:List T)(q:Rt->Prop):Prop:=match ts with
 |[.lst l]=>∃ns,intsOf l\ns/\q (.vw (.int ns.sum))
 |_=>False
def CO:iN K (λxs H Q=>∃(p:Addr)(ns:qan),xs=[.ref p]/\fQ K H p (ns.map V.int)/\Q (.int ns.sum) H) Vn:=by intro Z tm O ρ σ H ts vs q Q I h hp k;unfold Vn at hp;split at hp;let(bs,e,hp):=hp;let(v,rfl,a):=cx h;let(p,ws,rfl,q1,q2):=a.lst;rw[A4 e q2] at q1;calc#[p,bs,9,q1,k _ hp _ H 43 #[I,bJ]];calc hp.elim
def NT(ts:List T)(q:Rt->Prop):Prop:=match ts with
 |[.int i]=>q (.vw (.int i))
 |[.bl b]=>q (.vw (.int (if b then 1 else 0)))
 |_=>False
def y0:iN K (λxs H Q=>(∃i,xs=[.int i]/\Q (.int i) H)\/∃k,xs=[.bl k]/\Q (.int (if k then 1 else 0)) H) NT:=by intro Z tm O ρ σ H ts vs q Q I h hp k;unfold NT at hp;split at hp;let(v,rfl,a):=cx h;calc .inl #[_,by rw[a.int],k _ hp _ H 43 #[I,bJ]];let(v,rfl,a):=cx h;calc .inr #[_,by rw[a.bl],k _ hp _ H 43 #[I,bJ]];calc hp.elim
def ac3(f:FP)(fb:FE):FP:=λρ Q=>f ρ λr=>match r with
 |.fr (.lst ts)=>fb ρ λy=>match y with
  |.int k=>-(2 ^ 63)<=k/\k<2 ^ 63/\27 * k.toNat<=sizeLine/\Q (.fr (.lst (List.replicate k.toNat ts).flatten))
  |_=>False
 |_=>False
theorem aB.rep{K:qaf}{H:Hp}{A:zm}{ts:List T}{vs:qak}(h:aB K H A ts vs):∀k:Nat,aB K H A (List.replicate k ts).flatten (List.replicate k vs).flatten
 |0=>aB.nil
 |k+1=>by rw[Jj,Jj,TM,TM];calc h.append (aB.rep h k)
def tS{f:FP}(ha:VP X Z a f)(hb:VR X Z b fb):VP X Z (.BinOp a .Mult b pos) (ac3 f fb):=.mk λtm=>PE.weak (Nz PR (ha tm) (hb tm)) λσ H Q #[ρ,O,q,I,hf,k]=>#[ρ,O,_,I,hf,λr hr v H1 s1 z=>by split at hr;let(l,rfl,J,(xs,e,q1),_):=z;show#[ρ,O,_,I.same s1,hr,λy hy w H2 s2 a2=>?_];split at hy;let(h1,h2,h3,hy):=hy;have q2:=(q1.same s2).br gA;calc#[l,_,xs,9,a2.int,s2 _ _ e,h1,h2,by rw[q2.length];calc h3,λp hp=>k _ hy _ _ ((s1.trans s2).trans (aE hp)) (((I.same s1).same s2).wg hp (q2.rep _))];calc hy.elim;calc hr.elim]
end
structure Df(K:qaf)(mg:qae)(x:Str)(st:Stmt)(ps:ω)(f:Addr)(fd:FuncData):Prop where
 F:Ef K x x st f fd
 m:mg x\.ref f
 b:Binds K fd ps []
def cu(P:Program)(w:World)(K:qaf)(mg:qae)(base:Heap)(x:Str)(ps:ω)(k:Nat)(sp:Sp):Prop :=
 ∃f fd,mg x\.ref f/\W.keepIn K (.ref f)=true/\Binds K fd ps []/\dA P w K mg base i8 k f fd ps sp
def Df.gR{st:Stmt}{k:Nat}{sp:Sp}(D:Df K mg x st ps f fd)(F:dA P w K mg base i8 k f fd ps sp):cu P w K mg base x ps k sp :=
 #[f,fd,D.m,D.F.kp,D.b,F]
def i_{Ox:zm}:bj #[H,[],Ox] i:=λ_ z=>nomatch z
section
def jt{st:Stmt}{N:ω}{k:Nat}{G:List T->(Rt->Prop)->Prop}(F:Ef K x qual st f fd)(S:aI N ps (aq st))(hn:n=ps.length)(gz:∀(bP:Value) (A:Around) (outer:List Env) (s:Shared) (H:Hp) (E:XK) (Ox:zm),bA k (A.deeper (envOfC qual (aq st) 8 f bP))->∀ts q,G ts q ->
    ∃g,fW (ke i8 P w K mg base N qual (aq st) f bP A outer s H E).Ed #[H,[],Ox] (cw st) g/\(27=n->g {nx:=λ_=>q (.vw .bK),rt:=λ_ r=>q r} (ts.map (λt=>some (t,false))++List.replicate (N.length-27) none))) :
  dA P w K mg base i8 (k+1) f fd ps (cD K n G):=by
 have hp:∀n as k,pz (List.replicate n false) as k=[]:=by
  intro n;induction n with
  |zero=>intro as k;rfl
  |succ n ih=>intro as k;exact ih as (k+1)
 have hfi:∀n ρ,kA (List.replicate n false) ρ=[]:=by
  intro n;induction n with
  |zero=>intro ρ;rfl
  |succ n ih=>intro ρ;exact ih ρ.tail
 have he:∀n ts,27=n->wu (List.replicate n false) ts=ts.map λt=>some (t,false):=by
  intro n;induction n with
  |zero=>intro ts e;cases ts<;>simp_all [wu]
  |succ n ih=>
    intro ts e;cases ts with
    |nil=>simp at e
    |cons t ts=>rw[Jj,wu,ih ts (by simpa using e)];rfl
 show YC F S (by rw[OI];calc hn) λbP A outer s H E as Ox hr ts q hl hG=>?_;rw[OI] at hl;let(g,h1,h2):=gz bP A outer s H E Ox hr ts (q []) hG;show#[g,by rw[hp];calc h1,?_];rw[he n ts hl];simp only[hfi];calc h2 hl
end
def bA.dI{k:Nat}(r:bA k A):A.units+101<cLine:=by have:=r.un;lia
def l0:bootBuiltins "list"\.type "list":=by decide +kernel
def A5:bootBuiltins "tuple"\.type "tuple":=by decide +kernel
def Vo:bootBuiltins "all"\.builtin "all":=by decide +kernel
def Vp:bootBuiltins "sum"\.builtin "sum":=by decide +kernel
def Vq:bootBuiltins "min"\.builtin "min":=by decide +kernel
def Vr:bootBuiltins "int"\.type "int":=by decide +kernel
def Qp:bootBuiltins "bool"\.type "bool":=by decide +kernel
def mO:bootBuiltins "str"\.type "str":=by decide +kernel
theorem nS:∀{fs:List Bool}{as:zm}{k:Nat},∀p∈pz fs as k,k<=p.1/\fs[p.1-k]?\true
 |[],_,_,p,hp=>nomatch hp
 |false::fs,as,k,p,hp=>by
  let(h1,h2):=nS (fs:=fs) p hp;show#[(),?_];have:p.1-k=(p.1-(k+1))+1:=by lia
  rw[this];simpa using h2
 |true::fs,a::as,k,p,hp=>by
  rcases cY.mp hp with z|z
  subst z;calc#[cv _,by simp];let(h1,h2):=nS (fs:=fs) p z;show#[(),?_];have:p.1-k=(p.1-(k+1))+1:=by lia
  rw[this];simpa using h2
 |true::fs,[],k,p,hp=>by
  let(h1,h2):=nS (fs:=fs) p hp;show#[(),?_];have:p.1-k=(p.1-(k+1))+1:=by lia
  rw[this];simpa using h2
def jK{fs:List Bool}{as Ox:zm}(h:fs[i]?≠some true):bj #[H,pz fs as 0,Ox] i:=λp hp e=>by have:=(nS p hp).2;rw[Nat.sub_zero,e] at this;calc h this
def g_(lo:Int)(n:Nat):(rangeT lo n).length=n:=by unfold rangeT;rw[bL,rh]
def hJ{lo:Int}{t:T}(h:(rangeT lo n)[i]?\t):i<n/\t=.int (lo+(i:Int)):=by
 unfold rangeT at h;rw[d4] at h;cases e:(List.range n)[i]? with
 |none=>rw[e] at h;cases h
 |some j=>rw[e] at h;let(h1,h2):=dy.mp e;rw[List.getElem_range] at h2;rw[rh] at h1;subst h2;cases h;calc#[h1,9]
def di{lo:Int}{h:FG}{g:FS}{d:KS}{ρ:En}(Pv:Nat->En->Prop)(h0:Pv 0 ρ)(hs:∀(i:Nat) ρ',i<n->Pv i ρ'->h (.int (lo+(i:Int))) ρ' λρ2=>g {nx:=Pv (i+1),ct:=Pv (i+1),bk:=d.nx,rt:=d.rt} ρ2)(hd:∀ρ',Pv n ρ'->d.nx ρ'):kx (rangeT lo n) h g d ρ:=#[Pv,h0,λi t ρ' e p=>by let(h1,rfl):=hJ e;calc hs i ρ' h1 p,λρ' p=>hd ρ' (by rw[g_] at p;calc p)]
theorem de{f:α->T}{xs:List α}{h:FG}{g:FS}{d:KS}{ρ:En}(Pv:Nat->En->Prop)(h0:Pv 0 ρ)(hs:∀(i:Nat) x ρ',xs[i]?\x->Pv i ρ'->h (f x) ρ' λρ2=>g {nx:=Pv (i+1),ct:=Pv (i+1),bk:=d.nx,rt:=d.rt} ρ2)(hd:∀ρ',Pv 34 ρ'->d.nx ρ'):kx (xs.map f) h g d ρ:=#[Pv,h0,λi t ρ' e p=>by
 rw[d4] at e;cases q:xs[i]? with
 |none=>rw[q] at e;cases e
 |some x=>rw[q] at e;cases e;calc hs i x ρ' q p,λρ' p=>hd ρ' (by rw[bL] at p;calc p)]
def oN{c:Bool}{A:Prop}(hc:c=true)(h:A):if c=true then A else B:=by rw[ι hc];calc h
def iP{c:Bool}{A:Prop}(hc:c=false)(h:B):if c=true then A else B:=by rw[θ (by rw[hc];calc jk)];calc h
def cU{c A:Prop}[Decidable c](h1:c->A)(h2:¬ c->B):if decide c=true then A else B:=by by_cases h:c;rw[ι (ο h)];calc h1 h;rw[θ (by rw[ς h];calc jk)];calc h2 h
section
def kD{t:Addr}{items:Array Value}{x:Value}(hit:s.heap.IsTupleIter it t i)(ht:s.heap.IsTuple t items)(hx:items[i]?\x)(hQ:∀h',h'.IsTupleIter it t (i+1)->Heap.SameBut it 50 h'->Q x {s with heap:=h'}):wpAny 14 A (Builtin.SmallTypes.nextOf (.ref it)) Q E s:=by
 let(o,ho,hc,hd):=id hit;let(ol,hol,_,nl,Vs):=ht;show ζ (Γ hit.typeIs XZ
  (χ XZ hit.typeIs F.entry_tuple_iterator_next ?_ (F.args_tuple_iterator_next_1 _)))
 change wpAny _ _ (field (.ref it) 0 >>= _) _ _ s;show ζ (Λ ho hd 9 (ζ (Λ ho hd 9 (ζ (aad hol Vs ?_)))));simp only[j6,hx];show ζ (aaw ho hd 4 (η #[x,9,η (hQ _ ?_ (TK ..))]));exact#[_,Heap.get?_update_self _ ho (Obj.isFreed_of_fields (Yd hd _)),(Obj.cls_mapFields ..).trans hc,by
  rw[Yd hd];simp[rawInt]]
def l6{t:Addr}{items:Array Value}(hh:A.handled=none)(hit:s.heap.IsTupleIter it t i)(ht:s.heap.IsTuple t items)(hx:items[i]?=none)(hE:∀h' e,Heap.ExtBut it 50 h'->(∃o,h'.get? e\o/\o.cls=.type "StopIteration")->E (.ref e) {s with heap:=h'}):wpAny 14 A (Builtin.SmallTypes.nextOf (.ref it)) Q E s:=by
 let(o,ho,hc,hd):=id hit;let(ol,hol,_,nl,Vs):=ht;show ζ (Γ hit.typeIs XZ
  (χ XZ hit.typeIs F.entry_tuple_iterator_next ?_ (F.args_tuple_iterator_next_1 _)))
 change wpAny _ _ (field (.ref it) 0 >>= _) _ _ s;show ζ (Λ ho hd 9 (ζ (Λ ho hd 9 (ζ (aad hol Vs ?_)))));simp only[j6,hx];show ζ (aah (ζ (aaw ho hd 4 (ζ (ζ (m:=firstArgMember _ _) (aaA (by first|rfl|(simp only[firstArgMember];rfl)) (Δ (ζ (wpAny_handled ?_)) (by size_fits))))))))
 first|rw[show A.in1.handled=none from hh]|rw[hh]
 calc ζ (η (wpAny_throw (hE _ _ (((TK ..).extBut.push _).push _) #[_,gU _ 9,9])))
end
structure Part(prog:Program)(w:World)(i:Addr)(fp:zm)(n:Nat)(Pv:Nat->Value->Prop)(st:Nat->Heap->Prop):Prop where
 draws:∀A:Around,A.handled=none->Draws prog w A i fp n Pv st
 mem:i∈fp
 fld:∀k h,st k h->∃o vs,h.get? i\o/\o.data=.fields vs
def CP(it l:Addr)(eY:l≠it)(items:Array Value):Part prog w it [it,l] items.size (λi v=>items[i]?\v) (λi h=>h.IsListIter it l i/\h.IsList l items) :=
 #[λA hh=>Draws.list hh it l eY items,by simp,λk h st=>let #[#[o,e,_,d],_]:=st;#[o,_,e,d]]
def y3(it l:Addr)(eY:l≠it)(items:Array Value):Part prog w it [it,l] items.size (λi v=>items[i]?\v) (λi h=>h.IsTupleIter it l i/\h.IsTuple l items) :=
 #[λA hh=>{live:=λ_ _ st=>let #[o,ho,_]:=st.1;#[o,ho],frame:=λ_ _ _ st hk=>#[let #[o,ho,r]:=st.1;#[o,hk it 4 o ho,r],let #[o,ho,r]:=st.2;#[o,hk l 4 o ho,r]],item:=λi s Q E hi st hQ=>kD st.1 st.2 (x:=items[i]) (by simp[hi]) λh' K8 hs'=>hQ _ h' s.toks (by simp[hi]) #[K8,st.2.extBut hs'.extBut eY] hs',done:=λs Q E st hE=>l6 hh st.1 st.2 4 hE},by simp,λk h st=>let #[#[o,e,_,d],_]:=st;#[o,_,e,d]]
def FV(it:Addr)(x:Str)(t:Tok):Part prog w it [it] x.cps.size (λi v=>∃c u,x.cps[i]?\c/\v=.str #[([c].toArray)] u) (λi h=>h.IsStrIter it (strIterType x) x t i):=by
 rcases c_ x with z|z
 rw[z];calc#[λA hh=>Draws.strAscii hh it x t,by simp,λk h st=>let #[o,e,_,d]:=st;#[o,_,e,d]];rw[z];calc#[λA hh=>Draws.strWide hh it x t,by simp,λk h st=>let #[o,e,_,d]:=st;#[o,_,e,d]]
structure Apart(z TI TO i1 i2:Addr)(qq oO:zm):Prop where
 TIz:TI≠z
 TOz:TO≠z
 i1z:i1≠z
 i2z:i2≠z
 TITO:TI≠TO
 TIi1:TI≠i1
 TIi2:TI≠i2
 TOi1:TO≠i1
 TOi2:TO≠i2
 i12:i1≠i2
 z1:z∉qq
 z2:z∉oO
 O1:TO∉qq
 O2:TO∉oO
 x1:i2∉qq
 x2:i1∉oO
section
variable{z TI TO i1 i2:Addr}{qq oO:zm}{n1 n2:Nat}{P1 P2:Nat->Value->Prop}{S1 S2:Nat->Heap->Prop}
def FW{k:Nat}{a b:Value}(hh:A.handled=none)(D:Apart z TI TO i1 i2 qq oO)(p1:Part prog w i1 qq n1 P1 S1)(p2:Part prog w i2 oO n2 P2 S2)(hz:IsZip 50 z TI TO .none)(K9:IsPair 50 TI (.ref i1) (.ref i2))(K_:IsPair 50 TO a b)(h1:S1 k 50)(h2:S2 k 50)(hx:k<n1)(hy:k<n2)(hQ:∀x y h' tk,P1 k x->P2 k y->IsZip h' z TI TO (rawInt 8)->IsPair h' TO x y->S1 (k+1) h'->S2 (k+1) h'->IsPair h' 8 x y->h'.objs.size=8+1 ->
    (∀c o,c≠z->c≠TO->c≠i1->c≠i2->s.heap.get? c\o->h'.get? c\o)->Q 32 {s with heap:=h',toks:=tk}) :
  wpAny 14 A (Builtin.«zip.__next__» #[[.ref z],[]]) (λfin s'=>∃v,fin=.done (.ret v)/\Q v s') E s:=by
 change wpAny _ _ (field (.ref z) 2 >>= _) _ _ _;show ζ (Λ hz 9 9 (ζ (Λ hz 9 9 (ζ (aad K9 9 (ζ (ζ (Λ hz 9 9 (η (ζ (aah (ζ (Λ hz 9 9 (ζ (Θ hz 4 λh₁ Fe y4=>ζ ?_)))))))))))))));have f1:∀{m h h' c},c∉qq->S1 m h->Heap.SameBut c h h'->S1 m h':=λ{m h h' c} hc st sb=>(p1.draws A hh).frame m h h' st λb hb o e=>sb.extBut b o (λq=>hc (q▸hb)) e;have f2:∀{m h h' c},c∉oO->S2 m h->Heap.SameBut c h h'->S2 m h':=λ{m h h' c} hc st sb=>(p2.draws A hh).frame m h h' st λb hb o e=>sb.extBut b o (λq=>hc (q▸hb)) e;show ζ (ζ (aaH (ζ ((p1.draws _ hh).item k _ _ _ hx (f1 D.z1 h1 y4) λx h₂ tk₂ px h1₂ wc=>η ?_))));have FY:=wc.extBut _ _ D.TOi1 (y4.extBut _ _ D.TOz K_);show ζ (aad FY 9 (ζ (aaB FY λh₃ Vt yi=>ζ (wpAny_letGo (η ?_)))));show ζ (ζ (aaH (ζ ((p2.draws _ hh).item k _ _ _ hy (f2 D.O2 (f2 D.x2 (f2 D.z2 h2 y4) wc) yi) λy h₄ tk₄ py h2₄ Ei=>η ?_))));have Vu:=Ei.extBut _ _ D.TOi2 Vt;show ζ (aad Vu 9 (ζ (aaB Vu λh₅ K' Ej=>?_)))
 replace K':IsPair h₅ TO x y:=K'
 show ζ (wpAny_letGo (η (η ?_)));show ζ (aad K' 9 (ζ (wpAny_newTuple ?_)));have hsz:h₅.objs.size=8:=by rw[Ej.1,Ei.1,yi.1,wc.1,y4.1]
 have hz₅:=Ej.extBut _ _ D.TOz.symm (Ei.extBut _ _ D.i2z.symm (yi.extBut _ _ D.TOz.symm (wc.extBut _ _ D.i1z.symm Fe)));have hk₅:∀c o,c≠z->c≠TO->c≠i1->c≠i2->s.heap.get? c\o->h₅.get? c\o:=λc o c1 c2 c3 c4 e=>
  Ej.extBut _ _ c2 (Ei.extBut _ _ c4 (yi.extBut _ _ c2 (wc.extBut _ _ c3 (y4.extBut _ _ c1 e))))
 have h1₅:=f1 D.O1 (f1 D.x1 (f1 D.O1 h1₂ yi) Ei) Ej;have h2₅:=f2 D.O2 h2₄ Ej;have Vv:=dz hz₅;show ζ ?_;have hz₆:IsZip (h₅.push {cls:=.type "tuple",data:=.seq ([x,y].toArray)}) z TI TO .ellipsis:=c9 _ hz₅;show ζ (Θ hz₆ 4 λh₇ hz₇ hs₇=>Θ hz₇ 4 λh₈ hz₈ hs₈=>?_);have up:∀c o,c≠z->h₅.get? c\o->h₈.get? c\o:=λc o c1 e=>hs₈.extBut _ _ c1 (hs₇.extBut _ _ c1 (c9 _ e));have hT₈:=hs₈.extBut _ _ (Cb Vv) (hs₇.extBut _ _ (Cb Vv) (gU _ 9));have hz8:h₈.objs.size=h₅.objs.size+1:=by rw[hs₈.1,hs₇.1,B_]
 have h1₈:=(p1.draws A hh).frame _ _ _ h1₅ λb hb o e=>up b o (λq=>D.z1 (q▸hb)) e;have h2₈:=(p2.draws A hh).frame _ _ _ h2₅ λb hb o e=>up b o (λq=>D.z2 (q▸hb)) e;rw[hsz] at hz₈ hT₈ hz8;show η #[_,9,?_];rw[hsz];calc hQ x y h₈ tk₄ px py hz₈ (up _ _ D.TOz K') h1₈ h2₈ hT₈ hz8 λc o c1 c2 c3 c4 e=>up c o c1 (hk₅ c o c1 c2 c3 c4 e)
def La{k:Nat}{a b:Value}{Q:PySem.Fin->Shared->Prop}(hh:A.handled=none)(D:Apart z TI TO i1 i2 qq oO)(p1:Part prog w i1 qq n1 P1 S1)(p2:Part prog w i2 oO n2 P2 S2)(hz:IsZip 50 z TI TO .none)(K9:IsPair 50 TI (.ref i1) (.ref i2))(K_:IsPair 50 TO a b)(h1:S1 k 50)(h2:S2 k 50)(Qq:k=n1\/(k<n1/\k=n2))(hE:∀h' tk e,(∀c o,c≠z->c≠TO->c≠i1->c≠i2->s.heap.get? c\o->h'.get? c\o)->(∃o,h'.get? e\o/\o.cls=.type "StopIteration")->E (.ref e) {s with heap:=h',toks:=tk}) :
  wpAny 14 A (Builtin.«zip.__next__» #[[.ref z],[]]) Q E s:=by
 have f1:∀{m h h' c},c∉qq->S1 m h->Heap.SameBut c h h'->S1 m h':=λ{m h h' c} hc st sb=>(p1.draws A hh).frame m h h' st λb hb o e=>sb.extBut b o (λq=>hc (q▸hb)) e;have f2:∀{m h h' c},c∉oO->S2 m h->Heap.SameBut c h h'->S2 m h':=λ{m h h' c} hc st sb=>(p2.draws A hh).frame m h h' st λb hb o e=>sb.extBut b o (λq=>hc (q▸hb)) e;change wpAny _ _ (field (.ref z) 2 >>= _) _ _ _;show ζ (Λ hz 9 9 (ζ (Λ hz 9 9 (ζ (aad K9 9 (ζ (ζ (Λ hz 9 9 (η (ζ (aah (ζ (Λ hz 9 9 (ζ (Θ hz 4 λh₁ Fe y4=>ζ (ζ (ζ (aaH ?_))))))))))))))))));obtain rfl|⟨c8,rfl⟩:=Qq
 . show ζ ((p1.draws _ hh).done _ _ _ (f1 D.z1 h1 y4) λh₂ e wc he=>?_);let(oe,Qr,Vw):=he;have S_:=wc _ _ D.i1z.symm Fe;have hez:e≠z:=λx=>by subst x;rw[S_] at Qr;cases Qr;simp at Vw
   show Θ S_ 4 λh₃ _ yi=>hE h₃ _ e (λc o c1 _ c3 _ x=>yi.extBut _ _ c1 (wc _ _ c3 (y4.extBut _ _ c1 x))) #[oe,yi.extBut _ _ hez Qr,Vw]
 . show ζ ((p1.draws _ hh).item k _ _ _ c8 (f1 D.z1 h1 y4) λx h₂ tk₂ px h1₂ wc=>η ?_);have FY:=wc.extBut _ _ D.TOi1 (y4.extBut _ _ D.TOz K_);show ζ (aad FY 9 (ζ (aaB FY λh₃ Vt yi=>ζ (wpAny_letGo (η (ζ (ζ (aaH (ζ ((p2.draws _ hh).done _ _ _ (f2 D.O2 (f2 D.x2 (f2 D.z2 h2 y4) wc) yi) λh₄ e Ei he=>?_))))))))));let(oe,Qr,Vw):=he;have hz₄:=Ei _ _ D.i2z.symm (yi.extBut _ _ D.TOz.symm (wc.extBut _ _ D.i1z.symm Fe));have hez:e≠z:=λx=>by subst x;rw[hz₄] at Qr;cases Qr;simp at Vw
   show Θ hz₄ 4 λh₅ _ Ej=>hE h₅ _ e (λc o c1 c2 c3 c4 x=>Ej.extBut _ _ c1 (Ei _ _ c4 (yi.extBut _ _ c2 (wc.extBut _ _ c3 (y4.extBut _ _ c1 x))))) #[oe,Ej.extBut _ _ hez Qr,Vw]
def nC{k:Nat}{a b:Value}{Q:(Option Value)->Shared->Prop}(hh:A.handled=none)(D:Apart z TI TO i1 i2 qq oO)(p1:Part prog w i1 qq n1 P1 S1)(p2:Part prog w i2 oO n2 P2 S2)(hz:IsZip 50 z TI TO .none)(K9:IsPair 50 TI (.ref i1) (.ref i2))(K_:IsPair 50 TO a b)(h1:S1 k 50)(h2:S2 k 50)(hx:k<n1)(hy:k<n2)(hQ:∀x y h' tk,P1 k x->P2 k y->IsZip h' z TI TO (rawInt 8)->IsPair h' TO x y->S1 (k+1) h'->S2 (k+1) h'->IsPair h' 8 x y->h'.objs.size=8+1 ->
    (∀c o,c≠z->c≠TO->c≠i1->c≠i2->s.heap.get? c\o->h'.get? c\o)->Q (some 32) {s with heap:=h',toks:=tk}):wpAny 14 A (pyNext (.ref z)) Q E s:=by
 have hT:s.TypeIs (.ref z) "zip":=#[_,hz,9];exact ζ (aap (Γ hT F.slot_zip_next
  (wpAny_call_entry F.slot_zip_next hT F.entry_zip_next
    (FW hh D p1 p2 hz K9 K_ h1 h2 hx hy λx y h' tk q1 q2 a1 a2 a3 a4 a5 a6 a7=>η (hQ x y h' tk q1 q2 a1 a2 a3 a4 a5 a6 a7)) (F.args_zip_next_1 _))))
def oP{k:Nat}{a b:Value}{Q:(Option Value)->Shared->Prop}(hh:A.handled=none)(D:Apart z TI TO i1 i2 qq oO)(p1:Part prog w i1 qq n1 P1 S1)(p2:Part prog w i2 oO n2 P2 S2)(hz:IsZip 50 z TI TO .none)(K9:IsPair 50 TI (.ref i1) (.ref i2))(K_:IsPair 50 TO a b)(h1:S1 k 50)(h2:S2 k 50)(Qq:k=n1\/(k<n1/\k=n2))(hQ:∀h' tk,(∀c o,c≠z->c≠TO->c≠i1->c≠i2->s.heap.get? c\o->h'.get? c\o)->Q none {s with heap:=h',toks:=tk}):wpAny 14 A (pyNext (.ref z)) Q E s:=by
 have hT:s.TypeIs (.ref z) "zip":=#[_,hz,9];show ζ (aap (Γ hT F.slot_zip_next
  (χ F.slot_zip_next hT F.entry_zip_next (La hh D p1 p2 hz K9 K_ h1 h2 Qq λh' tk e hk he=>?_) (F.args_zip_next_1 _))))
 let(o,ho,hc):=he;calc ζ (aaz #[o,ho,hc] isSubtype_stop (η (hQ _ _ hk)))
end
def iQ(v:Value)(o:Obj)(c:Heap->Prop):Prop:=∀(prog:Program)(w:World)(A:Around)(E:qad)(s:Shared)(Q:qad),c 50 ->
 Q 32 {s with heap:=s.heap.push o}->wpAny 14 A (pyIter v) Q E s
def wF(l:Addr)(items:Array Value):iQ (.ref l) {cls:=.type "list_iterator",data:=.fields ([.ref l,.int 0 0].toArray)} (λh=>h.IsList l items):=λ_ _ _ _ _ _ h q=>aav h q
def tT(l:Addr)(items:Array Value):iQ (.ref l) {cls:=.type "tuple_iterator",data:=.fields ([.ref l,.int 0 0].toArray)} (λh=>h.IsTuple l items):=λ_ _ _ _ _ _ h q=>wpAny_pyIter_tuple h q
def y7(x:Str)(t:Tok):iQ (.str x t) {cls:=.type (strIterType x),data:=.fields ([.str x t,.int 0 0].toArray)} (λ_=>True):=λ_ _ _ _ _ _ _ q=>wpAny_pyIter_strU q
abbrev YI(h:Heap)(o1 o2:Obj):Heap:=((h.push o1).push o2).push {cls:=.type "tuple",data:=.seq ([.ref h.objs.size,.ref (h.push o1).objs.size].toArray)}
abbrev YJ(h:Heap)(o1 o2:Obj):Heap:=(YI h o1 o2).push {cls:=.type "tuple",data:=.seq ([.none,.none].toArray)}
abbrev Qs(h:Heap)(o1 o2:Obj):Heap:=(YJ h o1 o2).push {cls:=.type "zip",data:=.fields ([.none,.bool false,.bool false,.ref ((h.push o1).push o2).objs.size,.ref (YI h o1 o2).objs.size].toArray)}
def y8{v1 v2:Value}{o1 o2:Obj}{c1 c2:Heap->Prop}(i1:iQ v1 o1 c1)(i2:iQ v2 o2 c2)(vM:∀h o,c2 h->c2 (h.push o)) :
  Meets (Builtin.«zip.__new__» #[[.type "zip",v1,v2],[]]) (λ_ R s=>c1 50/\c2 50 /\
   R (.ok (.ret (.ref (YJ 50 o1 o2).objs.size))) {s with heap:=Qs 50 o1 o2}) :=
 .of_wp λprog w A R s h=>by
  let(hp,g,d,tk,os):=s;let(hc1,Kg,h):=h;have y9:=sub_zip;have hC2:=vM _ o1 Kg;have I1:=λA E Q q=>i1 prog w A E _ Q hc1 q;have I2:∀A E Q,Q (.ref (hp.push o1).objs.size) #[(hp.push o1).push o2,g,d,tk,os]->wpAny 14 A (pyIter v2) Q E #[hp.push o1,g,d,tk,os]:=λA E Q q=>i2 prog w A E _ Q hC2 q
  wp_walk using I1,I2
  calc#[_,9,h]
section
def CQ{v1 v2:Value}{o1 o2:Obj}{c1 c2:Heap->Prop}(i1:iQ v1 o1 c1)(i2:iQ v2 o2 c2)(vM:∀h o,c2 h->c2 (h.push o))(h1:c1 50)(h2:c2 50)(hf1:o1.isFreed=false)(hf2:o2.isFreed=false)(h:∀h',IsZip h' (8+04) (8+2) (8+03) .none->IsPair h' (8+2) 32 (.ref 36) ->
    IsPair h' (8+03) .none .none->h'.get? 8\o1->h'.get? 36\o2->h'.objs.size=8+05 ->
    (∀c o,s.heap.get? c\o->h'.get? c\o)->Q (.ref (8+04)) {s with heap:=h'}) :
  wpAny 14 A (call (.type "zip") [v1,v2]) Q E s:=by
 show callType_new F.called_zip 5 (F.typeCall_zip_2 _ _) (F.newCall_zip_2 _ _) (λobj=>F.args_object_init_3 obj _ _) F.entry_zip_new
  (y8 i1 i2 vM) #[h1,h2,?_]
 have z1:(s.heap.push o1).objs.size=8+1:=B_ ..;have z2:((s.heap.push o1).push o2).objs.size=8+2:=by rw[B_,z1]
 have z3:(YI 50 o1 o2).objs.size=8+03:=by rw[B_,z2]
 have z4:(YJ 50 o1 o2).objs.size=8+04:=by rw[B_,z3]
 have z5:(Qs 50 o1 o2).objs.size=8+05:=by rw[B_,z4]
 have g5:(Qs 50 o1 o2).get? (YJ 50 o1 o2).objs.size\_:=gU _ 9;have g4:(Qs 50 o1 o2).get? (YI 50 o1 o2).objs.size\_:=c9 _ (gU _ 9);have g3:(Qs 50 o1 o2).get? ((s.heap.push o1).push o2).objs.size\_:=c9 _ (c9 _ (gU _ 9));have g2:(Qs 50 o1 o2).get? (s.heap.push o1).objs.size\_:=c9 _ (c9 _ (c9 _ (gU _ hf2)));have g1:(Qs 50 o1 o2).get? 8\_:=c9 _ (c9 _ (c9 _ (c9 _ (gU _ hf1))));rw[z2,z3,z4] at g5;rw[z1,z2] at g3;rw[z3] at g4;rw[z1] at g2;rw[z4];exact#[#[_,g5,9],h _ g5 g3 g4 g1 g2 z5 λc o x=>
  c9 _ (c9 _ (c9 _ (c9 _ (c9 _ x))))]
end
structure CT(P:Program)(w:World)(K:qaf)(i:Addr)(fp:zm)(sq:Hp->qak->Prop)(it:Nat->Heap->Prop):Prop where
 part:∀(X:Cx)(ε:qaa)(σ:St)(H:Hp)(s:Shared),39=P->X.w=w->X.K=K->Inv X ε σ H s->∀xs,sq H xs ->
  ∃(Pv:Nat->Value->Prop)(S:Nat->Heap->Prop),Part P w i fp 34 Pv S/\(∀k v,Pv k v->∃x,xs[k]?\x/\RelV x v)/\(∀k h,S k h->it k h)/\∀k,it k 50->S k 50
 keep:∀k h h',it k h->(∀o,h.get? i\o->h'.get? i\o)->it k h'
 obj:∀k h,it k h->∃o,h.get? i\o/\∀v,o.data≠.cell v
 inj:∀(X:Cx)(ε:qaa)(σ:St)(H:Hp)(s:Shared),X.K=K->Inv X ε σ H s->∀xs ys,sq H xs->sq H ys->xs=ys
def src_list(i l:Addr)(eY:l≠i):CT P w K i [i,l] (λH xs=>fQ K H l xs) (λk h=>h.IsListIter i l k) where
 part:=λX ε σ H s hP hw hK I xs hq=>by
  subst hP hw hK;let(aN,rv,p,hz):=I.list hq;have e:aN.toArray.size=34:=by simp[rv.length]
  show#[_,_,e▸CP i l eY aN.toArray,λk v hv=>?_,λk h st=>st.1,λk st=>#[st,p.isList]];have vW:aN[k]?\v:=by simpa using hv
  have hk:k<34:=by rw[<- e];simp;exact (dy.mp vW).1
  let(u,hu,ru):=rv.get (show xs[k]?\xs[k] by simp);rw[vW] at hu;cases hu;exact#[_,by simp,ru]
 keep:=λk h h' st q=>st.at q
 obj:=λk h st=>let #[o,e,_,d]:=st;#[o,e,λv z=>by rw[d] at z;cases z]
 inj:=λX ε σ H s hK I xs ys h1 h2=>by subst hK;calc I.j_ h1 h2
def src_tuple(i l:Addr)(eY:l≠i):CT P w K i [i,l] (λH xs=>dJ K H l xs) (λk h=>h.IsTupleIter i l k) where
 part:=λX ε σ H s hP hw hK I xs hq=>by
  subst hP hw hK;let(aN,rv,p,hz):=I.tuple hq;have e:aN.toArray.size=34:=by simp[rv.length]
  show#[_,_,e▸y3 i l eY aN.toArray,λk v hv=>?_,λk h st=>st.1,λk st=>#[st,p]];have vW:aN[k]?\v:=by simpa using hv
  have hk:k<34:=by rw[<- e];simp;exact (dy.mp vW).1
  let(u,hu,ru):=rv.get (show xs[k]?\xs[k] by simp);rw[vW] at hu;cases hu;exact#[_,by simp,ru]
 keep:=λk h h' st q=>let #[o,e,r]:=st;#[o,q o e,r]
 obj:=λk h st=>let #[o,e,_,d]:=st;#[o,e,λv z=>by rw[d] at z;cases z]
 inj:=λX ε σ H s hK I xs ys h1 h2=>by subst hK;calc I.lH h1 h2
def y_(x:Str):qak:=x.cps.toList.map λc=>.str #[([c].toArray)]
def Lb(i:Addr)(x:Str)(t:Tok):CT P w K i [i] (λ_ xs=>xs=y_ x) (λk h=>h.IsStrIter i (strIterType x) x t k) where
 part:=λX ε σ H s hP hw hK I xs hq=>by
  subst hP hw hK hq;have e:x.cps.size=(y_ x).length:=by unfold y_;simp
  show#[_,_,e▸FV i x t,λk v hv=>?_,λk h st=>st,λk st=>st];let(c,u,h1,rfl):=hv;exact#[.str #[([c].toArray)],by unfold y_;rw[d4];simp[h1],u,9]
 keep:=λk h h' st q=>let #[o,e,r]:=st;#[o,q o e,r]
 obj:=λk h st=>let #[o,e,_,d]:=st;#[o,e,λv z=>by rw[d] at z;cases z]
 inj:=λX ε σ H s hK I xs ys h1 h2=>by rw[h1,h2]
section
def Lc{ch:zm}(I:Inv X ε σ H s)(k:∀b u,b∉ch->s.heap.get? b\u->h'.get? b\u)(hf:∀b∈ch,lK X ε H b):Inv X ε σ H {s with heap:=h',toks:=t'}:=by
 have Ew:∀b u,H b\u->b∉ch:=λb u e z=>by rw[(hf b z).1] at e;cases e
 show I.step (λb hb=>?_) (λb u _ _ hc e _=>k b u hc e) (λb u _ _ hc e _=>#[u.slots,k b u hc e]) (λb u _ e n=>n) (λb u hc e=>#[u,k b u hc e])
  (λb xs e=>e) (λb u v e=>e) (λb ps e=>#[([].toArray),?_]) (λm hm=>?_) (λb u e=>?_) I.bare
 let(_,f1,_,f3,f4,f5):=hf b hb;calc#[f3,f1,f4,f5];rw[e];simp;let(ob,es,ep,ho,r):=hm;calc#[ob,es,ep,k _ ob (λz=>(hf _ z).2.1 9) ho,r];show (I.bC b u e).ly (λc v hc q=>k c v ?_ q) (λc q=>q) λc xs q=>q;obtain z|z:=hc
 rw[z];calc Ew b u e;calc Ew c _ z
end
def Itz(za zc:Hp->qak->Prop):It :=
 #[λi H=>∃xs ys,za H xs/\zc H ys/\i<34/\i<ys.length,λi H v H'=>∃t x y,H t=none/\v=.ref t/\(∀xs,za H xs->xs[i]?\x)/\(∀ys,zc H ys->ys[i]?\y)/\H'=upd H t (.tup [x,y]),
  λi H=>∃xs ys,za H xs/\zc H ys/\(i=34\/(i<34/\i=ys.length))]
def FZ{x1}{z TI TO i1 i2:Addr}{qq oO:zm}{za zc:Hp->qak->Prop}{t1 t2:Nat->Heap->Prop}(D:Apart z TI TO i1 i2 qq oO)(p1:CT P w K i1 qq za t1)(p2:CT P w K i2 oO zc t2) :
  Turn P w K (.Tuple elts x1 tp) (Itz za zc) [z,TI,TO,i1,i2] z (λi h=>IsZip h z TI TO .none/\IsPair h TI (.ref i1) (.ref i2)/\(∃a b,IsPair h TO a b)/\t1 i h/\t2 i h) where
 mem:=by simp
 obj:=λi h st b hb=>by
  let(h1,h2,(a,c,h3),h4,h5):=st;simp only[cY,eG,fv] at hb;obtain rfl|rfl|rfl|rfl|rfl:=hb
  calc#[_,h1,λv q=>by cases q];calc#[_,h2,λv q=>by cases q];calc#[_,h3,λv q=>by cases q];calc p1.obj i h h4;exact p2.obj i h h5
 keep:=λi h h' st k=>by let(h1,h2,(a,c,h3),h4,h5):=st;exact#[k z 4 _ h1,k TI 4 _ h2,#[a,c,k TO 4 _ h3],p1.keep i h h' h4 λo q=>k i1 4 o q,p2.keep i h h' h5 λo q=>k i2 4 o q]
 item:=by
  intro X hP hw hK hc i ε s σ H E I hf st hg;let(xs,ys,YK,NU,l1,l2):=hg;let(h1,h2,(a,c,h3),h4,h5):=st;let(P1,S1,q1,v1,b1,f1):=p1.part X ε σ H s hP hw hK I xs YK;let(P2,S2,q2,v2,b2,f2):=p2.part X ε σ H s hP hw hK I ys NU;show nC (I.ok.hd hc) D q1 q2 h1 h2 h3 (f1 i h4) (f2 i h5) l1 l2 λx y h₁ tk px py Fe ac4 s1 s2 hp₁ hsz hk=>?_;let(x',ex,rx):=v1 i x px;let(y',ey,ry):=v2 i y py;show#[_,9,wpAny_letOwnedTupleGo_zip Fe λh₂ S_ wc=>?_];have qB:=wc;have c8:=dz h1;have hte:=Cb c8;have kk:∀b ob,b∉[z,TI,TO,i1,i2]->s.heap.get? b\ob->h₂.get? b\ob:=λb ob hb q=>by simp only[cY,eG,fv,not_or] at hb;exact (qB.2 b hb.1).trans (hk b ob hb.1 hb.2.2.1 hb.2.2.2.1 hb.2.2.2.2 q)
  have new:bO 39 X.w (upd H 8 (.tup [x',y'])) h₂ 8 (.tup [x',y']) :=
   #[by change 2<=sizeLine;rw[π];decide,[x,y],.cons rx (.cons ry .nil),#[_,(qB.2 _ hte).trans hp₁,9,_,9]]
  show#[.ref 8,upd H 8 (.tup [x',y']),I.grown kk hf (cv _) new,9,#[_,x',y',I.fresh,9,λzs hz=>by rw[p1.inj X ε σ H s hK I _ _ hz YK];calc ex,λzs hz=>by rw[p2.inj X ε σ H s hK I _ _ hz NU];calc ey,9],#[S_,?_,#[x,y,?_],?_,?_],λb hb=>?_];calc (qB.2 TI D.TIz).trans (hk TI _ D.TIz D.TITO D.TIi1 D.TIi2 h2);calc (qB.2 TO D.TOz).trans ac4;calc p1.keep _ _ _ (b1 _ _ s1) λo q=>(qB.2 i1 D.i1z).trans q;calc p2.keep _ _ _ (b2 _ _ s2) λo q=>(qB.2 i2 D.i2z).trans q;have AJ:b<8:=by
   simp only[cY,eG,fv] at hb;obtain rfl|rfl|rfl|rfl|rfl:=hb
   calc c8;calc dz h2;calc dz h3;let(o,e,_):=p1.obj i _ h4;calc dz e;let(o,e,_):=p2.obj i _ h5;exact dz e
  rw[az (gf AJ)];exact (hf b hb).1
 done:=by intro X hP hw hK hc i ε s σ H E I hf st hg;let(xs,ys,YK,NU,he):=hg;let(h1,h2,(a,c,h3),h4,h5):=st;let(P1,S1,q1,v1,b1,f1):=p1.part X ε σ H s hP hw hK I xs YK;let(P2,S2,q2,v2,b2,f2):=p2.part X ε σ H s hP hw hK I ys NU;show oP (I.ok.hd hc) D q1 q2 h1 h2 h3 (f1 i h4) (f2 i h5) he λh' tk hk=>#[9,Lc I (λb u hb q=>?_) hf];simp only[cY,eG,fv,not_or] at hb;exact hk b u hb.1 hb.2.2.1 hb.2.2.2.1 hb.2.2.2.2 q
 self:=λ_ _ _ _ _ st h=>by let(h1,_):=st;calc wpAny_pyIter_zip h1 h
inductive ZK(K:qaf)(H:Hp):V->(Hp->qak->Prop)->Prop where
 |lst {a:Addr} {xs:qak}:fQ K H a xs->ZK K H (.ref a) (λH xs=>fQ K H a xs)
 |tup {a:Addr} {xs:qak}:dJ K H a xs->ZK K H (.ref a) (λH xs=>dJ K H a xs)
 |str (z:Str):ZK K H (.str z) (λ_ xs=>xs=y_ z)
theorem NV{x:V}{sq:Hp->qak->Prop}(I:Inv X ε σ H s)(z:ZK X.K H x sq)(r:RelV x u) :
  ∃(o:Obj)(c:Heap->Prop)(fp:zm)(it:Addr->Nat->Heap->Prop),iQ u o c/\c 50/\(∀h o,c h->c (h.push o))/\o.isFreed=false/\(∀b∈fp,b<8) /\
   ∀i,8<=i->CT 39 X.w X.K i (i::fp) sq (it i)/\∀h,h.get? i\o->it i 0 h:=by
 cases z with
 |lst hq=>
   rename_i a xs
   cases r;let(aN,rv,p,hz):=I.list hq;have hl:a<8:=by let(o,n,e,_):=p;exact dz e
   show#[_,_,[a],λi k h=>h.IsListIter i a k,wF a aN.toArray,p.isList,λh o q=>Heap.IsList.push q _,9,λb hb=>by rw[fP.mp hb];calc hl,λi hi=>#[src_list i a (gf (qt hl hi)),λh e=>#[_,e,9,9]]]
 |tup hq=>
   rename_i a xs
   cases r;let(aN,rv,p,hz):=I.tuple hq;have hl:a<8:=by let(o,e,_):=p;exact dz e
   show#[_,_,[a],λi k h=>h.IsTupleIter i a k,tT a aN.toArray,p,λh o q=>(let #[o',e,r]:=q;#[o',c9 _ e,r]),9,λb hb=>by rw[fP.mp hb];calc hl,λi hi=>#[src_tuple i a (gf (qt hl hi)),λh e=>#[_,e,9,9]]]
 |str z=>let(t,rfl):=r;show#[_,_,[],λi k h=>h.IsStrIter i (strIterType z) z t k,y7 z t,trivial,λ_ _ _=>trivial,9,λb hb=>?_,λi hi=>#[Lb i z t,λh e=>#[_,e,9,9]]];cases hb
def nn{a b:Nat}(h:a<b):a≠b:=gf h
def F1{qq oO:zm}(h1:∀b∈qq,b<n)(h2:∀b∈oO,b<n):Apart (n+04) (n+2) (n+03) n (n+1) (n::qq) ((n+1)::oO):=by
 have k1:∀b:Nat,n<b->b∉(n::qq):=λb hb m=>by
  rcases cY.mp m with q|q
  calc Cb hb q;exact B' _ (SQ hb (h1 b q))
 have k2:∀b:Nat,n+1<b->b∉((n+1)::oO):=λb hb m=>by
  rcases cY.mp m with q|q
  calc Cb hb q;exact B' _ (SQ (SQ (Ar n) hb) (h2 b q))
 have k3:n∉((n+1)::oO):=λm=>by
  rcases cY.mp m with q|q
  calc gf (Ar n) q;exact B' _ (h2 n q)
 calc#[nn (),nn (),nn (),nn (),nn (),(nn ()).symm,(nn ()).symm,(nn ()).symm,(nn ()).symm,nn (),k1 _ (),k2 _ (),k1 _ (),k2 _ (),k1 _ (),k3]
def Ld{c:Nat}(h:c∈[n+04,n+2,n+03,n,n+1]):n<=c:=by
 simp only[cY,eG,fv] at h
 lia
def ac5(K:qaf)(ta:TA):TI:=λσ H R=>ta σ H λvs H1=>E4 λx y za zc=>vs=[x,y]/\ZK K H1 x za/\ZK K H1 y zc/\R (Itz za zc) H1
section
variable{Z:Zc}
def boot_zip:bootBuiltins "zip"\.type "zip":=by decide +kernel
def Qt{x1}{a:Expr}{ta:TA}{pos:Pos}(hg:Gl X "zip")(hm:X.mg "zip"=none)(ha:PA X [a,b] ta)(hs:starEach [a,b] 19=[(false,eval a 19),(false,eval b 19)])(Cq:starEach [b] 19=[(false,eval b 19)]) :
  PI X (.Tuple elts x1 tp) (.Call (.Name "zip" p) [a,b] [] pos) (ac5 X.K ta):=by
 intro ε s σ H R I h;show Call_ (lC I hg hm boot_zip (XY (cz (ha pos ε s σ H _ I h) λus s1 #[vs,H1,I1,r1,q1]=>?_) (by rw[hs,Cq]) (by rw[Cq];rfl)));let(x,y,za,zc,e,k1,k2,q):=q1;subst e;let(u,w',rfl,ru,rw'):=vals2 r1;let(o1,c1,qq,t1,i1,hc1,F3,hf1,Qu,z1):=NV I1 k1 ru;let(o2,c2,oO,t2,i2,Kg,vM,hf2,NW,z2):=NV I1 k2 rw';show CQ i1 i2 vM hc1 Kg hf1 hf2 λh' hz K9 K_ g1 g2 hsz hk=>?_;have I2:=I1.kept (t':=s1.toks) hk;show wpAny_pyIter_zip hz ?_;let(S1,a1):=z1 51 (cv _);let(S2,a2):=z2 (51+1) (Jo _);have D:=F1 Qu NW;show#[51+04,_,_,_,H1,9,I2,FZ D S1 S2,#[hz,K9,#[_,_,K_],a1 _ g1,a2 _ g2],λc hc=>?_,q];have hge:=Ld hc;calc I1.nq hge (I1.bC.fresh hge)
def Qv:T->Option (List T)
 |.lst ts=>some ts
 |.tup ts=>some ts
 |.str z=>some (z.cps.toList.map λc=>.str #[([c].toArray)])
 |_=>none
def tV(xs ys:List T):List T:=List.zipWith (λa b=>.tup [a,b]) xs ys
def ac6(fa fb:FE):FI:=λρ Q=>fa ρ λx=>fb ρ λy=>match Qv x,Qv y with
 |some xs,some ys=>Q (tV xs ys)
 |_,_=>False
def NX{A:zm}{x:T}{xs:List T}(h:At K H A x v)(e:Qv x\xs):∃sq,ZK K H v sq/\∀H A,At K H A x v->∃vs,sq H vs/\aB K H A xs vs:=by
 cases x with
 |lst ts=>cases e;let(a,vs,rfl,l,q):=h;show#[_,.lst l.sq,λH A h=>?_];let(a',jI,e,l',q'):=h;cases e;calc#[jI,l'.sq,q']
 |tup ts=>cases e;let(a,vs,rfl,l,q):=h;show#[_,.tup l,λH A h=>?_];let(a',jI,e,l',q'):=h;cases e;calc#[jI,l',q']
 |str z=>
  cases e;subst h;show#[_,.str z,λH A h=>#[y_ z,9,?_]];unfold y_;generalize z.cps.toList=l;induction l with
  |nil=>calc aB.nil
  |cons c l ih=>calc aB.cons d9 ih
 |_=>cases e
theorem Qw{x y:T}{w:V}{xs ys:List T}{za zc:Hp->qak->Prop}(h1:∀H A,At K H A x v->∃vs,za H vs/\aB K H A xs vs)(h2:∀H A,At K H A y w->∃vs,zc H vs/\aB K H A ys vs) :
  Wk K (Itz za zc) [(x,v),(y,w)] (tV xs ys):=λH A hA h i=>by
 let(vs,q1,l1):=h1 H A (h _ fM);let(ws,q2,l2):=h2 H A (h _ (gT _ fM));have e1:=l1.length;have e2:=l2.length;have el:(tV xs ys).length=min 34 ys.length:=by unfold tV;rw[List.length_zipWith]
 show#[λhi=>#[vs,ws,q1,q2,(),()],λhi=>#[vs,ws,q1,q2,()],λt ht x H' y=>?_];let(p,a,b,hp,rfl,ha,hb,rfl):=y;unfold tV at ht;rw[List.getElem?_zipWith] at ht;cases ex:xs[i]? with
 |none=>rw[ex] at ht;cases ht
 |some tx=>
   cases ey:ys[i]? with
   |none=>rw[ex,ey] at ht;cases ht
   |some ty=>rw[ex,ey] at ht;cases ht;let(v1,g1,g2):=l1.get ex;let(v2,g3,g4):=l2.get ey;have z1:=ha vs q1;have z2:=hb ws q2;rw[g1] at z1;rw[g3] at z2;cases z1;cases z2;calc#[aE hp,dg (dJ.of aG) (aB.cons (g2.same (aE hp)) (aB.cons (g4.same (aE hp)) aB.nil))]
def F4{x1}{pos:Pos}{a:Expr}{fa fb:FE}(hg:Gl X "zip")(hm:X.mg "zip"=none)(ha:VE X Z a fa)(hb:VE X Z b fb)(hs:starEach [a,b] 19=[(false,eval a 19),(false,eval b 19)]:=by rfl)(Cq:starEach [b] 19=[(false,eval b 19)]:=by rfl) :
  VI X Z (.Tuple elts x1 tp) (.Call (.Name "zip" p) [a,b] [] pos) (ac6 fa fb):=.mk λtm=>
 PI.weak (Qt hg hm (bw (ha tm) (bw (hb tm) cQ Cq) (by rw[hs,Cq])) hs Cq) λσ H R #[ρ,O,q,I,hf,k]=>#[ρ,O,_,I,hf,λx hx v H1 s1 a1=>#[ρ,O,_,I.same s1,hx,λy hy w H2 s2 a2=>by
  split at hy
  rename_i xs ys e1 e2
  let(za,k1,w1):=NX (a1.same s2) e1;let(zc,k2,w2):=NX a2 e2;exact#[v,w,za,zc,9,k1,k2,k _ hy _ H2 _ (s1.trans s2) (λp hp=>by
   rcases cY.mp hp with e|hp
   rw[e];calc a1.same s2;rw[fP.mp hp];calc a2) (Qw w1 w2)]
  calc hy.elim]]
end
end VT
variable{Z:VT.Zc}{ρ:VT.En}{ts:List VT.T}{fa fb fe:VT.FE}{tm:List (VT.T×L2.V)}{g:VT.FA}
abbrev qab:=List (VT.T×L2.V)
abbrev Φ:=List VT.T
abbrev qam:=VT.Rt->Prop
abbrev ν:=@VT.VP.vr
abbrev υ:=@VT.VP.ve
abbrev rk:=@VT.VP.vx
namespace HE
open PySem PySem.W PySem.Calls PyProof.Rows
def nT(tb:String->Option Builtin)(p:Program)(w:World)(n₀:Nat)(ann:Option Value):Nat->SharedT->Thread->Option SharedT
 |0,_,_=>none
 |n+1,s,t=>match through t with
  |true=>some s
  |false=>match stepOk n₀ ann t with
   |false=>none
   |true=>match stepT (denote tb) p w s t with
    |some (s',t')=>nT tb p w n₀ ann n s' t'
    |none=>none
theorem rJ{tb:String->Option Builtin}{p:Program}{w:World}{n₀:Nat}{ann:Option Value}:∀{n:Nat}{s s':SharedT}{t:Thread},nT tb p w n₀ ann n s t\s'->topRun tb p w n₀ ann n s.abs t\s'.abs
 |0,_,_,_,h=>by cases h
 |n+1,s,s',t,h=>by
  unfold nT at h;unfold topRun;cases ht:through t with
  |true=>rw[ht] at h;cases h;rfl
  |false=>
   rw[ht] at h;cases hk:stepOk n₀ ann t with
   |false=>rw[hk] at h;cases h
   |true=>
    rw[hk] at h;cases hs:stepT (denote tb) p w s t with
    |none=>rw[hs] at h;cases h
    |some r=>let(s₂,t₂):=r;rw[hs] at h;rw[stepT_spec hs];calc rJ h
def mkT(l:List Obj):BT:=(l.foldl (λ(p:BT×Nat) o=>(p.1.ins p.2 o,p.2+1)) (.nil,0)).1
def kG(P:Params):BT:=mkT (boot_heap P).objs.toList
def Vx(T:BT)(os:OsState):SharedT:=#[T,11,{},Array.mk [],boot_drawn,boot_toks,os]
theorem boot_abs(P:Params):absHeap (kG P) 11 {}=boot_heap P:=by kernel_rfl
theorem CU(P:Params):((boot_heap P).isNs mainGlobals,(boot_heap P).objs.size,(boot_heap P).nsMap mainGlobals "__annotations__")=(true,11,some (.ref 06)):=by kernel_rfl
def Qx(p:Program)(T:BT)(w:World)(M:Nat)(os:OsState):Option SharedT:=nT treeTable p w 11 (some (.ref 06)) M (Vx T os) (topStub p)
def Kf(as:zm)(g:Addr->Option Obj):Frag:=as.filterMap λa=>(g a).map λo=>(a,o)
def tg(T:BT)(n:Nat)(a:Addr):Option Obj:=match Nat.blt a n with
 |true=>alive ((T.get a).getD default)
 |false=>none
def Vy(T:BT)(n:Nat)(life:Life)(a:Addr):(absHeap T n life).get? a=tg T n a:=by
 unfold tg;cases h:Nat.blt a n with
 |true=>
  have hn:a<n:=Nat.ble_eq.mp h;cases g:T.get a with
  |some o=>rw[abs_get hn g];rfl
  |none=>have e:=absHeap_at T n life a;rw[ι hn,g] at e;unfold Heap.get?;rw[e];rfl
 |false=>
  have hn:¬ a<n:=λz=>by have:Nat.blt a n=true:=Nat.ble_eq.mpr z;rw[h] at this;cases this
  calc abs_get_none hn
abbrev NY(q:Program)(lv:List (Str×WData))(R:WRecords)(s:Shared):Bool:=xlAt q lv s && recOk R s
def lookA(p q:Program)(loose:ω)(lv:List (Str×WData))(R:WRecords)(T:BT)(H0:Heap)(w:World)(M:Nat)(os:OsState) :=
 (Qx p T w M os).map λs=>((staticsOk (importedModules p.main.body) H0 s.abs.heap && namesBound p s.abs.heap && gensDone s.abs && laidKept H0 s.abs.heap),
  (openSeen q loose (importedModules p.main.body) (NY q lv R) true s.abs).1,(openSeen q loose (importedModules p.main.body) (NY q lv R) true s.abs).2.1)
def lookB(p q:Program)(loose:ω)(lv:List (Str×WData))(R:WRecords)(T:BT)(w:World)(M:Nat)(os:OsState) :=
 (Qx p T w M os).map λs=>(openSeen q loose (importedModules p.main.body) (NY q lv R) true s.abs).2.2
def lookC{β:Type}(p:Program)(as:zm)(F:Frag->β)(T:BT)(w:World)(M:Nat)(os:OsState) :=
 (Qx p T w M os).map λs=>F (Kf as (tg s.tree s.n))
def tW(p:Program)(N:Nat)(w:World)(a:Addr):Option Obj:=(openEnds treeTable p w N).bind (·.heap.get? a)
def head{p q:Program}{loose:ω}{lv:List (Str×WData)}{R:WRecords}{as:zm}{N M:Nat}{F:Frag->β}{v:World->β}(e:opening p=plainProg p.main.scope.names)(hN:Nat.ble 600 N=true)(f:∀s,fenceModules? p s\s)(le:Nat.ble M N=true)(ra:∀(w:World) (os:OsState),lookA p q loose lv R (kG w.params) (boot_heap w.params) w M os\(true,(openGood q loose).1,(openGood q loose).2.1))(rb:∀(w:World) (os:OsState),lookB p q loose lv R (kG w.params) w M os=some (openGood q loose).2.2)(rc:∀(w:World) (os:OsState),lookC p as F (kG w.params) w M os\v w) :
  LeftO p q loose (NY q lv R) (λs=>as.map s.heap.get?) (λw=>as.map (tW p N w)) N/\∀w,F (Kf as (tW p N w))=v w:=by
 have key:∀w,∃s,openEnds treeTable p w N\s/\openSeen q loose (importedModules p.main.body) (NY q lv R) true s=openGood q loose/\F (Kf as s.heap.get?)=v w:=λw=>by
  let((h,gs,d,k,os),e1,e2):=Sy.mp (boot_open e hN f w);obtain⟨rfl,rfl,rfl,rfl⟩:h=boot_heap w.params/\gs=Array.mk []/\d=boot_drawn/\k=boot_toks:=by simpa using e2
  let(s,r1,r2):=Sy.mp (ra w os);let(s',r1',rb'):=Sy.mp (rb w os);let(SU,ac7,rc'):=Sy.mp (rc w os);obtain rfl:=Option.some.inj (r1.symm.trans r1');obtain rfl:=Option.some.inj (r1.symm.trans ac7);have r3:=Ω (λx=>x.1) r2;have r4:=Prod.ext (Ω (λx=>x.2.1) r2) (Prod.ext (Ω (λx=>x.2.2) r2) rb');have r5:F (Kf as s.abs.heap.get?)=v w:=by rw[show s.abs.heap.get?=tg s.tree s.n from funext λa=>Vy _ _ _ a];exact rc'
  have t1:=rJ r1;have ea:(Vx (kG w.params) os).abs=#[boot_heap w.params,Array.mk [],boot_drawn,boot_toks,os]:=by change (#[absHeap (kG w.params) 11 {},_,_,_,_]:Shared)=_;rw[boot_abs];rfl
  rw[ea] at t1;have t2:=topRun_mono (N-M) _ _ _ _ t1;rw[show M+(N-M)=N by have:=Nat.le_of_ble_eq_true le;lia] at t2;have z:=CU w.params;have z1:=Ω (λx=>x.1) z;have z2:=Ω (λx=>x.2.1) z;have z3:=Ω (λx=>x.2.2) z;show#[s.abs,?_,r4,r5];unfold openEnds;rw[e1];change topFrom treeTable p w N _=_;unfold topFrom;dsimp only at z1 z2 z3 ⊢;rw[z1,z2,z3,t2];change (match staticsOk (importedModules p.main.body) (boot_heap w.params) s.abs.heap && namesBound p s.abs.heap && gensDone s.abs && laidKept (boot_heap w.params) s.abs.heap with|true=>_|false=>_)=_;have r3':(staticsOk (importedModules p.main.body) (boot_heap w.params) s.abs.heap && namesBound p s.abs.heap && gensDone s.abs && laidKept (boot_heap w.params) s.abs.heap)=true:=r3;rw[r3']
 show#[λw=>?_,λw=>?_];let(s,a,b,c):=key w;rw[a];have:tW p N w=s.heap.get?:=by funext x;unfold tW;rw[a];rfl
 change some (openSeen q loose (importedModules p.main.body) (NY q lv R) true s,as.map s.heap.get?)\(openGood q loose,as.map (tW p N w));rw[b,this];let(s,a,b,c):=key w;have:tW p N w=s.heap.get?:=by funext x;unfold tW;rw[a];rfl
 rw[this];calc c
def kf_in{as:zm}{g:Addr->Option Obj}(e:as.map h.get?=as.map g):(Kf as g).In h:=by
 have key:∀{as:zm},as.map h.get?=as.map g->∀a o,(Kf as g).lookup a\o->h.get? a\o:=by
  intro as;induction as with
  |nil=>intro _ a o z;cases z
  |cons x as ih=>
   intro e a o z;injection e with e1 e2
   unfold Kf at z;rw[rf] at z;cases hg:g x with
   |none=>rw[hg] at z;calc ih e2 a o z
   |some o'=>
    rw[hg] at z;simp only[TR,JC] at z;split at z
    rename_i q
    have:a=x:=by simpa using q
    subst this;cases z;rw[e1,hg];exact ih e2 a o z
 calc λa o z=>key e a o z
def F5{q:Program}{loose:ω}{XP:(qae)->Heap->Prop}{as:zm}{g:World->Addr->Option Obj}{r:RowW}{d:DefRec}{kwd:List (Str×Expr)}{run:Value->qag->Sem Value}(h:WalkO q loose XP (λw h=>(Kf as (g w)).In h) r d kwd run):WalkX q loose XP (λs=>as.map s.heap.get?) (λw=>as.map (g w)) r d kwd run :=
 λw s₀ s₁ mg mb G y a o pm cd doc dV kV h1 h2 h3 h4 h5 h6 args vals rH L lQ UL hrd UJ Z5=>h w s₀ s₁ mg mb G (λb o' z=>Laid.keeps L _ _ (kf_in y b o' z)) a o pm cd doc dV kV h1 h2 h3 h4 h5 h6 args vals rH lQ UL hrd UJ Z5
def Vz:Stmt->DefRec
 |.FunctionDef n ps b _ _ _ sc _ _ p=>#[n,ps,b,sc,p]
 |_=>#[Str.empty,default,[],default,default]
end HE
lay_quick HE.lookA HE.lookB HE.lookC
namespace ju
open PySem
abbrev pE:Program:=PySem.Challenge.pw_slicewise_k24_closed_tables
def qE:Program:=W.view pE [1,2,04,05,06,07,08,10,11,12,13,15,17,18,019,20,21,022,023,024,25,027,028,029,30,31,032,33,034,035,036,37,38,039,040,041,042,043,44,45,46,47,048,49,050]
def NZ:ω:=[]
def ac8(w:World)(os:OsState):HE.lookA pE qE NZ [] [] (HE.kG (w).params) (W.boot_heap (w).params) (w) 1797 os\(true,(W.openGood qE NZ).1,(W.openGood qE NZ).2.1):=by
 rw[PySem.W.Fast.te2848547177322276819]
 kernel_rfl
def ac9(w:World)(os:OsState):HE.lookB pE qE NZ [] [] (HE.kG (w).params) (w) 1797 os=some (W.openGood qE NZ).2.2:=by
 rw[PySem.W.Fast.te312265020846911052]
 kernel_rfl
theorem Qy:PySem.Challenge.rw_slicewise_k24_closed_tables.wellSaid=true:=by kernel_rfl
end ju
namespace VT
open PySem PySem.Spec PyProof.Rows L2
section
variable{k k':Nat}{pos:Pos}{G:Φ->(qam)->Prop}
def aO(C:cu 39 X.w X.K X.mg X.base x ps k (cD X.K n G))(hr:bA k' X.A)(ha:VA X Z (e::es) g)(hg:Gl X x:=by rfl)(hk:k<=k':=by decide)(qx:f9 x:=by decide)(he:starEach (e::es) 19=(false,eval e 19)::starEach es 19:=by rfl)(jn:(backTo pos (starEach es 19)).any (·.1)=false:=by rfl) :
  VP X Z (.Call 52 (e::es) [] pos) (tI n g G):=by
 let(f,fd,h1,h2,h3,F):=C;calc cy F (hr.mono hk) hg h1 h2 h3 ha qx he jn
end
end VT
namespace Gen
open PySem L2 VT
open nN (bH)
def small(h:n<=1000):n<=sizeLine:=SM (CA h)
def Qz(h:Nat.ble n 1000=true):n<=sizeLine:=small (Nat.le_of_ble_eq_true h)
def gE(n:Int):Nat:=bH.cps.toList.getD (n % 26).toNat 0
def wG:bH.cps.toList.length=26:=by decide +kernel
def tX:bH.length=26:=by decide +kernel
def gm:bH.length<=sizeLine:=by rw[tX,π];decide
def rK(n:Int):iJ bH.cps.toList (n % 26)\gE n:=by
 have h0:0<=n % 26:=qu n 5;unfold gE;let(j,hj):=nM h0;rw[hj];have c8:j<bH.cps.toList.length:=by rw[wG];lia
 show ah ?_;rw[j6,List.getD,f_ c8];rfl
def yj(c:Int):Int:=c % 1000000000000
def jL(c:Int):Nat:=(1+yj c % 07).toNat
def F6(c:Int):Nat:=(yj c / 07 % (jL c:Int)).toNat
def tY(c:Int)(k j:Nat):Int:=yj c / 49 / ((j:Int)+1)+(j:Int) * (j:Int)+(if j=F6 c then (k:Int) else 0)
def cc(c:Int)(k n:Nat):Str:=#[((List.range n).map λj=>gE (tY c k j)).toArray]
def c6(c:Int)(m:Nat):ω :=
 if yj c / 49 % 03=1 then ((List.range m).map λk=>cc c k (jL c)).set 1 (cc c 0 (jL c)++#[([gE (yj c / 147)].toArray)]) else (List.range m).map λk=>cc c k (jL c)
def N0(c:Int):((jL c:Nat):Int)=1+yj c % 07:=by
 unfold jL
 lia
def tZ(c:Int):1<=jL c/\jL c<=07:=by
 have:=N0 c
 lia
def N1(c:Int):((F6 c:Nat):Int)=yj c / 07 % (jL c:Int):=by
 unfold F6;have h:=tZ c;have:0<=yj c / 07 % (jL c:Int):=qu _ ()
 lia
def VB(c:Int):F6 c<jL c:=by
 have h:=tZ c;have h1:=N1 c;have:yj c / 07 % (jL c:Int)<jL c:=ye _ ()
 lia
def zd(c:Int)(k n:Nat):cc c k (n+1)=cc c k n++#[([gE (tY c k n)].toArray)]:=by
 unfold cc;rw[TU,qo]
 congr 1
 simp
def eZ(c:Int)(k n:Nat):(cc c k n).length=n:=by unfold cc Str.length;simp
def zf(c:Int)(m:Nat):(c6 c m).length=m:=by unfold c6;split<;>simp
def VF:(10:Int) ^ (12:Int).toNat=1000000000000:=by decide +kernel
inductive j7 where
 |nm (x:Str)
 |nu (i:Int)
inductive Ky where
 |fld (x:Str)
 |op (o:j7)
set_option genInjectivity true
inductive Rw where
 |df (f:Str) (ps:ω)
 |give (a:j7)
 |put (x:Str) (a:j7)
 |CV (x:Str) (a:j7) (op:Str) (b:j7)
 |new (x:Str)
 |get (x r:Str) (k:Ky)
 |set (r:Str) (k:Ky) (a:j7)
 |call (x f:Str) (as:List j7)
 |fail (w:Str)
 |Jt (a:j7)
 |zg
 |A6 (a:j7)
 |fin
 |skip
set_option genInjectivity false
def qr:j7->T
 |.nm x=>.str x
 |.nu i=>.int i
def nU:Ky->T
 |.fld x=>.str (((".":String):Str)++x)
 |.op o=>qr o
def aV:Rw->T
 |.df f ps=>.tup [.str "def",.str f,.tup (ps.map .str)]
 |.give a=>.tup [.str "give",qr a]
 |.put x a=>.tup [.str "put",.str x,qr a]
 |.CV x a op b=>.tup [.str "do",.str x,qr a,.str op,qr b]
 |.new x=>.tup [.str "new",.str x]
 |.get x r k=>.tup [.str "get",.str x,.str r,nU k]
 |.set r k a=>.tup [.str "set",.str r,nU k,qr a]
 |.call x f as=>.tup [.str "call",.str x,.str f,.tup (as.map qr)]
 |.fail w=>.tup [.str "fail",.str w]
 |.Jt a=>.tup [.str "if",qr a]
 |.zg=>.tup [.str "else"]
 |.A6 a=>.tup [.str "while",qr a]
 |.fin=>.tup [.str "end"]
 |.skip=>.tup [.str "skip"]
def dw(ys:ω):j7->Prop
 |.nm x=>x∈ys
 |.nu i=>-1000000000000000000000000000000<=i/\i<1000000000000000000000000000000
def wH(ys:ω):Ky->Prop
 |.fld x=>x∈ys
 |.op o=>dw ys o
abbrev Plan:=List (Str×ω)
def reckon:ω:=["plus","minus","times","over","rest","less","same"]
def gF(ys:ω)(later:Plan):Rw->Prop
 |.put x a=>x∈ys/\dw ys a
 |.CV x a op b=>x∈ys/\dw ys a/\op∈reckon/\dw ys b
 |.new x=>x∈ys
 |.get x r k=>x∈ys/\r∈ys/\wH ys k
 |.set r k a=>r∈ys/\wH ys k/\dw ys a
 |.call x f as=>x∈ys/\(∃ps,(f,ps)∈later/\as.length=ps.length)/\∀a∈as,dw ys a
 |.fail w=>w∈ys
 |.skip=>True
 |_=>False
def bU(p:Str×ω):T:=.tup [.str p.1,.tup (p.2.map .str)]
def kH(hl:ys.length=06){n:Int}(hm:0<m)(hm6:m<=06):∃y∈ys,iJ (ys.map T.str) (n % (m:Int))\T.str y:=by
 have h0:0<=n % m:=qu n ();have h1:n % m<m:=ye n ();let(j,hj):=nM h0;have c8:j<ys.length:=by lia
 show#[ys[j],B8 c8,?_];rw[hj];show ah ?_;rw[d4,f_ c8];rfl
def VH:(10:Int) ^ (30:Int).toNat=1000000000000000000000000000000:=by decide +kernel
def VJ:(10:Int) ^ (09:Int).toNat=1000000000:=by decide +kernel
def VL:(10:Int) ^ (06:Int).toNat=1000000:=by decide +kernel
def ada:(((".":String):Str)).length=1:=by decide +kernel
def VM(i:Int):∃op∈reckon,iJ [T.str "plus",T.str "minus",T.str "times",T.str "over",T.str "rest",T.str "less",T.str "same"] (i % 07)\T.str op:=by
 have h0:0<=i % 07:=qu i 5;have h1:i % 07<07:=ye i 5;let(j,hj):=nM h0;rw[hj] at h1 ⊢;have:j=0\/j=1\/j=2\/j=03\/j=04\/j=05\/j=06:=by lia
 obtain rfl|rfl|rfl|rfl|rfl|rfl|rfl:=this
 calc#["plus",by simp[reckon],ah 9];calc#["minus",by simp[reckon],ah 9];calc#["times",by simp[reckon],ah 9];calc#["over",by simp[reckon],ah 9];calc#["rest",by simp[reckon],ah 9];calc#["less",by simp[reckon],ah 9];calc#["same",by simp[reckon],ah 9]
def zh(hl:ys.length=06)(n:Int):∃y∈ys,iJ (ys.map T.str) (04+n % 2)\T.str y:=by
 have h0:0<=n % 2:=qu n 5;let(j,hj):=nM h0;have c8:04+j<ys.length:=by lia
 show#[ys[04+j],B8 c8,?_];rw[hj];show ah ?_;rw[d4,f_ c8];rfl
def l7(ys:ω)(pl:Plan)(bN:ω)(new:List Rw)(dj:ω):Prop :=
 (∃o,dw ys o/\new=[.Jt o]/\dj=bN++([("if":Str)]:ω))\/(∃o,dw ys o/\new=[.A6 o]/\dj=bN++([("while":Str)]:ω)) \/
 (∃y,y∈ys/\new=[.A6 (.nm y),.CV y (.nm y) "minus" (.nu 1)]/\dj=bN++([("while":Str)]:ω))\/(∃s0,bN=s0++([("if":Str)]:ω)/\new=[.zg]/\dj=s0++([("else":Str)]:ω)) \/
 (∃s0 x,bN=s0++[x]/\new=[.fin]/\dj=s0)\/(∃r,gF ys pl r/\new=[r]/\dj=bN)
def Lf{pl:Plan}{bN new dj}(h:l7 ys pl bN new dj):new.length+dj.length<=bN.length+03:=by obtain⟨o,_,rfl,rfl⟩|⟨o,_,rfl,rfl⟩|⟨y,_,rfl,rfl⟩|⟨s0,rfl,rfl,rfl⟩|⟨s0,x,rfl,rfl,rfl⟩|⟨r,_,rfl,rfl⟩:=h<;>simp<;>lia
def oQ(ys:ω)(pl:Plan):Prop:=∀(k:Nat) f ps,pl[k]?\(f,ps)->ys[k]?\f/\E2 λ(a:Int) (r:Nat)=>r<=2/\ps=(List.range r).map λj=>ys.getD ((a+((j:Nat):Int)) % 04).toNat Str.empty
def F7(hl:ys.length=06)(n:Int):iJ (ys.map T.str) (n % 04)\T.str (ys.getD (n % 04).toNat Str.empty):=by
 have h0:0<=n % 04:=qu n 5;let(j,hj):=nM h0;have c8:j<ys.length:=by lia
 rw[hj];show ah ?_;rw[d4,j6,List.getD,f_ c8];rfl
inductive Body(ys:ω)(later:Plan):ω->List Rw->Prop
 |nil:Body ys later [] []
 |step {bN dj:ω} {body new:List Rw}:Body ys later bN body->l7 ys later bN new dj->Body ys later dj (body++new)
inductive Pre(ys:ω)(pl:Plan):Nat->List Rw->Prop
 |zero:Pre ys pl 0 []
 |succ {k:Nat} {rs:List Rw} {f:Str} {ps:ω} {bN:ω} {body:List Rw} {o:j7} {sk:List Rw}:Pre ys pl k rs->pl[k]?\(f,ps)->Body ys (pl.drop (k+1)) bN body->dw ys o->(sk=[]\/sk=[.skip]) ->
  Pre ys pl (k+1) (rs++(.df f ps::(body++(List.replicate bN.length .fin++(.give o::sk)))))
theorem cL{α:Type}{f:α->T}(h:∀x,plainT (f x)=true):∀l:List α,cb (l.map f)=true
 |[]=>by simp[cb]
 |x::l=>by simp only[fO,cb,h x,cL h l,Bool.and_self]
theorem dF{α:Type}{f:α->T}{n:Nat}(h:∀x,dep (f x)<=n):∀l:List α,gC (l.map f)<=n
 |[]=>by simp[gC]
 |x::l=>by have:=h x;have:=dF h l;simp only[fO,gC];lia
def zi(p:Str×ω):plainT (bU p)=true:=by simp[bU,plainT,cb,cL (f:=T.str) (λ_=>by simp[plainT])]
def wI(pl:Plan):plainT (.lst (pl.map bU))=true:=by simp only[plainT];calc cL zi pl
def F8(p:Str×ω):dep (bU p)<=2:=by have:=dF (f:=T.str) (n:=0) (λ_=>by simp[dep]) p.2;simp only[bU,dep,gC];lia
def CW(pl:Plan):dep (.lst (pl.map bU))<=100:=by have:=dF F8 pl;simp only[dep];lia
end Gen
variable{r:Gen.Rw}{pl:Gen.Plan}
abbrev qal:=List Gen.Rw
namespace Gen
open PySem L2 VT
open nN (bH CF cS)
def A7(n:Int):CF (gE n)=true:=by
 have h0:0<=n % 26:=qu n 5;have h1:n % 26<26:=ye n 5;have h:∀j<26,CF (bH.cps.toList.getD j 0)=true:=by decide +kernel
 calc h _ ()
def F9{a b:Int}(h:gE a=gE b):a % 26=b % 26:=by
 have a0:0<=a % 26:=qu a 5;have a1:a % 26<26:=ye a 5;have b0:0<=b % 26:=qu b 5;have b1:b % 26<26:=ye b 5;have k:∀i<26,∀j<26,bH.cps.toList.getD i 0=bH.cps.toList.getD j 0->i=j:=by decide +kernel
 have:=k (a % 26).toNat () (b % 26).toNat () h
 lia
def CY{c:Int}{k k':Nat}(hn:F6 c<n)(hk:k<26)(Lg:k'<26)(h:cc c k n=cc c k' n):k=k':=by
 have h2:((List.range n).map λj=>gE (tY c k j))=((List.range n).map λj=>gE (tY c k' j)):=by have:=Ω (λy:Str=>y.cps.toList) h;exact this
 have h3:=Ω (λl:qao=>l[F6 c]?) h2;simp only[d4,Nj hn,TR,Option.some.injEq] at h3;have h4:=F9 h3;unfold tY at h4;rw[ι 9,ι 9] at h4
 lia
def oR{c:Int}{k:Nat}(h1:1<=n)(h8:n<=08):cS (cc c k n)=true:=by unfold cS;rw[eZ,ο (),ο (),yr,yr];change ((List.range n).map λj=>gE (tY c k j)).all CF=true;rw[List.all_map];calc JD.mpr λj _=>A7 _
def F_{n:Int}(h:cS x=true)(hl:x.length<=07):cS (x++#[([gE n].toArray)])=true:=by
 have hx:=nN.eO h;have el:(x++(#[([gE n].toArray)]:Str)).length=x.length+1:=by change (x.cps++([gE n].toArray)).size=_;simp[Str.length]
 unfold cS;rw[el,ο (),ο (),yr,yr];change (x.cps++([gE n].toArray)).toList.all CF=true;simp only[B7,List.all_append,hx,yr];simp[A7]
def Lh(x:Str)(n:Int):(x++(#[([gE n].toArray)]:Str)).length=x.length+1:=by change (x.cps++([gE n].toArray)).size=_;simp[Str.length]
def CZ{c:Int}(h:y∈c6 c m):(∃k<m,y=cc c k (jL c))\/y=cc c 0 (jL c)++#[([gE (yj c / 147)].toArray)]:=by
 have hz:∀{y},y∈((List.range m).map λk=>cc c k (jL c))->∃k<m,y=cc c k (jL c):=λh=>by let(k,hk,rfl):=gy.mp h;exact#[k,m6.mp hk,9]
 unfold c6 at h;split at h;rcases Tx h with h|h
 calc .inl (hz h);calc .inr h;calc .inl (hz h)
def zj{c:Int}:∀y∈c6 c m,cS y=true:=by
 intro y hy;have hs:=tZ c;rcases CZ hy with⟨k,_,rfl⟩|rfl
 calc oR () ();calc F_ (oR () ()) (by rw[eZ];lia)
def wJ{c:Int}(hm:m<=26):(c6 c m).Nodup:=by
 have hs:=tZ c;have ha:=VB c;have base:((List.range m).map λk=>cc c k (jL c)).Nodup:=by rw[List.Nodup,List.pairwise_map];show List.Pairwise.imp_of_mem ?_ (List.nodup_range (n:=m));intro a b ha' YL eY e;exact eY (CY ha (by have:=m6.mp ha';lia) (by have:=m6.mp YL;lia) e)
 unfold c6;split;generalize hl:((List.range m).map λk=>cc c k (jL c))=l at base;have hv:cc c 0 (jL c)++(#[([gE (yj c / 147)].toArray)]:Str)∉l:=by
  intro z;rw[<- hl] at z;let(k,_,e):=gy.mp z;have:=Ω Str.length e;rw[Lh,eZ,eZ] at this
  lia
 rw[List.Nodup,X1];rw[List.Nodup,X1] at base;intro i j hi hj S7;rw[List.length_set] at hi hj;have b:=base i j hi hj S7;rw[List.getElem_set,List.getElem_set];split;split
 lia
 intro z;calc hv (by rw[z];calc B8 _);split;intro z;calc hv (by rw[<- z];calc B8 _);calc b;calc base
def Li(ys:ω):Rw->Prop
 |.df f ps=>f∈ys/\ps.length<=2/\ps.Nodup/\∀p∈ps,p∈ys
 |.give a=>dw ys a
 |.put x a=>x∈ys/\dw ys a
 |.CV x a op b=>x∈ys/\dw ys a/\op∈reckon/\dw ys b
 |.new x=>x∈ys
 |.get x r k=>x∈ys/\r∈ys/\wH ys k
 |.set r k a=>r∈ys/\wH ys k/\dw ys a
 |.call x f as=>x∈ys/\f∈ys/\as.length<=2/\∀a∈as,dw ys a
 |.fail w=>w∈ys
 |.Jt a=>dw ys a
 |.A6 a=>dw ys a
 |_=>True
def QA{l:ω}(nd:l.Nodup)(hi:i<l.length)(hj:j<l.length)(e:l[i]=l[j]):i=j:=by
 rw[List.Nodup,X1] at nd;rcases Nat.lt_trichotomy i j with h|h|h
 calc absurd e (nd i j hi hj h);calc h;calc absurd e.symm (nd j i hj hi h)
def C0(hl:ys.length=06)(nd:ys.Nodup){a:Int}{r:Nat}(hr:r<=2):((List.range r).map λj=>ys.getD ((a+((j:Nat):Int)) % 04).toNat Str.empty).Nodup/\∀p∈((List.range r).map λj=>ys.getD ((a+((j:Nat):Int)) % 04).toNat Str.empty),p∈ys:=by
 have hm:∀j:Nat,((a+(j:Int)) % 04).toNat<ys.length:=λj=>by
  have h0:0<=(a+(j:Int)) % 04:=qu _ 5;have h1:(a+(j:Int)) % 04<04:=ye _ 5
  lia
 have hg:∀j:Nat,ys.getD ((a+(j:Int)) % 04).toNat Str.empty=ys[((a+(j:Int)) % 04).toNat]'(hm j):=λj=>by rw[List.getD,f_ (hm j)];rfl
 show#[?_,?_];rw[List.Nodup,List.pairwise_map];show List.Pairwise.imp_of_mem ?_ (List.nodup_range (n:=r));intro i j hi hj eY e;rw[hg,hg] at e;have:=QA nd _ _ e;have Yu:=m6.mp hi;have YB:=m6.mp hj;have a0:0<=(a+(i:Int)) % 04:=qu _ 5;have b0:0<=(a+(j:Int)) % 04:=qu _ 5
 lia
 intro p hp;let(j,_,rfl):=gy.mp hp;rw[hg];calc B8 _
def C1(hp:∀f ps,(f,ps)∈pl->f∈ys/\ps.length<=2)(h:gF ys pl r):Li ys r:=by
 cases r<;>first
  |calc h
  |calc h.elim
  | (let(h1,(ps,h2,h3),h4):=h
     calc#[h1,(hp _ _ h2).1,by rw[h3];calc (hp _ _ h2).2,h4])
def QB(hp:∀f ps,(f,ps)∈pl->f∈ys/\ps.length<=2){bN new dj}(h:l7 ys pl bN new dj):∀r∈new,Li ys r:=by
 obtain⟨o,ho,rfl,_⟩|⟨o,ho,rfl,_⟩|⟨y,hy,rfl,_⟩|⟨s0,_,rfl,_⟩|⟨s0,x,_,rfl,_⟩|⟨r,hr,rfl,_⟩:=h<;>intro r' cj
 simp only[cY,eG,fv] at cj;subst cj;calc ho;simp only[cY,eG,fv] at cj;subst cj;calc ho;simp only[cY,eG,fv] at cj;obtain rfl|rfl:=cj
 calc hy;calc#[hy,hy,by simp[reckon],by decide,by decide];simp only[cY,eG,fv] at cj;subst cj;trivial;simp only[cY,eG,fv] at cj;subst cj;trivial;simp only[cY,eG,fv] at cj;subst cj;calc C1 hp hr
def Lj(hp:∀f ps,(f,ps)∈pl->f∈ys/\ps.length<=2){bN body}(h:Body ys pl bN body):∀r∈body,Li ys r:=by
 induction h with
 |nil=>intro r hr;cases hr
 |step _ h2 ih=>
  intro r hr;rcases gc.mp hr with hr|hr
  calc ih r hr;calc QB hp h2 r hr
def oS(hl:ys.length=06)(hP:oQ ys pl):∀f ps,(f,ps)∈pl->f∈ys/\ps.length<=2:=by intro f ps h;let(k,hk):=List.getElem?_of_mem h;let(h1,a,r,hr,rfl):=hP k f ps hk;calc#[eM h1,by rw[bL,rh];calc hr]
def QC(hl:ys.length=06)(nd:ys.Nodup)(hP:oQ ys pl){rs:qal}(h:Pre ys pl n rs):∀r∈rs,Li ys r:=by
 have hp:=oS hl hP;induction h with
 |zero=>intro r hr;cases hr
 |@succ k rs f ps bN body o sk _ hk hb ho hs ih=>
  intro r hr;rcases gc.mp hr with hr|hr
  calc ih r hr;rcases List.mem_cons.mp hr with rfl|hr
  let(h1,a,n,hn,rfl):=hP k f ps hk;have:=C0 hl nd (a:=a) hn;calc#[eM h1,by rw[bL,rh];calc hn,this.1,this.2];rcases gc.mp hr with hr|hr
  calc Lj (λf ps h=>hp f ps (X8 h)) hb r hr;rcases gc.mp hr with hr|hr
  rw[(List.mem_replicate.mp hr).2];trivial;rcases cY.mp hr with rfl|hr
  calc ho;obtain rfl|rfl:=hs
  cases hr;simp only[cY,eG,fv] at hr;subst hr;trivial
def wd:Rw->Str
 |.df _ _=>"def"
 |.give _=>"give"
 |.put _ _=>"put"
 |.CV _ _ _ _=>"do"
 |.new _=>"new"
 |.get _ _ _=>"get"
 |.set _ _ _=>"set"
 |.call _ _ _=>"call"
 |.fail _=>"fail"
 |.Jt _=>"if"
 |.zg=>"else"
 |.A6 _=>"while"
 |.fin=>"end"
 |.skip=>"skip"
def gp(st:ω)(x:Str):Bool:=match st.getLast? with
 |none=>Eh (.str x) [.str "def",.str "skip"]
 |some l=>if x="give" then decide (l="def") else if x="else" then decide (l="if") else if x="end" then !decide (l="def") else !decide (x="def")
def lr(st:ω)(x:Str):ω :=
 if x="def"\/x="if"\/x="while" then st++[x] else if x="give"\/x="end" then st.dropLast else if x="else" then st.dropLast++[("else":Str)] else st
theorem A8(x:Str):∀l:ω,Eh (.str x) (l.map .str)=decide (x∈l)
 |[]=>by simp[Eh]
 |y::l=>by change (eqT (.str y) (.str x) || Eh (.str x) (l.map .str))=_;rw[A8 x l];change (decide (y=x) || decide (x∈l))=_;rw[OM];simp only[Bool.or_eq_true,aaf,cY];constructor;rintro (h|h);calc .inl h.symm;calc .inr h;rintro (h|h);calc .inl h.symm;calc .inr h
def Ll(r:Rw):∃l,aV r=.tup (.str (wd r)::l):=by cases r<;>calc#[_,9]
theorem ja{f:α->T}{xs:List α}{h:FG}{g:FS}{d:KS}(Pv:Nat->En->Prop)(h0:Pv 0 ρ)(hs:∀(i:Nat) x ρ',xs[i]?\x->Pv i ρ'->h (.tup [.int (i:Int),f x]) ρ' λρ2=>g {nx:=Pv (i+1),ct:=Pv (i+1),bk:=d.nx,rt:=d.rt} ρ2)(hd:∀ρ',Pv 34 ρ'->d.nx ρ'):kx (cW (xs.map f)) h g d ρ:=#[Pv,h0,λi t ρ' e p=>by
 unfold cW at e;rw[Sz,d4] at e;cases q:xs[i]? with
 |none=>rw[q] at e;cases e
 |some x=>rw[q] at e;cases e;calc hs i x ρ' q p,λρ' p=>hd ρ' (by unfold cW at p;rw[List.length_mapIdx,bL] at p;calc p)]
def Lm(o:Option (ω))(r:Rw):Option (ω):=o.bind λst=>if gp st (wd r)=true then some (lr st (wd r)) else none
def kJ(o:Option (ω))(rs:qal):Option (ω):=rs.foldl Lm o
def jb(o:Option (ω))(a b:qal):kJ o (a++b)=kJ (kJ o a) b:=SF
def wK(rs:qal):kJ none rs=none:=by
 induction rs with
 |nil=>rfl
 |cons r rs ih=>calc ih
def C2{st:ω}(h:gp st (wd r)=true):Lm (some st) r\lr st (wd r):=by change (if gp st (wd r)=true then _ else _)=_;rw[ι h]
def eS{st:ω}(h:gp st (wd r)=true):kJ (some st) [r]\lr st (wd r):=C2 h
theorem wL{rs:qal}{st:ω}(h:kJ (some []) rs\st)(i:Nat)(hr:rs[i]?\r) :
  ∃s,kJ (some []) (rs.take i)\s/\gp s (wd r)=true/\kJ (some []) (rs.take (i+1))\lr s (wd r):=by
 have e:rs=rs.take i++(r::rs.drop (i+1)):=by have hg:=(dy.mp hr).2;rw[<- hg,List.getElem_cons_drop,TC]
 have e2:rs.take (i+1)=rs.take i++[r]:=by have hg:=(dy.mp hr).2;rw[<- hg,List.take_append_getElem]
 rw[e,jb] at h;cases hs:kJ (some []) (rs.take i) with
 |none=>rw[hs,wK] at h;cases h
 |some s=>
   rw[hs] at h;have h':kJ (Lm (some s) r) (rs.drop (i+1))\st:=h;cases hm:gp s (wd r) with
   |false=>
     have:Lm (some s) r=none:=by change (if gp s (wd r)=true then _ else _)=_;rw[hm];rfl
     rw[this,wK] at h';cases h'
   |true=>calc#[s,9,hm,by rw[e2,jb,hs];calc eS hm]
abbrev rL:Str:="def"
def Hd(x:Str):Prop:=x="if"\/x="while"\/x="else"
def Hd.ne(h:Hd x):x≠"def":=by obtain rfl|rfl|rfl:=h<;>decide +kernel
def rM(h:gF ys pl r):∀st,st≠[]->gp st (wd r)=true/\lr st (wd r)=st:=by
 intro st EC;obtain⟨l,hl⟩:∃l,st.getLast?\l:=by
  cases e:st.getLast? with
  |none=>rw[List.getLast?_eq_none_iff] at e;calc absurd e EC
  |some l=>exact#[l,9]
 have k:∀x:Str,(x="put"\/x="do"\/x="new"\/x="get"\/x="set"\/x="call"\/x="fail"\/x="skip")->gp st x=true/\lr st x=st:=by intro x hx;unfold gp lr;rw[hl];obtain rfl|rfl|rfl|rfl|rfl|rfl|rfl|rfl:=hx<;>exact#[(by change (if _ then _ else _)=true;rw[θ 23,θ 23,θ 23];decide +kernel),(by rw[θ 23,θ 23,θ 23])]
 cases r<;>first
  |calc h.elim
  |calc k _ (by simp[wd])
def Ga(st:ω):lr st "if"=st++[("if":Str)]:=by unfold lr;rw[ι (.inr 7)]
def l8(st:ω):lr st "while"=st++[("while":Str)]:=by unfold lr;rw[ι (.inr (.inr 9))]
def A9(st:ω):lr st "def"=st++[rL]:=by unfold lr;rw[ι 7]
def t_(st:ω):lr st "end"=st.dropLast:=by unfold lr;rw[θ 23,ι 23]
def Gb(st:ω):lr st "give"=st.dropLast:=by unfold lr;rw[θ 23,ι 23]
def wQ(st:ω):lr st "else"=st.dropLast++[("else":Str)]:=by unfold lr;rw[θ 23,θ 23,ι 9]
def A_(st:ω)(l x:Str)(hx:x="if"\/x="while"):gp (st++[l]) x=true:=by unfold gp;rw[TH];obtain rfl|rfl:=hx<;>(change (if _ then _ else _)=true;rw[θ 23,θ 23,θ 23];decide +kernel)
def C3(st:ω):gp (st++[("if":Str)]) "else"=true:=by unfold gp;rw[TH];decide +kernel
def wR(st:ω){l:Str}(h:l≠"def"):gp (st++[l]) "end"=true:=by unfold gp;rw[TH];change (if _ then _ else _)=true;rw[θ 23,θ 23,ι 9,ς h];rfl
def nV{st:ω}(h:st≠[]):∃s l,st=s++[l]:=#[st.dropLast,st.getLast h,(List.dropLast_concat_getLast h).symm]
def Ln{bN new dj}(h:l7 ys pl bN new dj)(hs:∀x∈bN,Hd x) :
  kJ (some (rL::bN)) new\(rL::dj)/\∀x∈dj,Hd x:=by
 have hd:∀st:ω,∃s l,rL::st=s++[l]:=λst=>nV 4;obtain⟨o,_,rfl,rfl⟩|⟨o,_,rfl,rfl⟩|⟨y,_,rfl,rfl⟩|⟨s0,rfl,rfl,rfl⟩|⟨s0,x,es,rfl,e'⟩|⟨r,hr,rfl,e'⟩:=h
 let(s,l,e):=hd bN;show#[?_,?_];rw[eS (by rw[e];calc A_ s l _ 7)];change some (lr _ "if")=_;rw[Ga];rfl;intro x hx;rcases gc.mp hx with hx|hx
 calc hs x hx;simp only[cY,eG,fv] at hx;calc .inl hx;let(s,l,e):=hd bN;show#[?_,?_];rw[eS (by rw[e];calc A_ s l _ (.inr 9))];change some (lr _ "while")=_;rw[l8];rfl;intro x hx;rcases gc.mp hx with hx|hx
 calc hs x hx;simp only[cY,eG,fv] at hx;calc .inr (.inl hx);let(s,l,e):=hd bN;show#[?_,?_];have h1:kJ (some (rL::bN)) [Rw.A6 (.nm y)]\((rL::bN)++[("while":Str)]):=by change some (lr _ "while")=_;rw[l8]
 have h2:=rM (ys:=[y]) (pl:=[]) (r:=.CV y (.nm y) "minus" (.nu 1)) #[by simp,by simp[dw],by simp[reckon],by decide,by decide] ((rL::bN)++[("while":Str)]) 4;change kJ (kJ (some (rL::bN)) [Rw.A6 (.nm y)]) [Rw.CV y (.nm y) "minus" (.nu 1)]=_;rw[h1,eS h2.1,h2.2];rfl;intro x hx;rcases gc.mp hx with hx|hx
 calc hs x hx;simp only[cY,eG,fv] at hx;calc .inr (.inl hx);show#[?_,?_];have e:rL::(s0++[("if":Str)])=(rL::s0)++[("if":Str)]:=rfl;rw[e,eS (C3 _)];change some (lr _ "else")=_;rw[wQ,List.dropLast_concat];rfl;intro x hx;rcases gc.mp hx with hx|hx
 calc hs x (il _ hx);simp only[cY,eG,fv] at hx;calc .inr (.inr hx);subst es;subst e';show#[?_,λy hy=>hs y (il _ hy)];have e:rL::(dj++[x])=(rL::dj)++[x]:=rfl;rw[e,eS (wR _ (hs x 4).ne)];change some (lr _ "end")=_;rw[t_,List.dropLast_concat];subst e';have:=rM hr (rL::dj) 4;show#[?_,hs];rw[eS this.1,this.2]
def Ge{bN body}(h:Body ys pl bN body):kJ (some [rL]) body\(rL::bN)/\∀x∈bN,Hd x:=by
 induction h with
 |nil=>calc#[9,λx hx=>nomatch hx]
 |step _ h2 ih=>have:=Ln h2 ih.2;calc#[by rw[jb,ih.1];calc this.1,this.2]
theorem wU:∀(n:Nat)(bN:ω),bN.length=n->(∀x∈bN,Hd x)->kJ (some (rL::bN)) (List.replicate n .fin)=some [rL]
 |0,bN,hl,_=>by rw[Ni] at hl;subst hl;rfl
 |n+1,bN,hl,hs=>by let(s,l,rfl):=nV (st:=bN) (by intro z;subst z;cases hl);change kJ (kJ (some ((rL::s)++[l])) [Rw.fin]) (List.replicate n .fin)=_;rw[eS (wR _ (hs l 4).ne)];change kJ (some (lr _ "end")) _=_;rw[t_,List.dropLast_concat];calc wU n s (by simpa using hl) λx hx=>hs x (il _ hx)
def Lo{rs:qal}(h:Pre ys pl n rs):kJ (some []) rs=some []:=by
 induction h with
 |zero=>rfl
 |@succ k rs f ps bN body o sk _ hk hb ho hs ih=>
  rw[jb,ih];change kJ (some (lr [] "def")) _=_;rw[A9,jb];have hB:=Ge hb;change kJ (kJ (some [rL]) body) _=_;rw[hB.1,jb,wU _ bN 9 hB.2];change kJ (kJ (some ([]++[rL])) [Rw.give o]) sk=_;change kJ (some (lr _ "give")) sk=_;obtain rfl|rfl:=hs
  rfl;rw[eS 23];rfl
def qN:List (Str×Nat)->Str->Option Nat
 |[],_=>none
 | (k,i)::l,f=>if k=f then some i else qN l f
theorem nW(l m:List (Str×Nat))(f:Str):qN (l++m) f=match qN l f with
  |some i=>some i
  |none=>qN m f:=by
 induction l with
 |nil=>rfl
 |cons p l ih=>let(k,i):=p;simp only[List.cons_append,qN];by_cases h:k=f;rw[ι h,ι h];rw[θ h,θ h];calc ih
def Gf(l:List (Str×Nat))(i:Nat):Rw->List (Str×Nat)
 |.df f _=>match qN l f with
  |some _=>l
  |none=>l++[(f,i)]
 |_=>l
def bb(rs:qal):Nat->List (Str×Nat)
 |0=>[]
 |n+1=>match rs[n]? with
  |some r=>Gf (bb rs n) n r
  |none=>bb rs n
theorem oU{rs:qal}{f:Str}{j:Nat}:∀n,qN (bb rs n) f\j->j<n/\∃ps,rs[j]?\.df f ps
 |0,h=>nomatch h
 |n+1,h=>by
  have old:qN (bb rs n) f\j->j<n+1/\∃ps,rs[j]?\.df f ps:=λh=>by have:=oU n h;exact#[(),this.2]
  simp only[bb] at h;split at h
  rename_i r hr
  cases r with
  |df g ps=>
   simp only[Gf] at h;split at h;exact old h
   rename_i hn
   rw[nW] at h;split at h
   rename_i i hi
   cases h;calc old hi;simp only[qN] at h;split at h
   rename_i e
   cases h;subst e;calc#[(),ps,hr];cases h
  |_=>exact old h
  calc old h
theorem l9{rs:qal}{f:Str}{i:Nat}{ps:ω}(hi:rs[i]?\.df f ps):∀n,i<n->∃j,qN (bb rs n) f\j
 |0,h=>absurd h ()
 |n+1,h=>by
  simp only[bb];by_cases e:i=n;subst e;rw[hi];simp only[Gf];cases ha:qN (bb rs i) f with
  |some j=>calc#[j,ha]
  |none=>show#[i,?_];rw[nW,ha];simp only[qN,aaK]
  let(j,hj):=l9 hi n ();split
  rename_i r hr
  cases r with
  |df g qs=>simp only[Gf];split;calc#[j,hj];rw[nW,hj];calc#[j,9]
  |_=>exact#[j,hj]
  calc#[j,hj]
end Gen
variable{rs:qal}
namespace K5
structure Kd where
 op:Bool
 cl:Bool
 el:Bool
 df:Bool
deriving DecidableEq,Inhabited
section
variable(kd:Nat->Kd)
def st:Nat->qao
 |0=>[]
 |k+1=>let s:=if (kd k).cl=true then (st k).dropLast else st k
  if (kd k).op=true then s++[k] else s
def dp(k:Nat):Nat:=(st kd k).length
structure WF(n:Nat):Prop where
 ex:∀k,k<n->(kd k).op=true->(kd k).cl=false
 cl:∀k,k<n->(kd k).cl=true->st kd k≠[]
 el:∀k,k<n->(kd k).el=true->st kd k≠[]
 nc:∀k,k<n->(kd k).el=true->(kd k).cl=false/\(kd k).op=false
 dn:∀k,k<n->(kd k).df=true->(kd k).op=true
 fin:st kd n=[]
end
section
variable{kd:Nat->Kd}
def iq{k:Nat}(h:(kd k).op=true)(h':(kd k).cl=false):st kd (k+1)=st kd k++[k]:=by simp[st,h,h']
def iR{k:Nat}(h:(kd k).cl=true)(h':(kd k).op=false):st kd (k+1)=(st kd k).dropLast:=by simp[st,h,h']
def fu{k:Nat}(h:(kd k).cl=false)(h':(kd k).op=false):st kd (k+1)=st kd k:=by simp[st,h,h']
def WF.Zt(W:WF kd n){k:Nat}(hk:k<n)(h:(kd k).cl=true):(kd k).op=false:=by
 cases q:(kd k).op with
 |false=>rfl
 |true=>rw[W.ex k hk q] at h;cases h
def Ba(W:WF kd n){k:Nat}(hk:k<n)(h:(kd k).op=true):dp kd (k+1)=dp kd k+1:=by unfold dp;rw[iq h (W.ex k hk h)];simp
theorem wV(W:WF kd n){k:Nat}(hk:k<n)(h:(kd k).cl=true):dp kd (k+1)+1=dp kd k:=by
 unfold dp;rw[iR h (W.Zt hk h),yp];have:=TL.mpr (W.cl k hk h)
 lia
def Gh{k:Nat}(h:(kd k).cl=false)(h':(kd k).op=false):dp kd (k+1)=dp kd k:=by unfold dp;rw[fu h h']
theorem Gi(W:WF kd n):∀k,k<=n->∀i j,(st kd k)[i]?\j->j<k/\(kd j).op=true/\dp kd j=i/\∀m,j<m->m<=k->i<dp kd m
 |0,_,i,j,h=>by simp[st] at h
 |k+1,hk,i,j,h=>by
  have ih:=Gi W k ();have Lg:k<n:=by lia
  have ext:∀{i j:Nat},(st kd k)[i]?\j->i<dp kd (k+1)->j<k+1/\(kd j).op=true/\dp kd j=i/\∀m,j<m->m<=k+1->i<dp kd m:=λ{i j} h hd=>by let(a,b,c,d):=ih i j h;show#[(),b,c,λm h1 h2=>?_];by_cases e:m=k+1;rw[e];calc hd;exact d m h1 ()
  by_cases ho:(kd k).op=true;rw[iq ho (W.ex k Lg ho)] at h;have hd:=Ba W Lg ho;by_cases hi:i<(st kd k).length;rw[nL hi] at h;calc ext h (by rw[hd];calc Jk hi);rw[sM ()] at h;have e:i-(st kd k).length=0:=by
   cases q:i-(st kd k).length with
   |zero=>rfl
   |succ r=>rw[q] at h;simp at h
  rw[e] at h;simp at h;subst h;have ei:i=dp kd k:=by unfold dp;lia
  show#[(),ho,ei.symm,λm h1 h2=>?_];have:m=k+1:=by lia
  rw[this,hd,ei];lia;have m_:(kd k).op=false:=by cases q:(kd k).op<;>simp_all
  by_cases hc:(kd k).cl=true;rw[iR hc m_] at h;have hi:=(dy.mp h).1;have hd:dp kd (k+1)=(st kd k).dropLast.length:=by unfold dp;rw[iR hc m_]
  rw[OH,ι (by rw[yp] at hi;calc hi)] at h;calc ext h (by rw[hd];calc hi);have og:(kd k).cl=false:=by cases q:(kd k).cl<;>simp_all
  rw[fu og m_] at h;have hd:=Gh og m_;calc ext h (by rw[hd];calc (dy.mp h).1)
theorem N3(W:WF kd n){j:Nat}(ho:(kd j).op=true):∀k,j<k->k<=n->(∀m,j<m->m<=k->dp kd j<dp kd m)->(st kd k)[dp kd j]?\j
 |0,h,_,_=>by lia
 |k+1,h,hk,hm=>by
  have Lg:k<n:=by lia
  by_cases e:j=k;subst e;rw[iq ho (W.ex j Lg ho)];unfold dp;simp;have ih:=N3 W ho k () () λm h1 h2=>hm m h1 ();have hd:=hm (k+1) () (cv _);by_cases m_:(kd k).op=true;rw[iq m_ (W.ex k Lg m_),nL (dy.mp ih).1];calc ih;have QD:(kd k).op=false:=by cases q:(kd k).op<;>simp_all
  by_cases hc:(kd k).cl=true;have hl:dp kd (k+1)=(st kd k).length-1:=by unfold dp;rw[iR hc QD,yp]
  rw[iR hc QD,OH,ι ()];calc ih;have og:(kd k).cl=false:=by cases q:(kd k).cl<;>simp_all
  rw[fu og QD];calc ih
def jc(kd:Nat->Kd)(n d:Nat):Nat->Nat->Option Nat
 |0,_=>none
 |f+1,k=>if k<n then (if dp kd (k+1)=d then some k else jc kd n d f (k+1)) else none
def endOf(kd:Nat->Kd)(n j:Nat):Option Nat:=jc kd n (dp kd j) (n-(j+1)) (j+1)
theorem kL{d:Nat}:∀{f k e:Nat},jc kd n d f k\e->k<=e/\e<n/\dp kd (e+1)=d/\∀m,k<=m->m<e->dp kd (m+1)≠d
 |0,_,_,h=>by cases h
 |f+1,k,e,h=>by
  simp only[jc] at h;split at h
  rename_i hk
  split at h
  rename_i hd
  cases h;exact#[cv _,hk,hd,λm h1 h2=>by lia]
  rename_i hd
  let(a,b,c,r):=kL h;show#[(),b,c,λm h1 h2=>?_];by_cases em:m=k;rw[em];calc hd;calc r m () h2;cases h
theorem kM{d:Nat}:∀{f k:Nat},jc kd n d f k=none->∀m,k<=m->m<k+f->m<n->dp kd (m+1)≠d
 |0,k,_,m,h1,h2,_=>by lia
 |f+1,k,h,m,h1,h2,h3=>by
  simp only[jc] at h;split at h;split at h;cases h
  rename_i hd
  by_cases em:m=k;rw[em];calc hd;exact kM h m () () h3
  lia
theorem Lp(W:WF kd n){k:Nat}(hk:k<n):dp kd k<=dp kd (k+1)+1:=by
 by_cases ho:(kd k).op=true;rw[Ba W hk ho];lia;have m_:(kd k).op=false:=by cases q:(kd k).op<;>simp_all
 by_cases hc:(kd k).cl=true;rw[wV W hk hc];calc cv _;have og:(kd k).cl=false:=by cases q:(kd k).cl<;>simp_all
 rw[Gh og m_];lia
theorem above(W:WF kd n){j:Nat}(hj:j<n)(ho:(kd j).op=true):∀k,j<k->k<=n->(∀m,j<m->m<k->dp kd (m+1)≠dp kd j)->∀m,j<m->m<=k->dp kd j<dp kd m
 |0,h,_,_,m,_,_=>by lia
 |k+1,h,hk,eY,m,h1,h2=>by
  by_cases em:m=k+1;subst em;by_cases e:j=k;subst e;rw[Ba W hj ho];lia;have ih:=above W hj ho k () () (λm a b=>eY m a ()) k () (cv _);have s:=Lp W (k:=k) ();have ne:=eY k () ()
  lia
  by_cases e:j=k
  lia
  calc above W hj ho k () () (λm a b=>eY m a ()) m h1 ()
theorem end_is(W:WF kd n)(hj:j<n)(ho:(kd j).op=true):∃e,endOf kd n j\e/\j<e/\e<n/\dp kd (e+1)=dp kd j/\∀m,j<m->m<e->dp kd (m+1)≠dp kd j:=by
 cases h:endOf kd n j with
 |some e=>let(a,b,c,d):=kL h;calc#[e,9,(),b,c,λm h1 h2=>d m () h2]
 |none=>
  exfalso;have q:=kM h;have a:=above W hj ho n hj (cv _) (λm h1 h2=>q m () () h2) n hj (cv _);have z:dp kd n=0:=by unfold dp;rw[W.fin];rfl
  lia
theorem jd:∀k,(st kd k).Pairwise (·<·)/\∀j∈st kd k,j<k
 |0=>#[List.Pairwise.nil,λj h=>(by simp[st] at h)]
 |k+1=>by
  let(h1,h2):=jd k;have base:∀{s:qao},s.Sublist (st kd k)->s.Pairwise (·<·)/\∀j∈s,j<k:=λsl=>#[h1.sublist sl,λj h=>h2 j (sl.subset h)];have key:∀{s:qao},s.Sublist (st kd k)->(if (kd k).op=true then s++[k] else s).Pairwise (·<·)/\∀j∈(if (kd k).op=true then s++[k] else s),j<k+1:=λ{s} sl=>by
   let(a,b):=base sl;split;show#[List.pairwise_append.mpr #[a,List.pairwise_singleton _ _,λx hx y hy=>by rw[fP.mp hy];calc b x hx],λj hj=>?_];rcases gc.mp hj with h|h
   calc Jk (b j h);rw[fP.mp h];calc Ar _;exact#[a,λj hj=>Jk (b j hj)]
  simp only[st];by_cases hc:(kd k).cl=true;rw[ι hc];calc key (List.dropLast_sublist _);rw[θ hc];calc key (List.Sublist.refl _)
def endsAt(kd:Nat->Kd)(n j:Nat):Option Nat:=if (kd j).op=true then endOf kd n j else none
theorem Lq(W:WF kd n){k:Nat}(hk:k<n)(hc:(kd k).cl=true)(ht:(st kd k).getLast?\j):endsAt kd n j\k/\j<k:=by
 have hl:(st kd k)[(st kd k).length-1]?\j:=by rw[<- Ep];exact ht
 let(a,b,c,d):=Gi W k () _ j hl;let(e,h1,h2,h3,h4,h5):=end_is W () b;show#[?_,a];unfold endsAt;rw[ι b,h1]
 congr 1
 have hd:=wV W hk hc;have yY:dp kd (k+1)=dp kd j:=by rw[c];unfold dp at hd ⊢;lia
 rcases Nat.lt_or_ge e k with l|l
 have:=d (e+1) () ()
 lia
 rcases Nat.lt_or_ge k e with l2|l2
 exact absurd yY (h5 k a l2)
 lia
theorem ua(W:WF kd n){k:Nat}(hk:k<n)(he:endsAt kd n j\k)(hj:j<n):(kd k).cl=true/\(st kd k).getLast?\j:=by
 unfold endsAt at he;by_cases ho:(kd j).op=true;rw[ι ho] at he;let(e,h1,h2,h3,h4,h5):=end_is W hj ho;rw[h1] at he;cases he;have ab:=above W hj ho k h2 () λm x y=>h5 m x y;have YM:=ab k h2 (cv _);have hc:(kd k).cl=true:=by
  cases q:(kd k).cl with
  |true=>rfl
  |false=>exfalso;by_cases m_:(kd k).op=true;rw[Ba W hk m_] at h4;lia;rw[Gh q (by cases r:(kd k).op<;>simp_all)] at h4;lia
 show#[hc,?_];have hd:=wV W hk hc;have:=N3 W ho k h2 () ab;rw[Ep];have e:(st kd k).length-1=dp kd j:=by unfold dp at hd h4 ⊢;lia
 rw[e];calc this;rw[θ ho] at he;cases he
end
end K5
namespace VT
open PySem PySem.Spec PyProof.Rows L2
structure Gj(K:qaf)(H H':Hp)(Ox:zm)(us:Φ)(p:Addr)(ls:zm):Prop where
 same:aP H H'
 tup:H' p\.tup (ls.map V.ref)
 nd:ls.Nodup
 new:∀a∈ls,H a=none
 rts:Paired (λa t=>cT K H' (ls++Ox) a t) ls us
def QE(K:qaf)(n:Nat)(G:Φ->(Φ->Prop)->Prop):Sp:=λvs H Q _=>E3 λts Ox q=>(∀a∈Ox,H a≠none)/\aB K H Ox ts vs/\27=n/\G ts q /\
 ∀us,q us->∀p ls H',Gj K H H' Ox us p ls->Q (.ref p) H'
structure adb(K:qaf)(Z:Zc)(tm:qab)(d:KS)(dp:Φ->Prop)(D:Ends):Prop where
 fin:Fin K Z tm d D
 dp:∀us,dp us->∀p ls H',Gj K Z.H0 H' Z.Ox us p ls->D.rt (.ref p) H'
abbrev N4:=KS->(Φ->Prop)->En->Prop
def lSD(X:Cx)(Z:Zc)(tm:qab)(g:N4):TS:=λD σ H=>E4 λρ O d dp=>ax X.K Z tm O ρ σ H/\g d dp ρ/\adb X.K Z tm d dp D
def C4(X:Cx)(Z:Zc)(st:qaq)(g:N4):Prop:=Bx λtm=>jF X st (lSD X Z tm g)
instance{X:Cx}{Z:Zc}{st:qaq}{g:N4}:CoeFun (C4 X Z st g) λ_=>∀tm,jF X st (lSD X Z tm g):=#[λh=>Bx.h h]
def Lr(ρ:En):qao->Option (Φ)
 |[]=>some []
 |i::is=>match ρ[i]?,Lr ρ is with
  |some (some (t,true)),some ts=>some (t::ts)
  |_,_=>none
section
variable{st:Stmt}{g:FS}{u:N4}{pos:Pos}
def VN(g:FS)(u:N4):N4:=λd dp ρ=>g {d with nx:=u d dp} ρ
def fz(h1:VS X Z st g)(h2:C4 X Z rest u):C4 X Z (st::rest) (VN g u):=.mk λtm=>jF.km (iG (h1 tm) (h2 tm)) λD σ H #[ρ,O,d,dp,I,h,F] =>
 #[ρ,O,{d with nx:=u d dp},I,h,#[λO' ρ' σ' H' I' h'=>#[ρ',O',d,dp,I',h',F],F.fin.rt,F.fin.bk,F.fin.ct]]
def uc(X:Cx):qap->qao->Prop
 |[],is=>is=[]
 |e::es,is=>∃x p i js,e=.Name x p/\is=i::js/\X.N[i]?\x/\m8 41 x/\(x==("__debug__":Str))=false/\(x==("__classdict__":Str))=false/\starEach (e::es) 19=(false,eval e 19)::starEach es 19/\uc X es js
def VQ(is:qao):TA:=λσ H Q=>∃vs,Paired (λ(i:Nat) (v:V)=>σ[i]?\some v) is vs/\Q vs H
theorem Bb:∀{es:qap}{is:qao},uc X es is->PA X es (VQ is)
 |[],is,h=>λpos ε s σ H Q I #[vs,hv,q]=>by have e:=h;subst e;cases hv;calc cQ pos ε s σ H Q I q
 |e::es,is,h=>by
  let(x,p,i,js,rfl,rfl,h1,h2,h3,h4,h5,h6):=h;exact PA.weak (bw (cA h1 h2 h3 h4) (Bb h6) h5) λσ H Q #[vs,hv,q]=>by
   cases hv with
   |cons r t=>calc#[_,r,_,t,q]
theorem wW{K:qaf}{tm:qab}{O:HD}{ρ:En}{σ:St}{H:Hp}(I:ax K Z tm O ρ σ H):∀{is:qao}{ts:Φ},Lr ρ is\ts ->
  ∃ls:zm,Paired (λ(i:Nat) (v:V)=>σ[i]?\some v) is (ls.map V.ref)/\Paired (λ(i:Nat) (a:Addr)=>O[i]?\some a) is ls/\Paired (λa t=>cT K H (av Z O) a t) ls ts
 |[],ts,h=>by cases h;calc#[[],.nil,.nil,.nil]
 |i::is,ts,h=>by
   simp only[Lr] at h;split at h
   rename_i t us e1 e2
   cases h;let(a,h1,h2,h3):=I.root e1;let(ls,g1,g2,g3):=wW I e2;calc#[a::ls,.cons h2 g1,.cons h1 g2,.cons h3 g3];cases h
def gq{R:α->β->Prop}{l:List α}{m:List β}(h:Paired R l m){b:β}(hb:b∈m):∃a∈l,R a b:=by
 induction h with
 |nil=>cases hb
 |cons r t ih=>
  rcases cY.mp hb with e|hb
  subst e;calc#[_,fM,r];let(a,h1,h2):=ih hb;calc#[a,gT _ h1,h2]
def zl{tm:qab}(I:ax K Z tm O ρ σ H){ls:zm}(nd:is.Nodup)(h:Paired (λ(i:Nat) (a:Addr)=>O[i]?\some a) is ls):ls.Nodup:=by
 induction h with
 |nil=>calc Jm
 |cons r t ih=>rw[oa] at nd ⊢;show#[λm=>?_,ih nd.2];let(j,hj,e):=gq t m;calc nd.1 (by rw[wy I r e];calc hj)
def N5(is:qao):N4:=λ_ dp ρ=>match Lr ρ is with
 |some ts=>dp ts
 |none=>False
theorem Lu{x1}(hP:Z.P=[])(hn:uc X es is)(nd:is.Nodup)(hl:is.length<=100):C4 X Z [.Return (some (.Tuple es x1 p)) pos] (N5 is):=.mk λtm=>
 ka (PS.weak (yu (jT (Bb hn))) λD σ H #[ρ,O,d,dp,I,h,F]=>by
  unfold N5 at h;split at h
  rename_i ts e
  let(ls,g1,g2,g3):=wW I e;show#[ls.map V.ref,g1,?_,λq hq=>F.dp ts h q ls _ #[?_,aG,zl I nd g2,λa ha=>?_,?_]];rw[bL,<- JG g2,π];lia;intro b o eb;have:=I.keep b o eb (by rw[hP];calc λz=>nomatch z);rw[az (bx this hq)];calc this;let(i,_,e):=gq g2 ha;rcases (I.own a (aF.mpr (eM e))).1 with z|z
  rw[hP] at z;calc nomatch z;calc z;show Paired.m7 g3 λa t r=>(r.same (aE hq)).br λb hb=>?_;rcases gc.mp hb with z|z
  let(i,_,e):=gq g2 z;calc il _ (aF.mpr (eM e));calc iC _ z;calc h.elim)
end
section
def hU(n:Nat):roots (List.replicate n none)=[]:=by
 unfold roots;induction n with
 |zero=>rfl
 |succ n ih=>rw[Jj,rf];calc ih
def rN{N:ω}{Ox:zm}{ts:Φ}(hN:27<=N.length)(ox:∀a∈Ox,H a≠none)(h:aB K H Ox ts vs) :
  ax K #[H,[],Ox] [] (List.replicate N.length none) (ts.map (λt=>some (t,false))++List.replicate (N.length-27) none) (start N vs) H:=by
 have hl:=h.length;have ea:av #[H,[],Ox] (List.replicate N.length none)=Ox:=by unfold av;rw[hU];rfl
 show#[?_,by simp;lia,λi e he=>?_,by rw[hU];calc Jm,λa ha=>?_,λp hp=>(nomatch hp),ox,λb o e _=>e,λp hp=>(nomatch hp)];unfold L2.start;simp[hl];rw[ea];by_cases hi:i<27;rw[nL (by simpa using hi),d4] at he;have e1:ts[i]?\ts[i]:=by simp
 rw[e1] at he;cases he;let(v,h1,h2):=h.get e1;show#[none,some v,by rw[Er,ι ()],?_,9,v,9,h2];unfold L2.start;rw[nL (by rw[bL];lia),d4,h1];rfl;rw[sM (by simpa using hi),Er] at he;split at he
 rename_i c8
 cases he;rw[bL] at c8;show#[none,none,by rw[Er,ι ()],?_,9];unfold L2.start;rw[sM (by rw[bL];lia),Er,bL,ι ()];cases he;rw[hU] at ha;calc nomatch ha
def fnD{st:Stmt}{N:ω}{k:Nat}{G:Φ->(Φ->Prop)->Prop}(F:Ef K x qual st f fd)(S:aI N ps (aq st))(hn:n=ps.length)(hN:n<=N.length)(gz:∀(bP:Value) (A:Around) (outer:List Env) (s:Shared) (H:Hp) (E:XK) (Ox:zm),bA k (A.deeper (envOfC qual (aq st) 8 f bP))->∀ts q,G ts q ->
    ∃g,C4 (ke i8 P w K mg base N qual (aq st) f bP A outer s H E).Ed #[H,[],Ox] (cw st) g/\(27=n->g {nx:=λ_=>False,rt:=λ_ _=>False} q (ts.map (λt=>some (t,false))++List.replicate (N.length-27) none))) :
  dA P w K mg base i8 (k+1) f fd ps (QE K n G):=by
 show F.ok S (λvs H Q E h=>?_) (λbP A outer s H vs Q E hr h=>?_);let(ts,Ox,q,_,ha,hl,_):=h;rw[ha.length,hl,hn];let(ts,Ox,q,ox,ha,hl,hG,kk):=h;let(g,hg,hq):=gz bP A outer s H E Ox hr ts q hG;calc#[_,hg [],_,_,_,q,rN () ox ha,hq hl,#[#[λ_ _ _ _ _ h=>h.elim,λ_ _ _ _ _ _ _ h=>h.elim,λ_ _ _ _ _ h=>h.elim,λ_ _ _ _ _ h=>h.elim],λus hu p ls H' D=>kk us hu p ls H' D]]
end
section
variable{k:Nat}{G:Φ->(Φ->Prop)->Prop}{pos:Pos}
def lD(X:Cx)(Z:Zc)(tm:qab)(f:En->(Φ->Prop)->Prop):TE:=λσ H Q=>E3 λρ O q=>ax X.K Z tm O ρ σ H/\f ρ q/\∀us,q us->∀p ls H',Gj X.K H H' (av Z O) us p ls->Q (.ref p) H'
def VD(X:Cx)(Z:Zc)(e:Expr)(f:En->(Φ->Prop)->Prop):Prop:=Bx λtm=>PE X e (lD X Z tm f)
instance{X:Cx}{Z:Zc}{e:Expr}{f:En->(Φ->Prop)->Prop}:CoeFun (VD X Z e f) λ_=>∀tm,PE X e (lD X Z tm f):=#[λh=>Bx.h h]
def QF(n:Nat)(g:FA)(G:Φ->(Φ->Prop)->Prop):En->(Φ->Prop)->Prop:=λρ Q=>g ρ λts=>27=n/\G ts Q
def Bc(F:dA 39 X.w X.K X.mg X.base i8 k f fd ps (QE X.K n G))(hr:bA k X.A)(hg:Gl X x)(hm:X.mg x\.ref f)(hk:W.keepIn X.K (.ref f)=true)(hb:Binds X.K fd ps [])(ha:VA X Z (e::es) g)(qx:f9 x:=by decide)(he:starEach (e::es) 19=(false,eval e 19)::starEach es 19:=by rfl)(jn:(backTo pos (starEach es 19)).any (·.1)=false:=by rfl) :
  VD X Z (.Call 52 (e::es) [] pos) (QF n g G):=.mk λtm=>PE.weak (gX F hr hg hm hk hb .nil jH (ha tm) qx he jn) λσ H Q #[ρ,O,q,I,hf,k] =>
 #[ρ,O,_,I,hf,λts gw vs H1 s1 a1=>by
   change QE X.K n G (vs++[]) H1 Q E0;rw[As];show#[ts,av Z O,q,(I.same s1).ND,a1,gw.1,gw.2,λus hu p ls H' D=>k us hu p ls H' #[s1.trans D.same,D.tup,D.nd,λa ha=>?_,D.rts]];cases z:H a with
   |none=>rfl
   |some o=>have:=D.new a ha;rw[s1 _ _ z] at this;cases this]
def Gj.at{tm:qab}{us:Φ}{p:Addr}{ls:zm}(I:ax K Z tm O ρ σ H)(D:Gj K H H' (av Z O) us p ls):At K H' (av Z O) (.tup us) (.ref p):=by
 show dg (dJ.of D.tup) (aB.iff.mpr ?_);have key:∀{YN:zm}{Gk:Φ},(∀a∈YN,a∈ls)->Paired (λa t=>cT K H' (ls++av Z O) a t) YN Gk->Paired (λv t=>At K H' (av Z O) t v) (YN.map V.ref) Gk:=by
  intro YN Gk sub h;induction h with
  |nil=>calc .nil
  |cons r t ih=>exact .cons ((r.br λb hb=>iC _ hb).at λz=>I.ND _ z (D.new _ (sub _ fM))) (ih λa ha=>sub a (gT _ ha))
 calc key (λ_ h=>h) D.rts
def VU(f:En->(Φ->Prop)->Prop):FP:=λρ Q=>f ρ λus=>Q (.vw (.tup us))
def VD.vp{f:En->(Φ->Prop)->Prop}(h:VD X Z e f):VP X Z e (VU f):=.mk λtm=>PE.weak (h tm) λσ H Q #[ρ,O,q,I,hf,k] =>
 #[ρ,O,_,I,hf,λus hu p ls H' D=>k _ hu _ H' D.same #[I.same D.same,D.at I]]
end
end VT
namespace K5
open PySem L2 VT Gen
def wordOf:Rw->Str
 |.df _ _=>"def" | .give _=>"give" | .put _ _=>"put" | .CV _ _ _ _=>"do" | .new _=>"new" | .get _ _ _=>"get" | .set _ _ _=>"set" | .call _ _ _=>"call" | .fail _=>"fail"
 |.Jt _=>"if" | .zg=>"else" | .A6 _=>"while" | .fin=>"end" | .skip=>"skip"
def gG(r:Rw):∃l,aV r=.tup (.str (wordOf r)::l):=by cases r<;>calc#[_,9]
def aZ:Rw->Kd
 |.df _ _=>#[true,false,false,true]
 |.give _=>#[false,true,false,false]
 |.Jt _=>#[true,false,false,false]
 |.zg=>#[false,false,true,false]
 |.A6 _=>#[true,false,false,false]
 |.fin=>#[false,true,false,false]
 |_=>#[false,false,false,false]
def VY(r:Rw):decide (wordOf r="def")=(aZ r).df:=by cases r<;>first|rfl|decide +kernel
def VZ(r:Rw):decide (wordOf r="else")=(aZ r).el:=by cases r<;>first|rfl|decide +kernel
def V0(r:Rw):Eh (.str (wordOf r)) [.str "give",.str "end"]=(aZ r).cl:=by cases r<;>first|rfl|decide +kernel
def V1(r:Rw):Eh (.str (wordOf r)) [.str "def",.str "if",.str "while"]=(aZ r).op:=by cases r<;>first|rfl|decide +kernel
def bE(rs:qal)(k:Nat):Kd:=match rs[k]? with
 |some r=>aZ r
 |none=>#[false,false,false,false]
def c7{k:Nat}(h:rs[k]?\r):bE rs k=aZ r:=by unfold bE;rw[h]
def N6(rs:qal):Prop:=WF 28 6
def oT:Option Nat->T
 |none=>.bK
 |some k=>.int (k:Int)
def tab(f:Nat->Option Nat)(n k:Nat):Φ:=(List.range n).map λi=>if i<k then oT (f i) else .bK
def jw(e:Nat->Option Nat)(n k:Nat):Φ:=(List.range n).map λj=>match e j with
 |some m=>if m<k then .int (m:Int) else .bK
 |none=>.bK
def kN(f n k):(tab f n k).length=n:=by simp[tab]
def wX(f n k):(jw f n k).length=n:=by simp[jw]
def wY(f n):tab f n 0=List.replicate n .bK:=by unfold tab;rw[List.eq_replicate_iff];calc#[by simp,λx hx=>by simp at hx;calc hx.2.symm]
def C5(f n):jw f n 0=List.replicate n .bK:=by unfold jw;rw[List.eq_replicate_iff];show#[by simp,λx hx=>?_];let(j,_,rfl):=gy.mp hx;split<;>simp
def nX{f:Nat->Option Nat}{k:Nat}:(tab f n k).set k (oT (f k))=tab f n (k+1):=by show SH λi=>?_;rw[List.getElem?_set,kN];unfold tab;rw[d4,d4];by_cases hi:i<n;rw[Nj hi];by_cases e:k=i;subst e;rw[ι 9,ι hi];simp;rw[θ e];simp only[TR];by_cases l:i<k;rw[ι l,ι ()];rw[θ l,θ ()];rw[Nk (by simp;lia)];split;rw[θ ()];rfl;rfl
def wZ{f:Nat->Option Nat}{k:Nat}(h:f k=none):tab f n k=tab f n (k+1):=by show Es λi _=>?_;by_cases e:i=k;subst e;rw[θ (B' _),ι (Ar _),h];rfl;by_cases l:i<k;rw[ι l,ι ()];rw[θ l,θ ()]
def w6(f n):tab f n n=(List.range n).map λi=>oT (f i):=Es λi hi=>by rw[ι (m6.mp hi)]
def Gm{e:Nat->Option Nat}{k:Nat}(h:e j\k)(u:∀i,i<n->e i\k->i=j):(jw e n k).set j (.int (k:Int))=jw e n (k+1):=by
 show SH λi=>?_;rw[List.getElem?_set,wX];unfold jw;rw[d4,d4];by_cases hi:i<n;rw[List.getElem?_range hi];by_cases q:j=i;subst q;rw[ι 9,ι hi];simp[h];rw[θ q];simp only[TR];cases r:e i with
 |none=>rfl
 |some m=>have:m≠k:=λz=>q (u i hi (by rw[r,z])).symm;simp only;by_cases l:m<k;rw[ι l,ι ()];rw[θ l,θ ()]
 rw[Nk (by simp;lia)];split;rw[θ ()];rfl;rfl
def C6{e:Nat->Option Nat}{k:Nat}(u:∀i,i<n->e i≠some k):jw e n k=jw e n (k+1):=by
 show Es λi hi=>?_;cases r:e i with
 |none=>rfl
 |some m=>have:m≠k:=λz=>u i (m6.mp hi) (by rw[r,z]);simp only;by_cases l:m<k;rw[ι l,ι ()];rw[θ l,θ ()]
def C7{e:Nat->Option Nat}(h:∀j m,j<n->e j\m->m<n):jw e n n=(List.range n).map λi=>oT (e i):=by
 show Es λi hi=>?_;cases r:e i with
 |none=>rfl
 |some m=>simp only;rw[ι (h i m (m6.mp hi) r)];rfl
section
variable(kd:Nat->Kd)
def ud(k:Nat):Option Nat:=(st kd k).getLast?
def gx(k:Nat):Option Nat:=if (kd k).df=true then some k else (st kd k).head?
def zo(n:Nat):Nat->Φ
 |0=>List.replicate n .bK
 |k+1=>match (kd k).el,ud kd k with
  |true,some h=>(zo n k).set h (.int (k:Int))
  |_,_=>zo n k
end
theorem ue(kd n):∀k,(zo kd n k).length=n
 |0=>by simp[zo]
 |k+1=>by simp only[zo];split;rw[List.length_set];calc ue kd n k;calc ue kd n k
def Gn(rs:qal):Φ:=[.lst ((List.range 6).map λi=>oT (ud 28 i)),.lst ((List.range 6).map λi=>oT (endsAt 28 6 i)),.lst (zo 28 6 6),.lst ((List.range 6).map λi=>oT (gx 28 i))]
def Gp(rs:qal):cW 42=(rs.zipIdx).map λp=>.tup [.int (p.2:Int),aV p.1]:=by unfold cW;show SH λi=>?_;rw[Sz,d4,d4,List.getElem?_zipIdx];cases rs[i]?<;>simp
def dr:Nat->qal->Option Nat
 |d,[]=>some d
 |d,r::rs=>if (aZ r).cl=true then (if d=0 then none else dr (d-1) rs) else if (aZ r).el=true then (if d=0 then none else dr d rs) else if (aZ r).op=true then dr (d+1) rs else dr d rs
theorem fA:∀(a b:qal)(d:Nat),dr d (a++b)=(dr d a).bind λe=>dr e b
 |[],b,d=>rfl
 |r::a,b,d=>by simp only[List.cons_append,dr];split;split;rfl;calc fA a b _;split;split;rfl;calc fA a b _;split;calc fA a b _;calc fA a b _
def QG(rs:qal){k:Nat}(h:rs[k]?\r):(st 28 (k+1)).length=(if (aZ r).cl=true then (st 28 k).length-1 else if (aZ r).op=true then (st 28 k).length+1 else (st 28 k).length):=by
 have mP:=c7 h;by_cases hc:(aZ r).cl=true;have ho:(aZ r).op=false:=by cases r<;>first|rfl|(cases hc)
 rw[ι hc,iR (by rw[mP];calc hc) (by rw[mP];calc ho),yp];have og:(aZ r).cl=false:=by cases q:(aZ r).cl<;>simp_all
 rw[θ hc];by_cases ho:(aZ r).op=true;rw[ι ho,iq (by rw[mP];calc ho) (by rw[mP];calc og)];simp;rw[θ ho,fu (by rw[mP];calc og) (by rw[mP];cases q:(aZ r).op<;>simp_all)]
theorem nY{rs:qal}(h:dr 0 rs\0):∀k,k<=6->dr 0 (rs.take k)=some (st 28 k).length
 |0,_=>rfl
 |k+1,hk=>by
  have ih:=nY h k ();have e:rs[k]?\rs[k]:=by simp
  have et:rs.take (k+1)=rs.take k++[rs[k]]:=by rw[List.take_succ,e];rfl
  have hs:(dr 0 (rs.take (k+1))).isSome=true:=by
   rw[<- TC (k+1) rs,fA] at h;cases q:dr 0 (rs.take (k+1)) with
   |some _=>rfl
   |none=>rw[q] at h;cases h
  rw[et,fA,ih,SI] at hs ⊢;rw[QG rs e];simp only[dr] at hs ⊢;by_cases hc:(aZ rs[k]).cl=true;rw[ι hc,ι hc] at *;by_cases z:(st 28 k).length=0;rw[ι z] at hs;cases hs;rw[θ z]
  . rw[θ hc,θ hc] at *;by_cases hl:(aZ rs[k]).el=true
    . have ho:¬ (aZ rs[k]).op=true:=by generalize rs[k]=r at hl;cases r<;>first|(cases hl;done)|(intro z;cases z)
      rw[ι hl,θ ho] at *;by_cases z:(st 28 k).length=0;rw[ι z] at hs;cases hs;rw[θ z]
    rw[θ hl] at *;split<;>rfl
def V2(h:dr 0 rs\0):N6 rs:=by
 have at':∀{k:Nat},k<6->∃r,rs[k]?\r/\bE rs k=aZ r:=λ{k} hk=>#[rs[k],by simp,c7 4];have step:∀{k:Nat}{r:Rw},rs[k]?\r->(aZ r).cl=true\/(aZ r).el=true->st 28 k≠[]:=λ{k r} hr vL z=>by
  have hk:=(dy.mp hr).1;have h1:=nY h k ();have h2:=nY h (k+1) ();have et:rs.take (k+1)=rs.take k++[r]:=by rw[List.take_succ,hr];rfl
  rw[et,fA,h1,SI,z] at h2;simp only[dr,List.length_nil] at h2;obtain q|q:=vL
  rw[ι q,ι True.intro] at h2;cases h2;by_cases q2:(aZ r).cl=true;rw[ι q2,ι True.intro] at h2;cases h2;rw[θ q2,ι q,ι True.intro] at h2;cases h2
 show#[λk hk ho=>?_,λk hk hc=>?_,λk hk hc=>?_,λk hk hc=>?_,λk hk hc=>?_,?_];let(r,hr,e):=at' hk;rw[e] at ho ⊢;cases r<;>first|rfl|(cases ho)
 let(r,hr,e):=at' hk;calc step hr (.inl (by rw[<- e];calc hc));let(r,hr,e):=at' hk;calc step hr (.inr (by rw[<- e];calc hc));let(r,hr,e):=at' hk;rw[e] at hc ⊢;cases r<;>first|exact#[9,9]|(cases hc)
 let(r,hr,e):=at' hk;rw[e] at hc ⊢;cases r<;>first|rfl|(cases hc)
 have:=nY h 6 (cv _);rw[OL,h] at this;calc Ni.mp (Option.some.inj this).symm
def w9(h:gF ys pl r):(aZ r).cl=false/\(aZ r).el=false/\(aZ r).op=false:=by cases r<;>first|calc#[9,9,9]|calc h.elim
def QH{bN new dj}(h:l7 ys pl bN new dj){d:Nat}(hd:0<d):dr (d+bN.length) new\(d+dj.length):=by
 obtain⟨o,_,rfl,rfl⟩|⟨o,_,rfl,rfl⟩|⟨y,_,rfl,rfl⟩|⟨s0,rfl,rfl,rfl⟩|⟨s0,x,rfl,rfl,rfl⟩|⟨r,hs,rfl,rfl⟩:=h
 simp[dr,aZ];lia;simp[dr,aZ];lia;simp[dr,aZ];lia;simp[dr,aZ];simp[dr,aZ];let(a,b,c):=w9 hs;simp[dr,a,b,c]
def Lv{later:Plan}{bN:ω}{body:qal}(h:Body ys later bN body){d:Nat}(hd:0<d):dr d body\(d+bN.length):=by
 induction h with
 |nil=>rfl
 |step _ hl ih=>rw[fA,ih,SI];calc QH hl hd
theorem Bd:∀(n d:Nat),dr (d+n) (List.replicate n Rw.fin)\d
 |0,d=>rfl
 |n+1,d=>by rw[Jj];simp only[dr,aZ,aaK];calc Bd n d
def QI{k:Nat}(h:Pre ys pl k rs):dr 0 rs\0:=by
 induction h with
 |zero=>rfl
 |succ _ _ hb _ YO ih=>rw[fA,ih,SI];change dr 1 _\0;rw[fA,Lv hb 5,SI,fA,Bd,SI];obtain rfl|rfl:=YO<;>rfl
end K5
namespace L2
open PySem PySem.Spec PyProof.Rows
section
variable{a:Expr}{tb:TE}{pos:Pos}
variable{tA T7:TT}{rest:qap}
end
section
variable{CX:Ee}{k:Nat}{ks:ω}{sp:Sp}{E:XK}{m:Str}{pos qy:Pos}{o:Expr}{kws:List Keyword}{t tk:TA}{nm:Option Str}
variable{g:qag->qag->qag}{gV:qak->qak->qak}
end
section
variable{κ:Type}[DecidableEq κ]
def iz(bf:List (κ×V))(k:κ):Option V:=(bf.find? λkv=>decide (kv.1=k)).map (·.2)
def putK(bf:List (κ×V))(k:κ)(v:V):List (κ×V) :=
 if (bf.any λkv=>decide (kv.1=k))=true then bf.map (λkv=>if kv.1=k then (kv.1,v) else kv) else bf++[(k,v)]
def iS{p:κ×V}{r:List (κ×V)}{k:κ}(e:p.1=k):iz (p::r) k\p.2:=by simp[iz,SJ,e]
def iT{p:κ×V}{r:List (κ×V)}{k:κ}(e:¬ p.1=k):iz (p::r) k=iz r k:=by simp[iz,SJ,e]
theorem oV(k:κ):∀bf:List (κ×V),(bf.any λkv=>decide (kv.1=k))=(iz bf k).isSome
 |[]=>rfl
 |p::r=>by rw[Ca];by_cases e:p.1=k;simp only[iS e,ο e,Bool.true_or,Option.isSome_some];rw[iT e,ς e,SK];calc oV k r
theorem iU(bf:List (κ×V))(k:κ)(v:V):(putK bf k v).length<=bf.length+1:=by unfold putK;split;rw[bL];lia;rw[lq,vI,List.length_nil];lia
def Gq{bf:List (κ×V)}{k:κ}(v:V)(h:iz bf k=none):putK bf k v=bf++[(k,v)]:=by unfold putK;rw[oV,h];calc θ 5
def j9.C8{o:Option V}{u:Option Value}(r:j9 o u):o.isSome=u.isSome:=by
 cases o with
 |none=>cases u with
  |none=>rfl
  |some _=>calc (show False from r).elim
 |some _=>cases u with
  |none=>calc (show False from r).elim
  |some _=>rfl
def j9.getD{o:Option V}{u:Option Value}{d:V}{d':Value}(r:j9 o u)(rd:RelV d d'):RelV (o.getD d) (u.getD d'):=by
 cases o with
 |none=>cases u with
  |none=>calc rd
  |some _=>calc (show False from r).elim
 |some _=>cases u with
  |none=>calc (show False from r).elim
  |some _=>calc r
def KV.val{bf:List (κ×V)}{vs:List (κ×Value)}(r:KV bf vs)(k:κ):j9 (iz bf k) (valueAt vs k):=by
 unfold KV at r;induction r with
 |nil=>calc True.intro
 |@cons p q ps qs h t ih=>
  let(h1,h2):=h;by_cases e:p.1=k;have e':q.1=k:=h1.symm.trans e;have b:valueAt (q::qs) k\q.2:=by simp[valueAt,SJ,e']
  rw[iS e,b];calc h2;have e':¬ q.1=k:=λz=>e (h1.trans z);have b:valueAt (q::qs) k=valueAt qs k:=by simp[valueAt,SJ,e']
  rw[iT e,b];calc ih
def KV.any{bf:List (κ×V)}{vs:List (κ×Value)}(r:KV bf vs)(k:κ):(bf.any λkv=>decide (kv.1=k))=vs.any λkv=>decide (kv.1=k):=by
 unfold KV at r;induction r with
 |nil=>rfl
 |cons h t ih=>rw[Ca,Ca,ih,h.1]
theorem KV.QJ{bf:List (κ×V)}{vs:List (κ×Value)}(r:KV bf vs)(k:κ){y:V}(ry:RelV y u) :
  KV (bf.map λkv=>if kv.1=k then (kv.1,y) else kv) (vs.map λkv=>if kv.1=k then (kv.1,u) else kv):=by
 unfold KV at r ⊢;induction r with
 |nil=>calc .nil
 |@cons p q ps qs h t ih=>rw[fO,fO];show .cons ?_ ih;let(h1,h2):=h;by_cases e:p.1=k;rw[ι e,ι (h1.symm.trans e)];calc#[h1,ry];rw[θ e,θ (λz=>e (h1.trans z))];calc#[h1,h2]
def KV.put{bf:List (κ×V)}{vs:List (κ×Value)}(r:KV bf vs)(k:κ){y:V}(ry:RelV y u):KV (putK bf k y) (stored vs k u):=by unfold putK stored;rw[r.any k];by_cases e:(vs.any λkv=>decide (kv.1=k))=true;rw[ι e,ι e];calc r.QJ k ry;rw[θ e,θ e];calc Paired.snoc r #[9,ry]
def KV.length{bf:List (κ×V)}{vs:List (κ×Value)}(r:KV bf vs):bf.length=vs.length:=JG r
end
def w_{k:Key}(r:RelV (kV k) u):(bM P w).is k u=true:=by
 cases k with
 |inl i=>let(t,e):=(show ∃t,u=Value.int i t from r);subst e;calc vO P w i t
 |inr x=>let(t,e):=(show ∃t,u=Value.str x t from r);subst e;calc vP P w x t
theorem rO{P:Program}{w:World}:∀{ks:List Key}{us:qag},Vals (ks.map kV) us->ItemsAre (bM P w) ks us
 |[],_,r=>by rw[SN] at r;cases r;calc .nil
 |k::ks,_,r=>by
  rw[fO] at r;cases r with
  |cons h t=>calc .cons (w_ h) (rO t)
abbrev KT(H:Hp):List (List Key×V)->List (List Key×Addr×Value)->Prop:=Paired λp q=>p.1=q.1/\H q.2.1\.tup (p.1.map kV)/\RelV p.2 q.2.2
def KT.val{xs:List (List Key×Addr×Value)}(r:KT H bf xs)(k:List Key):j9 (iz bf k) ((atKey xs k).map (·.2)):=by
 induction r with
 |nil=>calc True.intro
 |@cons p q ps qs h t ih=>
  let(h1,_,h2):=h;by_cases e:p.1=k;have e':q.1=k:=h1.symm.trans e;have b:atKey (q::qs) k\q.2:=by simp[atKey,SJ,e']
  rw[iS e,b];calc h2;have e':¬ q.1=k:=λz=>e (h1.trans z);have b:atKey (q::qs) k=atKey qs k:=by simp[atKey,SJ,e']
  rw[iT e,b];calc ih
theorem KT.QJ{xs:List (List Key×Addr×Value)}(r:KT H bf xs)(k:List Key){y:V}(ry:RelV y u) :
  KT H (bf.map λkv=>if kv.1=k then (kv.1,y) else kv) (xs.map (putAt k u)):=by
 induction r with
 |nil=>calc .nil
 |@cons p q ps qs h t ih=>rw[fO,fO];show .cons ?_ ih;let(h1,h2,h3):=h;unfold putAt;by_cases e:p.1=k;rw[ι e,ι (h1.symm.trans e)];calc#[h1,h2,ry];rw[θ e,θ (λz=>e (h1.trans z))];calc#[h1,h2,h3]
def KT.put{xs:List (List Key×Addr×Value)}(r:KT H bf xs)(k:List Key){b:Addr}{y:V}(hb:H b\.tup (k.map kV))(ry:RelV y u) :
  KT H (putK bf k y) (storedH xs k b u):=by
 have e:(bf.any λkv=>decide (kv.1=k))=(atKey xs k).isSome:=by rw[oV,(r.val k).C8,Option.isSome_map]
 unfold putK storedH;rw[e];by_cases q:(atKey xs k).isSome=true;rw[ι q,ι q];calc r.QJ k ry;rw[θ q,θ q];calc Paired.snoc r #[9,hb,ry]
def KT.keeps{xs:List (List Key×Addr×Value)}(r:KT H bf xs)(ht:∀b ys,H b\.tup ys->H' b\.tup ys):KT H' bf xs :=
 Paired.m7 r λ_ _ z=>#[z.1,ht _ _ z.2.1,z.2.2]
section
def N7{u:HO}(ok:jl P w H h)(e:Rd H a u):bO P w H h a u:=e.ok ok
def rP{bf:List (Key×V)}(ok:jl P w H h)(e:Rd H a (.dK bf)):bf.length<=sizeLine/\(a==sysModules)=false/\∃vs,KV bf vs/\h.DictOf (bM P w) a vs :=
 show bO P w H h a (.dK bf) from N7 ok e
def Be{bf:List (Key×V)}(ok:jl P w H h)(e:H a\.dK bf):bf.length<=sizeLine/\(a==sysModules)=false/\∃vs,KV bf vs/\h.DictOf (bM P w) a vs:=rP ok (.inl e)
def oW{ks:List Key}(ok:jl P w H h)(e:H a\.tup (ks.map kV)):(tupleKind (bM P w)).is h ks a:=by let(_,aN,r,o,h1,h2,n,h3):=(show bO P w H h a (.tup (ks.map kV)) from ok a _ e);calc#[o,aN.toArray,n,h1,h2,h3,by simpa using rO r]
def xa(ok:jl P w H h)(e:Rd H a (.dT bf)):bf.length<=sizeLine/\(a==sysModules)=false /\
  ∃xs,KT H bf xs/\h.DictOfH (tupleKind (bM P w)) a xs:=by
 let(z,y,xs,r,o,es,ep,h1,h2,h3,h4,h5):=(show bO P w H h a (.dT bf) from N7 ok e);show#[z,y,xs,r,o,es,ep,h1,h2,h3,h4,λx hx=>?_,h5];have all:∀{l:List (List Key×V)}{m:List (List Key×Addr×Value)},KT H l m->∀x∈m,(tupleKind (bM P w)).is h x.1 x.2.1:=by
  intro l m q;induction q with
  |nil=>intro x hx;calc nomatch hx
  |@cons p q ps qs hq t ih=>
    intro x hx;rcases cY.mp hx with e|hx
    subst e;calc oW ok (by rw[<- hq.1];calc hq.2.1);exact ih x hx
 calc all r x hx
def V3(ok:jl P w H h)(e:H a\.dT bf):bf.length<=sizeLine/\(a==sysModules)=false /\
 ∃xs,KT H bf xs/\h.DictOfH (tupleKind (bM P w)) a xs:=xa ok (.inl e)
end
def xb(H:Hp)(a:Addr)(y:V)(r:Option V):Prop :=
 (∃bf k,Rd H a (.dK bf)/\y=kV k/\r=iz bf k)\/∃bf k b,Rd H a (.dT bf)/\y=.ref b/\H b\.tup (k.map kV)/\r=iz bf k
def qO(H:Hp)(a:Addr)(y v:V)(H':Hp):Prop :=
 (∃bf k,H a\.dK bf/\y=kV k/\bf.length<sizeLine/\H'=upd H a (.dK (putK bf k v))) \/
 ∃bf k b,H a\.dT bf/\y=.ref b/\H b\.tup (k.map kV)/\bf.length<sizeLine/\H'=upd H a (.dT (putK bf k v))
theorem xb.k{bf:List (Key×V)}{k:Key}(e:H a\.dK bf):xb H a (kV k) (iz bf k):=.inl #[bf,k,.inl e,9,9]
def qO.t{b:Addr}{k:List Key}(e:H a\.dT bf)(eb:H b\.tup (k.map kV))(hl:bf.length<sizeLine) :
 qO H a (.ref b) v (upd H a (.dT (putK bf k v))):=.inr #[bf,k,b,e,9,eb,hl,9]
section
variable{y:V}{r:Value}{o:Option V}
def Inv.big(I:Inv X ε σ H s):sysModules<8:=by have h:mainGlobals<8:=(I.mod.glob.keeps I.bk).lt;calc SQ 5 h
def C9(hu:A.units+1<cLine)(I:Inv X ε σ H s)(g:xb H a y (some v))(ry:RelV y u)(h:∀w' s',Inv X ε σ H s'->RelV v w'->Q w' s') :
  wpAny 22 A (getItem (.ref a) u) Q E s:=by
 obtain⟨bf,k,e,ey,l⟩|⟨bf,k,b,e,ey,eb,l⟩:=g
 subst ey;let(z,hd,vs,rel,dd):=rP I.bC e;let(w',hw,rw'):=j9.some_of (v:=v) (o:=valueAt vs k) (by rw[l];calc rel.val k);calc wpAny_getItem_of (w_ ry) dd.mapOf hw (h w' _ (I.tok _) rw');subst ey;cases (show u=Value.ref b from ry);let(z,hd,xs,rel,dd):=xa I.bC e;let(w',hw,rw'):=j9.some_of (v:=v) (o:=(atKey xs k).map (·.2)) (by rw[l];calc rel.val k);let(p,hp,vM):=Sy.mp hw;show wpAny_getItem_heap (aau hu) (oW I.bC eb) dd hp ?_;rw[vM];calc h w' _ (I.tok _) rw'
def uf{ob:HO}(I:Inv X ε σ H s)(mu:TZ (H a))(hs:Heap.SameBut a 50 h')(he:∃q,h'.get? a\q)(new:bO 39 X.w (upd H a ob) h' a ob) :
  Inv X ε σ (upd H a ob) {s with heap:=h',toks:=t'} :=
 I.write (x:=a) (e:=a) mu 7 (λb q hb z=>(hs.2 b hb).trans z) he new
def Gr{bf:List (Key×V)}{vs:List (Key×Value)}(z:bf.length<=sizeLine)(hd:(a==sysModules)=false)(rel:KV bf vs)(dd:h'.DictOf (bM P w) a vs) :
 bO P w H' h' a (.dK bf):=#[z,hd,vs,rel,dd]
theorem C_{Q:Unit->Shared->Prop}(hu:A.units+1<cLine)(I:Inv X ε σ H s)(g:qO H a y v H')(ry:RelV y u)(rv:RelV v r)(h:∀s',Inv X ε σ H' s'->Q Unit.unit s') :
  wpAny 22 A (setItem (.ref a) u r) Q E s:=by
 obtain⟨bf,k,e,ey,l,eH⟩|⟨bf,k,b,e,ey,eb,l,eH⟩:=g
 subst ey eH;let(z,hd,vs,rel,dd):=Be I.bC e;have hz:vs.length<=sizeLine:=by rw[<- rel.length];exact z
 have hl:(putK bf k v).length<=sizeLine:=by have:=iU bf k v;lia
 show wpAny_setItem_pairs (hsz:=hz) (w_ ry) dd λh' QK hs=>h _ ?_;have he:∃q,h'.get? a\q:=let #[q,_,_,hq,_]:=QK;#[q,hq];calc uf I (by rw[e];calc True.intro) hs he (Gr hl hd (rel.put k rv) QK);subst ey eH;cases (show u=Value.ref b from ry);let(z,hd,xs,rel,dd):=V3 I.bC e;have hz:34<=sizeLine:=by rw[<- JG rel];exact z
 have hl:(putK bf k v).length<=sizeLine:=by have:=iU bf k v;lia
 show wpAny_setItem_heap (hsz:=hz) (aau hu) (oW I.bC eb) dd λh' QK hs=>h _ ?_;let(q,es,ep,hq,h2,h3,h4,_,h5):=QK;show uf I (by rw[e];calc True.intro) hs #[q,hq] #[hl,hd,_,(rel.put k eb rv).keeps λc ys ec=>?_,q,es,ep,hq,h2,h3,h4,h5];rw[az (Au ec e (λz=>nomatch z))];calc ec
end
section
variable{bf:List (Key×V)}{k:Key}
theorem V4(I:Inv X ε σ H s)(e:Rd H a (.dK bf))(h:∀t s',Inv X ε σ H s'->Q (.int bf.length t) s'):wpAny 22 A (call (.builtin "len") [.ref a]) Q E s:=by let(z,hd,vs,rel,dd):=rP I.bC e;show call_len_dict hd dd (by rw[<- rel.length];rw[π] at z;lia) ?_;rw[<- rel.length];calc h _ _ (I.tok _)
end
def Dd(i:Expr):Prop:=∀ov iv,subscripted i false ov iv=operate [ov,iv] (getItem ov iv)
def Lx{env:Env}{value slice:Expr}{pos:Pos}{T id:String}(hl:typeLookup (.type T) "__getitem__"=pure (some (.builtin id)))(hs:Dd slice)(h:wpAny 14 A (eval value env) (λo s₁=>wpAny 14 A (eval slice env) (λi s₂=>s₂.TypeIs o T/\wpAny 14 A (getItem o i) Q E s₂) E s₁) E s) :
  wpAny 14 A (eval (.Subscript value slice pos) env) Q E s:=by
 show Subscript_ (Ψ h (λo s₁ h₁=>Ψ h₁ (λi s₂ h₂=>?_) λ_ _ x=>x) λ_ _ x=>x);let(hT,h₂):=h₂;unfold subscriptTail;show ζ ?_;rw[getitemInPython_of_ne hT.not_modules];show ζ (wpAny_specialOf hT hl ?_);have fin:wpAny 14 A (subscripted slice false o i) (λr s₃=>wpAny 14 A (letTemporaryGo value o r >>= λ_=>pure r) Q E s₃) E s₂:=by rw[hs o i];exact wpAny_operating (Ψ h₂ (λr s₃ h₃=>ζ (wpAny_letTemporaryGo (η h₃))) λ_ _ x=>x)
 first
  |calc η (ζ fin)
  |calc ζ (η (ζ fin))
  |calc ζ fin
def xc{y:V}{o:Option V}(I:Inv X ε σ H s)(g:xb H a y o):s.TypeIs (.ref a) "dict":=by
 obtain⟨bf,k,e,_,_⟩|⟨bf,k,b,e,_,_,_⟩:=g
 let(_,_,vs,_,dd):=rP I.bC e;calc dd.typeIs;let(_,_,xs,_,dd):=xa I.bC e;calc dd.typeIs
def V5(td ty:TE):TE:=λσ H Q=>td σ H λx H1=>ty σ H1 λy H2=>E2 λa v=>x=.ref a/\xb H2 a y (some v)/\Q v H2
def V6(td ty tv:TE):TS:=λD σ H=>tv σ H λv H1=>td σ H1 λx H2=>ty σ H2 λy H3=>∃a H4,x=.ref a/\qO H3 a y v H4/\D.nx σ H4
section
variable{o i value:Expr}{pos:Pos}{td ty tv:TE}
def nZ(hu:X.A.units+1<cLine)(ho:PE X o td)(hi:PE X i ty)(hs:Dd i):PE X (.Subscript o i pos) (V5 td ty):=by intro ε s σ H Q I h;show Lx PySem.F.slot_dict_getitem.lookup hs (cz (ho ε s σ H _ I h) λu s1 #[x,H1,I1,rx,q1]=>cz (hi ε s1 σ H1 _ I1 q1) λiv s2 #[y,H2,I2,ry,a,v,ex,g,q2]=>?_);subst ex;obtain rfl:u=Value.ref a:=rx;calc#[xc I2 g,C9 hu I2 g ry λw' s3 I3 rw'=>#[v,H2,I3,rw',q2]]
def n5(hu:X.A.units+1<cLine)(ho:PE X o td)(hi:PE X i ty)(hv:PE X value tv)(hs:swapsWith value (some (.Subscript o i pos')) pos.line 19=pure false) :
  PS X (.Assign [.Subscript o i pos'] value pos) (V6 td ty tv):=by
 intro ε s σ H D I h;show wpAny_Assign_Subscript (cz (hv ε s σ H _ I h) λr s1 #[v,H1,I1,rv,q1]=>cz (ho ε s1 σ H1 _ I1 q1) λu s2 #[x,H2,I2,rx,q2]=>cz (hi ε s2 σ H2 _ I2 q2) λiv s3 #[y,H3,I3,ry,a,H4,ex,g,q3]=>?_) hs;subst ex;obtain rfl:u=Value.ref a:=rx;calc C_ hu I3 g ry rv λs4 I4=>#[σ,H4,I4,q3]
end
def Gs(h:Heap)(hb:sysModules<h.objs.size):bO P w H (h.push {cls:=.type "dict",data:=.dict ([].toArray)}) h.objs.size (.dK []) :=
 #[e_ _,aaa.mpr (Ne.symm (gf hb)),[],.nil,Heap.DictOf.new h]
def Gu(h:Heap)(hb:sysModules<h.objs.size):bO P w H (h.push {cls:=.type "dict",data:=.dict ([].toArray)}) h.objs.size (.dT []) :=
 #[e_ _,aaa.mpr (Ne.symm (gf hb)),[],.nil,_,([].toArray),0,gU _ 9,#[9,9,9],9,9,Jm]
def QL:TE:=λ_ H Q=>∀p,H p=none->Q (.ref p) (upd H p (.dK []))
def QM:TE:=λ_ H Q=>∀p,H p=none->Q (.ref p) (upd H p (.dT []))
section
variable{pos:Pos}
def Gv:PE X (.Dict [] [] pos) QL:=λε s σ H Q I h=>
 wpAny_Dict_empty #[.ref 8,_,I.laid (a:=8) (o:=.dK []) (t':=s.toks) (λ_ _ q=>c9 _ q) (cv _) (Gs 50 I.big),9,h _ (I.bC.fresh (cv _))]
def oX:PE X (.Dict [] [] pos) QM:=λε s σ H Q I h=>
 wpAny_Dict_empty #[.ref 8,_,I.laid (a:=8) (o:=.dT []) (t':=s.toks) (λ_ _ q=>c9 _ q) (cv _) (Gu 50 I.big),9,h _ (I.bC.fresh (cv _))]
end
structure M2(X:Cx)(o:Expr)(m:Str)(apos:Pos)(e f:Expr)(bF:Pos):Prop where
 base:attributeBase o m 19 (eval o 19)=eval o 19
 few:((backTo bF (starEach [e,f] 19)).all (λx=>!x.1) && (backToKw bF (keywordEach [] 19)).all (λx=>x.1.isSome)
  && decide (([e,f]:qap).length+([]:List Keyword).length+(if ([]:List Keyword).isEmpty then 0 else 1)<30))=true
 line:(apos.endLine==bF.line)=true
 trees:backTo bF (starEach [e,f] 19)=[(false,eval e 19),(false,eval f 19)]
def IsD(H:Hp)(a:Addr):Prop:=(∃bf,Rd H a (.dK bf))\/∃bf,Rd H a (.dT bf)
def Gw(I:Inv X ε σ H s)(d:IsD H a) :
  s.TypeIs (.ref a) "dict"/\(∀b,Value.ref a=.ref b->∃ob,s.heap.get? b\ob/\ob.dict=none)/\(a==sysModules)=false:=by
 obtain⟨bf,e⟩|⟨bf,e⟩:=d
 let(_,hd,vs,_,dd):=rP I.bC e;show#[dd.typeIs,λb q=>?_,hd];cases q;let(ob,_,_,h1,h2,_):=dd;calc#[ob,h1,h2.2.1];let(_,hd,xs,_,dd):=xa I.bC e;show#[dd.typeIs,λb q=>?_,hd];cases q;let(ob,_,_,h1,h2,_):=dd;calc#[ob,h1,h2.2.1]
section
variable{y d:V}{r:Value}{o:Option V}
def QN(hu:A.units+1<cLine)(I:Inv X ε σ H s)(g:xb H a y o)(ry:RelV y u)(rd:RelV d r)(h:∀w' s',Inv X ε σ H s'->RelV (o.getD d) w'->Q w' s') :
  wpAny 22 A (call (.builtin "dict.get") [.ref a,u,r]) Q E s:=by
 obtain⟨bf,k,e,ey,l⟩|⟨bf,k,b,e,ey,eb,l⟩:=g
 subst ey;let(z,hd,vs,rel,dd):=rP I.bC e;show call_meetsIn PySem.F.slot_dict_get dd.typeIs PySem.F.entry_dict_get (PySem.F.args_dict_get_3 _ _ _) (meets_dict_get_default (bM 39 X.w) a (w_ ry) hd r) #[_,dd.mapOf,h _ _ (I.tok _) ?_];rw[l];calc (rel.val k).getD rd;subst ey;cases (show u=Value.ref b from ry);let(z,hd,xs,rel,dd):=xa I.bC e;show call_meetsIn PySem.F.slot_dict_get dd.typeIs PySem.F.entry_dict_get (PySem.F.args_dict_get_3 _ _ _) (meetsH_dict_get_default (tupleKind (bM 39 X.w)) a b hd r) #[aau hu,k,xs,oW I.bC eb,dd,h _ _ (I.tok _) ?_];rw[l];calc (rel.val k).getD rd
end
def QO(td ty tx:TE):TE:=λσ H Q=>td σ H λx H1=>∃a,x=.ref a/\IsD H1 a/\ty σ H1 λy H2=>tx σ H2 λz H3=>∃o,xb H3 a y o/\Q (o.getD z) H3
section
variable{o f:Expr}{td ty tx:TE}
def xf(hu:X.A.units+1<cLine)(ho:PE X o td)(he:PE X e ty)(hf:PE X f tx)(m:M2 X o "get" apos e f bF):PE X (.Call (.Attribute o "get" apos) [e,f] [] bF) (QO td ty tx):=by
 intro ε s σ H Q I h;show wpAny_Call_method m.base m.few m.line X4 PySem.F.slot_dict_get PySem.F.type_dict_get (cz (ho ε s σ H _ I h) λu s1 #[x,H1,I1,rx,a,ex,d,q1]=>?_);subst ex;obtain rfl:u=Value.ref a:=rx;let(t1,t2,_):=Gw I1 d;show#[t1,t2,?_];rw[m.trees];show X5 9 (Calls.evalArgs_plain (Calls.spliced_cons (cz (he ε s1 σ H1 _ I1 q1) λiv s2 #[y,H2,I2,ry,q2] =>
  Calls.spliced_cons (cz (hf ε s2 σ H2 _ I2 q2) λfv s3 #[z,H3,I3,rz,ov,g,q3]=>Calls.spliced_nil ?_))))
 calc QN hu I3 g ry rz λw' s4 I4 rw'=>#[_,H3,I4,rw',q3]
end
end L2
namespace Yo
open PySem PySem.W PySem.Calls PyProof.Rows
end Yo
namespace L2
open PySem PySem.Spec PyProof.Rows
section
def De:cV X (.builtin "len") (λxs H Q=>∃a bf,xs=[V.ref a]/\H a\.dK bf/\Q (.int bf.length) H):=by intro ε s σ H xs us Q I r h;let(a,bf,rfl,ha,q):=h;let(u,rfl,ru):=vals1 r;cases ru;calc V4 I (.inl ha) λt s' I'=>#[.int bf.length,H,I',#[t,9],q]
end
end L2
namespace VT
open PySem PySem.Spec PyProof.Rows L2
def Ly:T->Option Key
 |.int i=>some (.inl i)
 |.str x=>some (.inr x)
 |_=>none
def ug{A:zm}{t:T}{k:Key}(h:gB K H A t v)(e:Ly t\k):v=kV k:=by
 cases t with
 |int i=>cases e;calc h.int
 |str x=>cases e;calc h.str
 |_=>cases e
def jx{α:Type}:List Key->List α->Key->Option α
 |k::ks,t::ts,x=>if k=x then some t else jx ks ts x
 |_,_,_=>none
theorem iV:∀(ks:List Key)(vs:qak)(x:Key),iz (ks.zip vs) x=jx ks vs x
 |[],vs,x=>rfl
 |k::ks,[],x=>rfl
 |k::ks,v::vs,x=>by simp only[jx,Nn];by_cases e:k=x;rw[ι e,iS (p:=(k,v)) e];rw[θ e,iT (p:=(k,v)) e];calc iV ks vs x
def xh(ts:List α)(x:Key):jx [] ts x=none:=by cases ts<;>rfl
theorem kP{K:qaf}{H:Hp}{A:zm}:∀{ks:List Key}{ts:Φ}{vs:qak}{x:Key},aB K H A ts vs->(∀t,jx ks ts x\t->∃v,jx ks vs x\v/\At K H A t v)/\(jx ks ts x=none->jx ks vs x=none)
 |[],ts,vs,x,h=>by rw[xh,xh];show#[λt e=>?_,λ_=>rfl];cases e
 |k::ks,[],vs,x,h=>by simp only[aB] at h;subst h;calc#[λt e=>(by cases e),λ_=>rfl]
 |k::ks,t::ts,vs,x,h=>by simp only[aB] at h;let(v,r,rfl,h1,h2):=h;simp only[jx];by_cases e:k=x;rw[ι e,ι e];calc#[λt e=>by cases e;calc#[v,9,h1],λq=>by cases q];rw[θ e,θ e];calc kP h2
section
variable{a:Expr}{fc:FE}{pos:Pos}
def V7:FP:=λ_ Q=>Q (.fr (.dk [] []))
def Lz:VP X Z (.Dict [] [] pos) V7:=.mk λtm=>PE.weak Gv λσ H Q #[ρ,O,q,I,hf,k] p hp=>
 k _ hf _ _ (aE hp) (I.newD (ks:=[]) (ts:=[]) (vs:=[]) hp 9 aB.nil)
def V8(fa fb:FE):FP:=λρ Q=>fa ρ λx=>fb ρ λy=>match x,Ly y with
 |.dk ks ts,some k=>∃t,jx ks ts k\t/\Q (.vw t)
 |_,_=>False
def QP(hu:X.A.units+1<cLine)(ha:VR X Z a fa)(hb:VR X Z b fb)(hs:Dd b:=by intro _ _;rfl):VP X Z (.Subscript a b pos) (V8 fa fb):=.mk λtm=>PE.weak (nZ hu (ha tm) (hb tm) hs) λσ H Q #[ρ,O,q,I,hf,k] =>
 #[ρ,O,_,I,hf,λx hx v H1 s1 a1=>#[ρ,O,_,I.same s1,hx,λy hy w H2 s2 a2=>by
  split at hy
  rename_i ks ts kk e
  let(t,e1,hq):=hy;let(l,vs,rfl,hl,hd,hv):=(a1.same s2).dk;let(u,e2,e3):=(kP hv).1 t e1;rw[ug a2 e];calc#[l,u,9,by rw[<- e2,<- iV];calc xb.k hd,k _ hq _ H2 (s1.trans s2) #[(I.same s1).same s2,e3]];calc hy.elim]]
end
section
variable{a:Expr}{pos:Pos}
def N8(ts:Φ)(q:qam):Prop:=match ts with
 |[.dk ks vs]=>q (.vw (.int (vs.length:Int)))
 |_=>False
def zq:iN K (λxs H Q=>∃a bf,xs=[V.ref a]/\H a\.dK bf/\Q (.int bf.length) H) N8:=by intro Z tm O ρ σ H ts vs q Q I h hp k;unfold N8 at hp;split at hp;let(v,rfl,a):=cx h;let(l,ws,rfl,hl,hd,hv):=a.dk;show#[l,_,9,hd,?_];rw[B9,hl,Jn,hv.length];calc k _ hp _ H 43 #[I,bJ];calc hp.elim
end
end VT
namespace RV
open PySem PySem.Spec PyProof.Rows
section
variable{R:Result->Shared->Prop}
variable{I:Addr}{wr:zm}{G:Array GenState->Array GenState->Prop}{P:Nat->Value->Prop}{St:Nat->Shared->Prop}
end
end RV
namespace VT
open PySem PySem.Spec PyProof.Rows L2
def ir(h:n+101<cLine):n+1<cLine:=by lia
section
def xi{out:Array Value}{Q:VK}(I:Inv X ε σ H s)(hx:Vals xs out.toList)(hl:34<=sizeLine)(q:∀a,H a=none->Q (.ref a) (upd H a (.lst xs))) :
  EP X ε σ Q (.ref 36) {s with heap:=sortedAll 50 us out}:=by
 let(e,he):=sortedAll_at 50 us out;show#[.ref 36,_,I.laid (a:=8+1) (o:=.lst xs) (t':=s.toks) (λb o h=>sortedAll_old h) (Jo _) #[hl,out.toList,e,hx,?_],9,q _ (I.bC.fresh (Jo _))];rw[he]
end
section
def QQ:eX X (compareOp .Is) (λx y H Q=>∃a b:Bool,x=.bl a/\y=.bl b/\Q (.bl (decide (a=b))) H):=by intro ε s σ H x y v u Q I rx ry h;let(a,b,rfl,rfl,q):=h;cases rx;cases ry;show wpAny_is_plain (by cases a<;>cases b<;>rfl) (yA I q ?_);cases a<;>cases b<;>rfl
end
def QR(x y:T)(q:qam):Prop:=match x,y with
 |.bl a,.bl b=>q (.vw (.bl (decide (a=b))))
 |_,_=>False
def LA:nQ K (λx y H Q=>∃a b:Bool,x=.bl a/\y=.bl b/\Q (.bl (decide (a=b))) H) QR:=by intro Z tm O ρ σ H x y v w q Q I h1 h2 h k;unfold QR at h;split at h;calc#[_,_,h1.bl,h2.bl,k _ h _ H 43 #[I,dO]];calc h.elim
section
variable{a:Expr}{pos:Pos}
def QS(ha:VR X Z a fa)(hb:VR X Z b fb):VP X Z (.Compare a [.Is] [b] pos) (f2 fa fb QR):=s_ QQ LA ha hb (iH _)
end
section
theorem LB:NC X "dict.setdefault" (λx xs H Q=>∃(a:Addr)(bf:List (Key×V))(k:Key)(v:V),x=.ref a/\xs=[kV k,v]/\H a\.dK bf/\bf.length<sizeLine /\
  (∀u,iz bf k\u->Q u H)/\(iz bf k=none->Q v (upd H a (.dK (L2.putK bf k v))))):=by
 intro ε s σ H x xs v us Q I rx rs h;let(a,bf,k,y,rfl,rfl,ha,hsz,q1,q2):=h;cases rx;obtain⟨u1,u2,rfl,ru1,ru2⟩:∃u1 u2,us=[u1,u2]/\RelV (kV k) u1/\RelV y u2:=by
  cases rs with
  |cons r1 t=>cases t with
    |cons r2 t2=>cases t2;exact#[_,_,9,r1,r2]
 let(z,hd,vs,rel,dd):=Be I.bC ha;show call_meetsIn PySem.F.slot_dict_setdefault dd.typeIs PySem.F.entry_dict_setdefault (PySem.F.args_dict_setdefault_3 _ _ _) (kt_meets_setdefault (bM 39 X.w) a (w_ ru1) hd u2) #[vs,dd,by rw[<- rel.length];lia,λv0 hv=>?_,λhn h' QK hs=>?_];have vW:=rel.val k;rw[hv] at vW;cases e:iz bf k with
 |none=>rw[e] at vW;cases vW
 |some w0=>rw[e] at vW;have hr:=vW;exact#[w0,H,I.tok _,hr,q1 w0 e]
 have vW:=rel.val k;rw[hn] at vW;cases e:iz bf k with
 |some w0=>rw[e] at vW;cases vW
 |none=>
   have he:∃q,h'.get? a\q:=let #[q,_,_,hq,_]:=QK;#[q,hq];have hl:(L2.putK bf k y).length<=sizeLine:=by have:=iU bf k y;lia
   calc#[y,_,uf I (by rw[ha];calc True.intro) hs he (Gr hl hd (rel.put k ru2) QK),ru2,q2 e]
end
section
variable{e1 e2:Expr}{f1 f2:FE}
def N9(n:Nat)(f1 f2:FE):FX:=λρ Q=>match ρ[n]? with
 |some (some (.dk ks ts,true))=>f1 ρ λx=>f2 ρ λy=>match Ly x with
  |some k=>27<16777216/\match jx ks ts k with
   |some t=>Q ρ (.vw t)
   |none=>Q (ρ.set n (some (.dk (ks++[k]) (ts++[y]),true))) (.vw y)
  |none=>False
 |_=>False
theorem LC(n:Nat)(h1:VE X Z e1 f1)(h2:VE X Z e2 f2)(hN:X.N[n]?\x:=by rfl)(hv:m8 41 x:=by calc jvv 9)(hd:f9 x:=by decide)(gv:q_ x:=by decide)(dB:attributeBase 52 "setdefault" 19 (eval 52 19)=eval 52 19:=by rfl)(yN:((backTo bF (starEach [e1,e2] 19)).all (λx=>!x.1) && (backToKw bF (keywordEach [] 19)).all (λx=>x.1.isSome)
    && decide (([e1,e2]:qap).length+([]:List Keyword).length+(if ([]:List Keyword).isEmpty then 0 else 1)<30))=true:=by rfl)(dC:(apos.endLine==bF.line)=true:=by rfl)(hs:starEach [e1,e2] 19=(false,eval e1 19)::starEach [e2] 19:=by rfl)(Cq:starEach [e2] 19=(false,eval e2 19)::starEach [] 19:=by rfl)(jU:(backTo bF (starEach [e2] 19)).any (·.1)=false:=by rfl) :
  VX X Z (.Call (.Attribute 52 "setdefault" apos) [e1,e2] [] bF) (N9 n f1 f2):=.mk λtm=>
 PE.weak (EV X4 PySem.F.slot_dict_setdefault PySem.F.type_dict_setdefault LB (cA hN hv hd gv) (bw (h1 tm) (bw (h2 tm) cQ Cq) hs) dB yN dC hs jU) λσ H Q #[ρ,O,q,I,hf,kk]=>by
  unfold N9 at hf;split at hf
  rename_i ks ts e0
  let(l,g1,g2,xs,hl,g3,g4):=I.root e0;have ha:l∈av Z O:=il _ (aF.mpr (eM g1));show#[.ref l,g2,.inr (.inr (.inl #[9,.inl #[_,g3]])),ρ,O,_,I,hf,λt ht v H1 s1 a1=>#[ρ,O,_,I.same s1,ht,λy hy w H2 s2 a2=>?_]];split at hy
  rename_i V9 ek
  let(hlen,hy):=hy;have ev:=ug (.inl a1) ek;subst ev;have hz:(ks.zip xs).length<sizeLine:=by
   rw[π,B9,hl,Jn,g4.length]
   lia
  have J:=(I.same s1).same s2;have b4:=(g4.same s1).same s2;show#[l,ks.zip xs,V9,w,9,9,s2 _ _ (s1 _ _ g3),hz,λu hu=>?_,λhn=>?_];rw[iV] at hu;cases eg:jx ks ts V9 with
  |none=>rw[(kP b4).2 eg] at hu;cases hu
  |some t0=>rw[eg] at hy;let(v0,e1,e2):=(kP b4).1 t0 eg;rw[e1] at hu;cases hu;exact kk _ _ hy O _ _ #[J,e2]
  rw[iV] at hn;cases eg:jx ks ts V9 with
  |some t0=>let(v0,e1,e2):=(kP b4).1 t0 eg;rw[e1] at hn;cases hn
  |none=>
    rw[eg] at hy;have e1:L2.putK (ks.zip xs) V9 w=(ks++[V9]).zip (xs++[w]):=by rw[Gq _ (by rw[iV];calc hn),List.zip_append hl];rfl
    rw[e1];exact kk _ _ hy O _ _ #[J.wrote e0 g1 #[xs++[w],by simp[hl],aG,(b4.append (aB.cons a2 aB.nil)).wrote ha (s2 _ _ (s1 _ _ g3)) 9],a2.wrote ha (s2 _ _ (s1 _ _ g3)) 9]
  calc hy.elim;calc hf.elim
end
def oY{α:Type}(f:Str):ω->List α->Option α
 |n::ns,t::ts=>match f==n with
  |true=>some t
  |false=>oY f ns ts
 |_,_=>none
def Dh(f:Str):ω->ω
 |[]=>[f]
 |n::ns=>if n=f then n::ns else n::Dh f ns
def nD{α:Type}(f:Str)(u:α):ω->List α->List α
 |n::ns,t::ts=>if n=f then u::ts else t::nD f u ns ts
 |_,_=>[u]
theorem oZ(f:Str):∀(ns:ω)(vs:qak),(ns.zip vs).lookup f=oY f ns vs
 |[],vs=>by cases vs<;>rfl
 |n::ns,[]=>rfl
 |n::ns,v::vs=>by
  rw[Nn,JC];unfold oY;cases f==n with
  |true=>rfl
  |false=>calc oZ f ns vs
theorem xj(f:Str)(y:V):∀(ns:ω)(vs:qak),ns.length=vs.length->iI f y (ns.zip vs)=(Dh f ns).zip (nD f y ns vs)/\(Dh f ns).length=(nD f y ns vs).length
 |[],[],_=>#[9,9]
 |[],v::vs,h=>by simp at h
 |n::ns,[],h=>by simp at h
 |n::ns,v::vs,h=>by have ih:=xj f y ns vs (by simpa using h);change (if n=f then (n,y)::ns.zip vs else (n,v)::iI f y (ns.zip vs))=_/\_;unfold Dh nD;by_cases e:n=f;rw[ι e,ι e,ι e];calc#[9,by simpa using h];rw[θ e,θ e,θ e,ih.1];calc#[9,by simp[ih.2]]
section
variable{A:zm}{f:Str}
theorem xk:∀{ns:ω}{ts:Φ}{vs:qak}{t:T},aB K H A ts vs->oY f ns ts\t->∃v,oY f ns vs\v/\At K H A t v
 |[],ts,vs,t,_,e=>by cases ts<;>cases e
 |n::ns,[],vs,t,_,e=>by cases e
 |n::ns,t0::ts,vs,t,h,e=>by
  let(v,r,rfl,h1,h2):=h;unfold oY at e ⊢;cases q:f==n with
  |true=>rw[q] at e;cases e;calc#[v,9,h1]
  |false=>rw[q] at e;calc xk h2 e
theorem Bf:∀{ns:ω}{ts:Φ}{vs:qak}{t:T}{v:V},aB K H A ts vs->At K H A t v->aB K H A (nD f t ns ts) (nD f v ns vs)
 |[],ts,vs,t,v,_,q=>by
  have e1:nD f t [] ts=[t]:=by cases ts<;>rfl
  have e2:nD f v [] vs=[v]:=by cases vs<;>rfl
  rw[e1,e2];calc aB.cons q aB.nil
 |n::ns,[],vs,t,v,h,q=>by subst h;calc aB.cons q aB.nil
 |n::ns,t0::ts,vs,t,v,h,q=>by let(v0,r,rfl,h1,h2):=h;unfold nD;by_cases e:n=f;rw[ι e,ι e];calc aB.cons q h2;rw[θ e,θ e];calc aB.cons h1 (Bf h2 q)
end
section
variable{f:Str}{pos:Pos}
def V_(C:Addr)(f:Str)(fe:FE):FP:=λρ Q=>fe ρ λt=>match t with
 |.ins C' ns ts=>C'=C/\∃u,oY f ns ts\u/\Q (.vw u)
 |_=>False
def dG(cl:EK X.K C)(na:cF X.K C f)(h:VR X Z e fe)(hb:attributeBase e f 19 (eval e 19)=eval e 19:=by rfl):VP X Z (.Attribute e f pos) (V_ C f fe):=.mk λtm=>
 PE.weak (yE (h tm) hb) λσ H Q #[ρ,O,q,I,hf,k]=>#[ρ,O,_,I,hf,λt ht v H1 s1 a1=>by
  split at ht
  rename_i C' ns ts
  let(rfl,u,e1,hq):=ht;let(a,dx,vs,rfl,hl,hd,hv):=a1.ins;let(w,e2,e3):=xk hv e1;calc#[a,_,dx,_,w,9,hd,cl,na,by rw[oZ];calc e2,k _ hq _ H1 s1 #[I.same s1,e3]];calc ht.elim]
def Gx(n:Nat)(C:Addr)(f:Str)(fe:FE):FS:=λd ρ=>match ρ[n]? with
 |some (some (.ins C' ns ts,true))=>C'=C/\fe ρ λv=>27<1000/\d.nx (ρ.set n (some (.ins C' (Dh f ns) (nD f v ns ts),true)))
 |_=>False
def hV(n:Nat)(cl:EK X.K C)(na:cF X.K C f)(he:VE X Z e fe)(hN:X.N[n]?\x:=by rfl)(hv:m8 41 x:=by calc jvv 9)(hd:f9 x:=by decide)(gv:q_ x:=by decide)(hs:swapsWith e (some (.Attribute 52 f dH)) pos.line 19=pure false:=by rfl) :
  VS X Z (.Assign [.Attribute 52 f dH] e pos) (Gx n C f fe):=.mk λtm=>
 PS.weak (Pz (cA hN hv hd gv) (he tm) hs) λD σ H #[ρ,O,d,I,q,F]=>by
  unfold Gx at q;split at q
  rename_i C' ns ts e0
  let(rfl,q):=q;let(l,h1,h2,dx,xs,hl,h3,h4):=I.root e0;have ha:l∈av Z O:=il _ (aF.mpr (eM h1));show#[ρ,O,_,I,q,λt ht v H1 s1 a1=>#[.ref l,h2,l,_,dx,_,9,s1 _ _ h3,cl,na,?_,?_]];rw[B9,hl,Jn,h4.length];calc ht.1;have pz:=xj f v ns xs hl;rw[pz.1];calc F.nx O _ σ _ ((I.same s1).wrote (t':=.ins _ (Dh f ns) (nD f t ns ts)) e0 h1 #[dx,nD f v ns xs,pz.2,aG,aB.wrote ha (s1 _ _ h3) 9 (Bf (h4.same s1) a1)]) ht.2;calc q.elim
def LD(K:qaf)(C:Addr)(n:Nat)(G:Φ->(T->Prop)->Prop):Sp:=tG K (true::List.replicate n false) λts q=>match ts with
 |.ins C' [] []::us=>C'=C/\G us λu=>q [u] (.vw .bK)
 |_=>False
def V'(n:Nat)(g:FA)(G:Φ->(T->Prop)->Prop):FP:=λρ Q=>g ρ λts=>27=n/\G ts λu=>Q (.fr u)
def uh{G:Φ->(T->Prop)->Prop}{tm:qab}{ts:Φ}{q:qam}{Q:VK}(I:ax X.K Z tm O ρ σ H)(a:aB X.K H (av Z O) ts vs)(hn:27=n)(hG:G ts λu=>q (.fr u))(k:∀r,q r->∀v H',aP H H'->iy X.K Z tm O ρ σ H' r v->Q v H'):∀x dx,H x=none->H dx=none->dx≠x->LD X.K C n G (.ref x::(vs++[])) (upd (upd H dx (.own x)) x (.ins C dx [])) (λv H2=>v=.bK/\Q (.ref x) H2) E0:=by
 intro x dx hx hdx eY;rw[As];let(n1,n2,n3):=I.fresh hx;have s0:aP H (upd (upd H dx (.own x)) x (.ins C dx [])):=λb o e=>by rw[az (bx e hx),az (bx e hdx)];exact e
 have a1:=(a.more λb hb=>by
  rcases gc.mp hb with z|z
  calc .inr (by rw[fP.mp z];calc hx);calc .inl z).same s0
 show#[.ins C [] []::ts,[x],av Z O,λus r=>r=.vw .bK/\∃u,us=[u]/\q (.fr u),by simp,λb hb=>by rw[fP.mp hb];calc n1,λb hb=>?_,#[x,[],_,ts,vs,9,9,9,#[dx,[],9,aG,aB.nil],g9 hn a1],#[9,?_],λus r hr v H' fr z=>?_];cases e:H b with
 |none=>calc absurd e (I.ND b hb)
 |some o=>rw[s0 _ _ e];simp
 have w:(λu=>q (.fr u))=λu=>((.vw .bK:Rt)=.vw .bK/\∃u',[u]=[u']/\q (.fr u')):=by funext u;exact propext #[λh=>#[rfl,u,rfl,h],λ#[_,u',e,h]=>by cases e;calc h]
 rw[<- w];calc hG;let(rfl,u,rfl,hq):=hr;let(z1,z2):=z;show#[z1,?_];cases z2 with
 |cons r _=>
  have s:=λb o e=>fr b o (s0 b o e) (by rw[fP];calc bx e hx);let(o,eo,_):=r.mut;show k _ hq _ H' s #[x,9,I.NR hx s eo,r.br λc hc=>?_,n3,n2];rcases cO c hc with z|z
  calc iC _ z;rw[z];calc il _ fM
def Bg{kk:Nat}{G:Φ->(T->Prop)->Prop}{fI:Addr}(M:Mk X.K C fI)(F:dA 39 X.w X.K X.mg X.base i8 kk fI fd ps (LD X.K C n G))(hr:bA (kk+1) X.A)(hg:Gl X x)(hm:X.mg x\.ref C)(hb:Binds X.K fd ps [])(ha:VA X Z (e::es) g)(qx:f9 x:=by decide)(he:starEach (e::es) 19=(false,eval e 19)::starEach es 19:=by rfl)(jn:(backTo pos (starEach es 19)).any (·.1)=false:=by rfl) :
  VP X Z (.Call 52 (e::es) [] pos) (V' n g G):=.mk λtm=>PE.weak (sS M F hr hg hm hb .nil jH (ha tm) qx he jn) λσ H Q #[ρ,O,q,I,hf,k] =>
 #[ρ,O,_,I,hf,λts gw vs H1 s1 a1=>uh (I.same s1) a1 gw.1 gw.2 λr hr v H' s z=>k r hr v H' (s1.trans s) z]
end
structure Dc(K:qaf)(mg:qae)(cls qual:Str)(st:Stmt)(ps:ω)(C f:Addr)(fd:FuncData):Prop where
 F:Ef K "__init__" qual st f fd
 m:mg cls\.ref C
 b:Binds K fd ps []
 M:Mk K C f
def zu(P:Program)(w:World)(K:qaf)(mg:qae)(base:Heap)(cls:Str)(C:Addr)(ps:ω)(k n:Nat)(G:Φ->(T->Prop)->Prop):Prop :=
 ∃f fd,Mk K C f/\mg cls\.ref C/\Binds K fd ps []/\dA P w K mg base i8 k f fd ps (LD K C n G)
section
def Dc.gR{cls:Str}{st:Stmt}{k:Nat}{G:Φ->(T->Prop)->Prop}(D:Dc K mg cls qual st ps C f fd)(F:dA P w K mg base i8 k f fd ps (LD K C n G)):zu P w K mg base cls C ps k n G :=
 #[f,fd,D.M,D.m,D.b,F]
def fnI{st:Stmt}{N:ω}{k:Nat}{G:Φ->(T->Prop)->Prop}(F:Ef K x qual st f fd)(S:aI N ps (aq st))(hn:n+1=ps.length)(gz:∀(bP:Value) (A:Around) (outer:List Env) (s:Shared) (H:Hp) (E:XK) (as Ox:zm),bA k (A.deeper (envOfC qual (aq st) 8 f bP))->∀(us:Φ) (q:Φ->qam),us.length=n->G us (λu=>q [u] (.vw .bK)) ->
    ∃g,fW (ke i8 P w K mg base N qual (aq st) f bP A outer s H E).Ed #[H,pz (true::List.replicate n false) as 0,Ox] (cw st) g /\
     g {nx:=λρ=>q (kA (true::List.replicate n false) ρ) (.vw .bK),rt:=λρ r=>q (kA (true::List.replicate n false) ρ) r} (some (.ins C [] [],true)::wu (List.replicate n false) us++List.replicate (N.length-(us.length+1)) none)) :
  dA P w K mg base i8 (k+1) f fd ps (LD K C n G) :=
 YC F S (by rw[<- hn];simp) λbP A outer s H E as Ox hr ts q hl hG=>by
  cases ts with
  |nil=>calc hG.elim
  |cons t us=>cases t with
    |ins C' ns vs=>cases ns with
      |nil=>cases vs with
        |nil=>let(e,hG'):=hG;subst e;calc gz bP A outer s H E as Ox hr us q (by simpa using hl) hG'
        |cons _ _=>calc hG.elim
      |cons _ _=>calc hG.elim
    |_=>calc hG.elim
end
def Bh(a d:Addr):HO:=.ext λh=>h.get? a=some {cls:=.type "dict_values",data:=.fields ([.ref d].toArray)}
theorem xm(val:Nat->Int):∀k,∃j≤k,argBest (λi j=>decide (val i<val j)) k=j/\∀i≤k,val j<=val i
 |0=>#[0,cv _,9,λi hi=>by rw[Nat.le_zero.mp hi];calc Int.le_refl _]
 |k+1=>by
  let(j,hj,e,h):=xm val k;unfold argBest;rw[e];by_cases q:val (k+1)<val j;rw[ι (ο q)];show#[k+1,cv _,9,λi hi=>?_];rcases Nat.lt_or_eq_of_le hi with l|l
  calc Int.le_trans (Int.le_of_lt q) (h i (Nat.le_of_lt_succ l));rw[l];calc Int.le_refl _;rw[θ (by rw[aaf];calc q)];show#[j,Nat.le_succ_of_le hj,9,λi hi=>?_];rcases Nat.lt_or_eq_of_le hi with l|l
  calc h i (Nat.le_of_lt_succ l);rw[l];calc Int.not_lt.mp q
section
def Di:NC X "dict.values" (λx xs H Q=>∃(d:Addr)(bf:List (Key×V)),x=.ref d/\xs=[]/\H d\.dK bf/\∀a,H a=none->Q (.ref a) (upd H a (Bh a d))):=by intro ε s σ H x xs v us Q I rx rs h;let(d,bf,rfl,rfl,hd,q):=h;cases rx;cases rs;let(z,hs,vs,rel,dd):=Be I.bC hd;show call_meetsIn PySem.F.slot_dict_values dd.typeIs PySem.F.entry_dict_values (PySem.F.args_dict_values_1 _) (meets_dict_values (bM 39 X.w) d hs) #[#[vs,dd],#[.ref 8,_,I.laid (λb o e=>c9 _ e) (cv _) ?_,9,q _ I.fresh]];calc#[gU _ 9,#[_,gU _ 9],λh1 h2 z k=>k _ z]
def ui(hc:X.calm=true):cV X (.builtin "min") (λxs H Q=>∃(a d:Addr)(bf:List (Key×V))(is:qan),xs=[.ref a]/\H a\Bh a d/\H d\.dK bf/\bf.map (·.2)=is.map V.int/\is≠[]/\∀m,m∈is->(∀i∈is,m<=i)->Q (.int m) H):=by
 intro ε s σ H xs us Q I r h;let(a,d,bf,is,rfl,ha,hd,hv,eY,q):=h;let(u,rfl,ru):=vals1 r;cases ru;let(z,hs,vs,rel,dd):=Be I.bC hd;let(hA,_,_):=(show bO 39 X.w H 50 a (Bh a d) from I.bC a _ ha);let(ep,da):=dd.dictAt;have hh:X.A.in1.handled=none:=by simp[I.ok.hd hc]
 have hlen:vs.length=is.length:=by have:=Ω List.length hv;rw[bL,bL] at this;rw[<- rel.length];exact this
 have Wa:∀(i:Nat) v,(∃k,vs[i]?\(k,v))->∃t,v=.int (is.getD i 0) t:=by
  intro i v #[k,e];have hi:=(dy.mp e).1;have hi2:i<bf.length:=by rw[rel.length];exact hi
  have e1:bf[i]?\bf[i]:=by simp[hi2]
  have key:∀{l₁:List (Key×V)}{l₂:List (Key×Value)}{i:Nat}{p:Key×V}{q:Key×Value},KV l₁ l₂->l₁[i]?\p->l₂[i]?\q->RelV p.2 q.2:=by
   intro l₁ l₂ i p q h;induction h generalizing i with
   |nil=>intro e;simp at e
   |cons r t ih=>
    intro e e';cases i with
    |zero=>simp at e e';subst e;subst e';calc r.2
    |succ i=>exact ih (by simpa using e) (by simpa using e')
  have rr:=key rel e1 e;have e2:(bf.map (·.2))[i]?\bf[i].2:=by rw[d4,e1];rfl
  rw[hv,d4] at e2;cases q2:is[i]? with
  |none=>rw[q2] at e2;cases e2
  |some m=>rw[q2] at e2;have e3:=(Option.some.inj e2).symm;rw[e3] at rr;let(t,et):=rr;exact#[t,by rw[Sw,q2];calc et]
 have QT:0<vs.length:=by rw[hlen];exact TL.mpr eY
 show call_min_walk (wpAny_pyIter_values #[_,hA,9,9] da #[_,_,_,_,_,_,_,9,Walks.dictValues hh _ d (gf da.lt_size) vs ep,#[#[_,gU _ 9,9,9],da.push _],λb hb=>?_,QT,CmpOf.ints_lt (λi=>is.getD i 0) Wa,λv h' tk hP hk=>?_]);rw[B_];rcases cY.mp hb with rfl|hb
 calc Ar _;rw[fP.mp hb];calc Jk da.lt_size;let(j,hj,e,hm):=xm (λi=>is.getD i 0) (vs.length-1);rw[e] at hP;let(t,rfl):=Wa j v hP;have QU:j<is.length:=by lia
 show#[.int (is.getD j 0),H,I.kept λb u eb=>hk b u (λz=>?_) (c9 _ eb),#[t,9],q _ ?_ λi hi=>?_];rw[fP.mp z] at eb;calc absurd (dz eb) (B' _);rw[Sw,f_ QU];calc B8 QU;let(n,hn):=JA.mp hi;have hnl:=(dy.mp hn).1;have:=hm n ();have e5:is.getD n 0=i:=by rw[Sw,hn];rfl
 rw[e5] at this;calc this
end
section
variable{a:Expr}{p1 zt Dg:Pos}
def Wb(fa:FE):FP:=λρ Q=>fa ρ λx=>match x with
 |.dk ks ts=>∃is,ts=is.map T.int/\is≠[]/\∀m,m∈is->(∀i∈is,m<=i)->Q (.vw (.int m))
 |_=>False
def zw(hc:X.calm=true)(hgl:Gl X "min")(Gy:X.mg "min"=none)(ha:VR X Z a fa)(dB:attributeBase a "values" 19 (eval a 19)=eval a 19:=by rfl)(dC:(apos.endLine==Dg.line)=true:=by rfl)(he:starEach [.Call (.Attribute a "values" apos) [] [] Dg] 19=(false,eval (.Call (.Attribute a "values" apos) [] [] Dg) 19)::starEach [] 19:=by rfl)(jn:(backTo zt (starEach [] 19)).any (·.1)=false:=by rfl) :
  VP X Z (.Call (.Name "min" p1) [.Call (.Attribute a "values" apos) [] [] Dg] [] zt) (Wb fa):=.mk λtm=>
 PE.weak (oq (ui hc) hgl Gy Vq (bw (yM X4 PySem.F.slot_dict_values PySem.F.type_dict_values Di (ha tm) dB dC) cQ he) 5 5 he jn) λσ H Q #[ρ,O,q,I,hf,k] =>
  #[ρ,O,_,I,hf,λx hx v H1 s1 a1=>by
    split at hx
    rename_i ks ts
    let(is,rfl,eY,hq):=hx;let(d,vs,rfl,hl,hd,hv):=a1.dk;show#[.inr (.inr (.inl #[9,.inl #[_,hd]])),d,_,9,9,hd,λb hb=>?_];have sb:aP H1 (upd H1 b (Bh b d)):=aE hb;have ev:vs=is.map V.int:=by
     clear hq eY hl hd a1;induction is generalizing vs with
     |nil=>simpa only[SN,aB] using hv
     |cons i is ih=>let(v,r,rfl,rfl,h2):=hv;rw[ih r h2];rfl
    subst ev;show#[b,d,_,is,9,aG,sb _ _ hd,?_,eY,λm h1 h2=>k _ (hq m h1 h2) _ _ (s1.trans sb) #[(I.same s1).same sb,bJ]];rw[List.map_snd_zip];rw[hl];calc cv _;calc hx.elim]
end
end VT
namespace Lay
open PySem L2 VT Gen K5
def Ta(l:List (Str×Nat)):T:=.dk (l.map λp=>(Sum.inr p.1:Key)) (l.map λp=>T.int (p.2:Int))
def Gz(l:List (Str×Nat))(f:Str):jx (l.map λp=>(Sum.inr p.1:Key)) (l.map λp=>T.int (p.2:Int)) (Sum.inr f)=(qN l f).map λi=>T.int (i:Int):=by
 induction l with
 |nil=>rfl
 |cons p l ih=>let(k,i):=p;simp only[fO,jx,qN];by_cases h:k=f;rw[ι h,ι (by rw[h])];rfl;rw[θ h,θ (λz=>h (Sum.inr.inj z))];calc ih
theorem o4(rs:qal):∀n,(bb rs n).length<=n
 |0=>cv _
 |n+1=>by
  have:=o4 rs n;simp only[bb];split
  rename_i r _
  cases r<;>simp only[Gf]<;>first
   |lia
   | (split<;>simp<;>lia)
  lia
def Wc:Rw->Bool
 |.df _ _=>true
 |_=>false
def iW(rs:qal):Option Nat:=rs.findIdx? Wc
theorem rQ(rs:qal):∀n,∀p∈bb rs n,p.2<n/\∃ps,rs[p.2]?\.df p.1 ps
 |0,p,h=>nomatch h
 |n+1,p,h=>by
  have old:p∈bb rs n->p.2<n+1/\∃ps,rs[p.2]?\.df p.1 ps:=λh=>by have:=rQ rs n p h;exact#[(),this.2]
  simp only[bb] at h;split at h
  rename_i r hr
  cases r with
  |df g ps=>
   simp only[Gf] at h;split at h;calc old h;rcases gc.mp h with z|z
   calc old z;rw[fP] at z;subst z;calc#[Ar _,ps,hr]
  |_=>exact old h
  calc old h
theorem fZ{rs:qal}{i:Nat}(h:∀j,j<i->∀f ps,rs[j]?≠some (.df f ps)):∀n≤i,bb rs n=[]
 |0,_=>rfl
 |n+1,hn=>by
  simp only[bb];split
  rename_i r hr
  rw[fZ h n ()];cases r with
  |df g ps=>calc absurd hr (h n () g ps)
  |_=>rfl
  calc fZ h n ()
theorem iX{rs:qal}{i:Nat}{g:Str}{ps:ω}(hi:rs[i]?\.df g ps)(h:∀j,j<i->∀f ps,rs[j]?≠some (.df f ps)):∀n,i<n->∃l,bb rs n=(g,i)::l
 |0,hn=>absurd hn (TV _)
 |n+1,hn=>by
  by_cases e:i=n;subst e;show#[[],?_];simp only[bb,hi,Gf];rw[fZ h i (cv _)];rfl;let(l,hl):=iX hi h n ();simp only[bb];rw[hl];split
  rename_i r _
  cases r with
  |df f qs=>simp only[Gf];split;calc#[l,9];calc#[l++[(f,n)],9]
  |_=>exact#[l,9]
  calc#[l,9]
def LF(h:Wc r=true):∃f ps,r=.df f ps:=by
 cases r with
 |df f ps=>calc#[f,ps,9]
 |_=>cases h
def rR(h:iW rs\i):(∃f ps,rs[i]?\.df f ps)/\∀j,j<i->∀f ps,rs[j]?≠some (.df f ps):=by unfold iW at h;rw[List.findIdx?_eq_some_iff_getElem] at h;let(hl,h1,h2):=h;let(f,ps,e):=LF h1;show#[#[f,ps,by rw[f_ hl,e]],λj hj f ps e=>?_];let(QU,ej):=dy.mp e;have:=h2 j hj;rw[ej] at this;calc this 9
def Dj(h:iW rs=none):∀(j:Nat) f ps,rs[j]?≠some (Rw.df f ps):=by unfold iW at h;rw[List.findIdx?_eq_none_iff] at h;intro j f ps e;have:=h _ (eM e);cases this
def zx(h:iW rs=none):bb rs 6=[]:=fZ (λj _=>Dj h j) _ (cv _)
def GB{m:Int}(h1:m∈(bb rs 6).map λp=>(p.2:Int))(h2:∀i∈(bb rs 6).map λp=>(p.2:Int),m<=i):T.int m=oT (iW rs):=by
 cases e:iW rs with
 |none=>rw[zx e] at h1;cases h1
 |some i=>
  let((g,ps,hi),hm):=rR e;let(l,hl):=iX hi hm 6 (dy.mp hi).1;let(p,hp,rfl):=gy.mp h1;let(_,qs,hq):=rQ rs _ p hp;have le1:=h2 _ (gy.mpr #[(g,i),by rw[hl];calc fM,9]);have le2:¬ p.2<i:=λz=>hm _ z _ _ hq;have:p.2=i:=by lia
  rw[this];rfl
def Wd(rs:qal):Φ:=(List.range 6).map λi=>oT (ud 28 i)
def Bi(rs:qal):Φ:=(List.range 6).map λi=>oT (endsAt 28 6 i)
def We(rs:qal):Φ:=zo 28 6 6
def iA(rs:qal):Φ:=(List.range 6).map λi=>oT (gx 28 i)
def GC(rs:qal):Gn rs=[.lst (Wd rs),.lst (Bi rs),.lst (We rs),.lst (iA rs)]:=rfl
def iB(C:Addr)(rs:qal):T:=.ins C ["program","heads","ends","elses","homes","defs","main"] [.lst 42,.lst (Wd rs),.lst (Bi rs),.lst (We rs),.lst (iA rs),Ta (bb rs 6),oT (iW rs)]
section
def eB(h:rs[i]?\r):iJ 42 (i:Int)\aV r:=ah (by rw[d4,h];rfl)
def LG(h:i<6):iJ (Bi rs) (i:Int)\oT (endsAt 28 6 i):=ah (by unfold Bi;rw[d4,Nj h];rfl)
def o5(h:i<6):iJ (iA rs) (i:Int)\oT (gx 28 i):=ah (by unfold iA;rw[d4,Nj h];rfl)
end
def top(i:Nat):Stmt:=PySem.Challenge.pw_slicewise_k24_closed_tables.main.body.getD i (.Pass #[0,0,0,0])
abbrev hW:Stmt:=top 12
structure MgF(mg:qae):Prop where
 enumerate:mg "enumerate"=none
def GD(ts:Φ)(q:qam):Prop:=∃rs:qal,ts=[.lst 42]/\6<=100/\q (.fr (Ta (bb rs 6)))
section
abbrev uj:ω:=["program","firsts","place","row"]
def jM:aI uj qav (aq hW):=L2.gO
def qP(D:Df K mg "first_defs" hW qav f fd)(M:MgF mg):cu P w K mg base "first_defs" qav 1 (cD K 1 GD):=by
 show D.gR (jt D.F jM 9 λbP A outer s H E Ox hr ts q hG=>?_);have nd:=jM.nd;have hu:=bA.dI hr;have np:∀{i:Nat},bj #[H,[],Ox] i:=i_;show#[_,(ag (cf (i:=1) nd 9 7 (rk Lz) np)
  (ag (cg lu 9 (fY 24 M.enumerate (ai 0)) (cK (n:=2) 9 (aD (aw (i:=2) nd 9 7 np) (aD (aw (i:=03) nd 9 7 np) bR)))
   (ak (a_ (bt hu (ν (ar (ae 03) 3)) (ν au))
    (ak (bq (LC 1 (υ (ar (ae 03) 3)) (ai 2))))
    aJ)))
  (ak (aK (eQ 1 np))))),λ_=>?_]
 let(rs,rfl,hn,hq):=hG;show ja (λi ρ=>E2 λb2 b3=>ρ=[some (.lst 42,false),some (Ta (bb rs i),true),b2,b3]) #[_,_,9] ?_ ?_;rintro i r ρ hr ⟨b2,b3,rfl⟩;have hi:=(dy.mp hr).1;have hlen:((bb rs i).map λp=>T.int (p.2:Int)).length<16777216:=by rw[bL];have:=o4 rs i;lia
 have es:bb rs (i+1)=Gf (bb rs i) i r:=by simp only[bb,hr]
 cases r with
 |df g ps=>
  show#[9,9,_,aaL,?_];show#[_,aaM,hlen,?_];rw[es];simp only[Gf];rw[Gz];cases ha:qN (bb rs i) g with
  |some j=>calc#[_,_,9]
  |none=>
   change E2 λb2 b3=>_=[_,some (Ta (bb rs i++[(g,i)]),true),b2,b3];have ef:Ta (bb rs i++[(g,i)])=.dk (((bb rs i).map λp=>(Sum.inr p.1:Key))++[Sum.inr g]) (((bb rs i).map λp=>T.int (p.2:Int))++[T.int (i:Int)]):=by simp only[Ta,qo,fO,SN]
   rw[ef];calc#[_,_,9]
 |_=>show#[9,9,_,aaL,?_];rw[es];exact#[_,_,9]
 rintro ρ ⟨b2,b3,rfl⟩;calc hq
end
end Lay
namespace Wf
open PySem L2 VT Gen K5
def top(i:Nat):Stmt:=PySem.Challenge.pw_slicewise_k24_closed_tables.main.body.getD i (.Pass #[0,0,0,0])
abbrev kQ:Stmt:=top 13
structure Mg5(K:qaf)(mg:qae):Prop where
 len:mg "len"=none
 range:mg "range"=none
 enumerate:mg "enumerate"=none
 isinstance:mg "isinstance"=none
 int:mg "int"=none
 bool:mg "bool"=none
 tuple:mg "tuple"=none
 list:mg "list"=none
 zip:mg "zip"=none
 CL:∃a,mg "CLOSERS"\.ref a/\∀H,dJ K H a [.str "give",.str "end"]
 OP:∃a,mg "OPENERS"\.ref a/\∀H,dJ K H a [.str "def",.str "if",.str "while"]
def GF(ts:Φ)(q:Φ->Prop):Prop:=∃rs:qal,ts=[.lst 42]/\N6 rs/\6<=100/\q (Gn rs)
def ow{l:Φ}{t:T}(h:l.getLast?\t):iJ l (-1)\t:=by
 have hl:0<l.length:=by cases l<;>simp_all
 rw[Ep] at h;unfold iJ yh;rw[θ 5,ι ()];have e:(-1+(l.length:Int)).toNat=l.length-1:=by lia
 rw[e];calc h
theorem GG(kd:Nat->Kd):∀k,(st kd k).length<=k
 |0=>cv _
 |k+1=>by have:=GG kd k;simp only[st];split<;>split<;>simp<;>lia
def LH(n:Nat)(t:T):(List.replicate n [t]).flatten=List.replicate n t:=by
 induction n with
 |zero=>rfl
 |succ n ih=>rw[Jj,TM,ih];rfl
def GH(rs:qal)(h e l o s:Φ)(k:Nat)(r:Rw):En:=[aL (.lst 42),some (.lst h,true),some (.lst e,true),some (.lst l,true),some (.lst o,true),some (.lst s,true),aL (.int (k:Int)),aL (aV r)]
def um(rs:qal)(k:Nat):Φ:=(st 28 k).map λ(j:Nat)=>T.int (j:Int)
def Wg(rs:qal)(k:Nat)(ρ:En):Prop:=E7 λb6 b7 h e l o s=>ρ=[aL (.lst 42),some (.lst h,true),some (.lst e,true),some (.lst l,true),some (.lst o,true),some (.lst s,true),b6,b7]/\h=tab (ud 28) 6 k/\e=jw (endsAt 28 6) 6 k/\l=zo 28 6 k/\o=tab (gx 28) 6 k/\s=um rs k
def l_(rs:qal)(M:Nat->Rw->Φ->Φ->Φ->Φ->Φ->Prop):FS:=λd ρ=>E7 λk r h e l o s=>rs[k]?\r/\ρ=GH rs h e l o s k r/\h=tab (ud 28) 6 (k+1)/\M k r h e l o s/\∀ρ',Wg rs (k+1) ρ'->d.nx ρ'
def M1(rs:qal)(k:Nat)(r:Rw)(h e l o s:Φ):Prop:=e=jw (endsAt 28 6) 6 k/\l=zo 28 6 k/\s=um rs k/\o.length=6/\((aZ r).df=true->o.set k (.int (k:Int))=tab (gx 28) 6 (k+1))/\((aZ r).df=false->o=tab (gx 28) 6 (k+1))
def M2(rs:qal)(k:Nat)(r:Rw)(h e l o s:Φ):Prop:=e=jw (endsAt 28 6) 6 k/\l=zo 28 6 k/\s=um rs k/\o=tab (gx 28) 6 (k+1)
def M3(rs:qal)(k:Nat)(r:Rw)(h e l o s:Φ):Prop:=e=jw (endsAt 28 6) 6 k/\l=zo 28 6 (k+1)/\s=um rs k/\o=tab (gx 28) 6 (k+1)
def M4(rs:qal)(k:Nat)(r:Rw)(h e l o s:Φ):Prop:=e=jw (endsAt 28 6) 6 (k+1)/\l=zo 28 6 (k+1)/\o=tab (gx 28) 6 (k+1)/\s=(if (aZ r).cl=true then (um rs k).dropLast else um rs k)
def o6{k:Nat}(h:k<n):yh n (k:Int)\k:=by unfold yh;rw[ι (),ι (),j6]
def uo{k:Nat}(h:st 28 k≠[]):∃j,(st 28 k).getLast?\j/\iJ (um rs k) (-1)\.int (j:Int):=by obtain⟨j,hj⟩:∃j,(st (bE rs) k).getLast?\j:=#[_,List.getLast?_eq_some_getLast h];calc#[j,hj,ow (by unfold um;rw[List.getLast?_map,hj];rfl)]
section
abbrev uq:ω:=["program","heads","ends","elses","homes","opened","place","row"]
def xn:aI uq qav (aq kQ):=L2.gO
def GJ(D:Df K mg "shape" kQ qav f fd)(M:Mg5 K mg):cu P w K mg base "shape" qav 1 (QE K 1 GF):=by
 show D.gR (fnD D.F xn 9 5 λbP A outer s H E Ox hr ts q hG=>?_);have nd:=xn.nd;have hu:=bA.dI hr;have np:∀{i:Nat},bj #[H,[],Ox] i:=i_;let(ac,mc,hac):=M.CL;let(ao,mo,hao):=M.OP;have Dk:∀{pos},VP (ke i8 P w K mg base uq "shape" (aq kQ) f bP A outer s H E).Ed #[H,[],Ox] (.Name "CLOSERS" pos) (fC (.tup [.str "give",.str "end"])):=nP 24 mc (v:=.ref ac) 9 λH A=>dg (hac H) (aB.cons d9 (aB.cons d9 aB.nil));have Dl:∀{pos},VP (ke i8 P w K mg base uq "shape" (aq kQ) f bP A outer s H E).Ed #[H,[],Ox] (.Name "OPENERS" pos) (fC (.tup [.str "def",.str "if",.str "while"])):=nP 24 mo (v:=.ref ao) 9 λH A=>dg (hao H) (aB.cons d9 (aB.cons d9 (aB.cons d9 aB.nil)));let(rs,rfl,W,hn,hq):=hG;show#[_,(fz (cf (i:=1) nd 9 7 (rk (tS (bz (aa (υ iL) aj)) (ν (aT aX aY 24 M.len lx (aH (ae 0) aM))))) np)
  (fz (cf (i:=2) nd 9 7 (rk (tS (bz (aa (υ iL) aj)) (ν (aT aX aY 24 M.len lx (aH (ae 0) aM))))) np)
  (fz (cf (i:=03) nd 9 7 (rk (tS (bz (aa (υ iL) aj)) (ν (aT aX aY 24 M.len lx (aH (ae 0) aM))))) np)
  (fz (cf (i:=04) nd 9 7 (rk (tS (bz (aa (υ iL) aj)) (ν (aT aX aY 24 M.len lx (aH (ae 0) aM))))) np)
  (fz (cf (i:=05) nd 9 7 (rk (bz aj)) np)
  (fz (cg lu 9 (fY 24 M.enumerate (ai 0)) (cK (n:=2) 9 (aD (aw (i:=06) nd 9 7 np) (aD (aw (i:=07) nd 9 7 np) bR)))
   (ag (a_ (AQ (ν (aT aX aY 24 M.len lx (aH (ae 05) aM))) 3)
    (ag (dh 1 (υ (ar (ae 05) (ν (oG 3)))) (ae 06))
    (ak (dh 04 (υ (ar (ae 05) 3)) (ae 06))))
    aJ)
   (fW.weak (u:=(l_ rs (M1 rs))) (ag (a_ (bt hu (ν (ar (ae 07) 3)) (ν au))
    (ak (dh 04 (ai 06) (ae 06)))
    aJ)
   (fW.weak (u:=(l_ rs (M2 rs))) (ag (a_ (bt hu (ν (ar (ae 07) 3)) (ν au))
    (ak (dh 03 (ai 06) (ν (ar (ae 05) (ν (oG 3))))))
    aJ)
   (fW.weak (u:=(l_ rs (M3 rs))) (ag (a_ (NS (ν (ar (ae 07) 3)) (ν Dk))
    (ag (dh 2 (ai 06) (ν (ar (ae 05) (ν (oG 3)))))
    (ak (bq (Fy 05 PySem.F.slot_list_pop PySem.F.type_list_pop EX AV))))
    aJ)
   (fW.weak (u:=(l_ rs (M4 rs))) (ak (a_ (NS (ν (ar (ae 07) 3)) (ν Dl))
    (ak (bq (cN 05 m4 m5 aW aQ (aa (ai 06) aj))))
    aJ)) ?w4)) ?w3)) ?w2)) ?w1)))
  (Lu (is:=[1,2,03,04]) 9 #[_,_,1,_,9,9,9,Or.inl 9,by decide,by decide,9,#[_,_,2,_,9,9,9,Or.inl 9,by decide,by decide,9,#[_,_,03,_,9,9,9,Or.inl 9,by decide,by decide,9,#[_,_,04,_,9,9,9,Or.inl 9,by decide,by decide,9,9]]]] 5 5))))))),λ_=>?main]
 case w4=>
  rintro d ρ ⟨k,r,h,e,l,o,s,cj,rfl,rfl,⟨rfl,rfl,rfl,rfl⟩,fin⟩;have xo:k<6:=(dy.mp cj).1;have mP:=c7 cj;let(rl,er):=gG r;unfold GH;rw[er];show#[_,aaL,9,9,?_];show ny (λh1=>?_) (λh1=>?_);have ho:(aZ r).op=true:=by rw[<- V1];exact h1
  have hc:(aZ r).cl=false:=by have:=W.ex k xo (by rw[mP];calc ho);rw[mP] at this;exact this
  rw[hc,θ jk];show#[?_,fin _ #[_,_,_,_,_,_,_,9,9,9,9,9,?_]];have:=GG 28 k;unfold um;rw[bL,π]
  lia
  unfold um;rw[iq (by rw[mP];calc ho) (by rw[mP];calc hc),qo];rfl;have ho:(aZ r).op=false:=by
   cases q:(aZ r).op with
   |false=>rfl
   |true=>exact (h1 ((V1 r).trans q)).elim
  show fin _ #[_,_,_,_,_,_,_,9,9,9,9,9,?_];unfold um;by_cases hc:(aZ r).cl=true;rw[ι hc,iR (by rw[mP];calc hc) (by rw[mP];calc ho),List.map_dropLast];rw[θ hc,fu (by rw[mP];cases q:(aZ r).cl<;>simp_all) (by rw[mP];calc ho)]
 case w3=>
  rintro d ρ ⟨k,r,h,e,l,o,s,cj,rfl,rfl,⟨rfl,rfl,rfl,rfl⟩,fin⟩;have xo:k<6:=(dy.mp cj).1;have mP:=c7 cj;let(rl,er):=gG r;unfold GH;rw[er];show#[_,aaL,9,9,?_];show ny (λh1=>?_) (λh1=>?_);have hc:(aZ r).cl=true:=by rw[<- V0];exact h1
  have og:(bE rs k).cl=true:=by rw[mP];exact hc
  let(j,hj,ej):=uo (W.cl k xo og);let(te,hjk):=Lq W xo og hj;show#[_,ej,j,by rw[wX];calc o6 (),9,.int (j:Int),?_,k,r,_,_,_,_,_,cj,by rw[<- er];rfl,9,#[?_,9,9,by rw[ι hc]],fin];unfold um;rw[bL,d4,<- Ep,hj];rfl;show Gm te λi hi he=>?_;have:=(ua W xo he hi).2;rw[hj] at this;calc (Option.some.inj this).symm;have hc:(aZ r).cl=false:=by
   cases q:(aZ r).cl with
   |false=>rfl
   |true=>exact (h1 ((V0 r).trans q)).elim
  show#[k,r,_,_,_,_,_,cj,by rw[<- er];rfl,9,#[C6 λi hi he=>?_,9,9,by rw[hc,θ jk]],fin];have:=(ua W xo he hi).1;rw[mP,hc] at this;cases this
 case w2=>
  rintro d ρ ⟨k,r,h,e,l,o,s,cj,rfl,rfl,⟨rfl,rfl,rfl,rfl⟩,fin⟩;have xo:k<6:=(dy.mp cj).1;have mP:=c7 cj;let(rl,er):=gG r;unfold GH;rw[er];show#[_,aaL,?_];show ny (λh1=>?_) (λh1=>?_);have hc:(aZ r).el=true:=by rw[<- VZ];exact h1
  have og:(bE rs k).el=true:=by rw[mP];exact hc
  let(j,hj,ej):=uo (W.el k xo og);have QU:j<k:=(jd k).2 j (List.mem_of_getLast? hj);show#[_,ej,j,by rw[ue];calc o6 (),k,r,_,_,_,_,_,cj,by rw[<- er];rfl,9,#[9,?_,9,9],fin];simp only[zo,ud,og,hj];have hc:(aZ r).el=false:=by
   cases q:(aZ r).el with
   |false=>rfl
   |true=>exact (h1 ((VZ r).trans q)).elim
  show#[k,r,_,_,_,_,_,cj,by rw[<- er];rfl,9,#[9,?_,9,9],fin];simp only[zo,mP,hc]
 case w1=>
  rintro d ρ ⟨k,r,h,e,l,o,s,cj,rfl,rfl,⟨rfl,rfl,rfl,ol,o1,o2⟩,fin⟩;have xo:k<6:=(dy.mp cj).1;let(rl,er):=gG r;unfold GH;rw[er];show#[_,aaL,?_];show ny (λh1=>?_) (λh1=>?_);calc#[k,by rw[ol];calc o6 xo,k,r,_,_,_,_,_,cj,by rw[<- er];rfl,9,#[9,9,9,o1 (by rw[<- VY];calc h1)],fin];have hc:(aZ r).df=false:=by
   cases q:(aZ r).df with
   |false=>rfl
   |true=>exact (h1 ((VY r).trans q)).elim
  exact#[k,r,_,_,_,_,_,cj,by rw[<- er];rfl,9,#[9,9,9,o2 hc],fin]
 case main=>
  have hlen:((rs.map aV).length:Int)=(6:Int):=by rw[bL]
  have ade:(List.replicate ((rs.map aV).length:Int).toNat [T.bK]).flatten=List.replicate 6 T.bK:=by rw[hlen,j6];exact LH _ _
  have Qu : -(2 ^ 63)<=((rs.map aV).length:Int):=by lia
  have NW:((rs.map aV).length:Int)<2 ^ 63:=by lia
  have YQ:[T.bK].length * ((rs.map aV).length:Int).toNat<=sizeLine:=by rw[hlen,j6,π];simp;lia
  show#[Gen.Qz 9,Qu,NW,YQ,Gen.Qz 9,Qu,NW,YQ,Gen.Qz 9,Qu,NW,YQ,Gen.Qz 9,Qu,NW,YQ,Gen.Qz 9,?_];change kx (cW 42) _ _ _ [aL (.lst 42),some (.lst (List.replicate ((rs.map aV).length:Int).toNat [T.bK]).flatten,true),some (.lst (List.replicate ((rs.map aV).length:Int).toNat [T.bK]).flatten,true),some (.lst (List.replicate ((rs.map aV).length:Int).toNat [T.bK]).flatten,true),some (.lst (List.replicate ((rs.map aV).length:Int).toNat [T.bK]).flatten,true),some (.lst [],true),none,none];rw[Gp,ade];show de (Wg rs)
   #[_,_,_,_,_,_,_,9,(wY _ _).symm,(C5 _ _).symm,9,(wY _ _).symm,9] ?_ ?_
  . rintro k ⟨r,k'⟩ ρ hk ⟨b6,b7,_,_,_,_,_,rfl,rfl,rfl,rfl,rfl,rfl⟩;rw[List.getElem?_zipIdx] at hk;cases cj:rs[k]? with
    |none=>rw[cj] at hk;cases hk
    |some r'=>
    rw[cj] at hk;simp at hk;let(rfl,rfl):=hk;have xo:k<6:=(dy.mp cj).1;let(rl,er):=gG r';show#[9,9,?_];change U_ _ _ _ [aL (.lst 42),some (.lst (tab (ud 28) 6 k),true),some (.lst (jw (endsAt 28 6) 6 k),true),some (.lst (zo 28 6 k),true),some (.lst (tab (gx 28) 6 k),true),some (.lst (um rs k),true),aL (.int (k:Int)),aL (aV r')];rw[er];have mP:=c7 cj;show cU (λh1=>?_) (λh1=>?_);have eY:st 28 k≠[]:=λz=>by have K0:((um rs k).length:Int) > 0:=h1;unfold um at K0;rw[z] at K0;simp at K0
    let(j,hj,ej):=uo eY;obtain⟨j0,hj0⟩:∃j0,(st (bE rs) k).head?\j0:=#[_,List.head?_eq_some_head eY];have ej0:iJ (um rs k) 0\.int (j0:Int):=ah (j:=0) (by unfold um;rw[d4,<- List.head?_eq_getElem?,hj0];rfl);show#[_,ej,k,by rw[kN];calc o6 xo,_,ej0,k,by rw[kN];calc o6 xo,k,r',_,_,_,_,_,cj,by rw[<- er];rfl,?_,#[9,9,9,by rw[List.length_set,kN],λhd=>?_,λhd=>?_],λρ' h=>h];have e1:T.int (j:Int)=oT (ud 28 k):=by unfold ud;rw[hj];rfl
    rw[e1];calc nX;rw[List.set_set];have e1:T.int (k:Int)=oT (gx 28 k):=by unfold gx;rw[mP,ι hd];rfl
    rw[e1];calc nX;have e1:T.int (j0:Int)=oT (gx 28 k):=by unfold gx;rw[mP,hd,θ jk,hj0];rfl
    rw[e1];calc nX;have eY:st 28 k=[]:=by
     cases q:st (bE rs) k with
     |nil=>rfl
     |cons a b=>exfalso;show h1 ?_;change ((um rs k).length:Int) > 0;unfold um;rw[q];simp
    show#[k,r',_,_,_,_,_,cj,by rw[<- er];rfl,wZ (by unfold ud;rw[eY];rfl),#[9,9,9,by rw[kN],λhd=>?_,λhd=>?_],λρ' h=>h];have e1:T.int (k:Int)=oT (gx 28 k):=by unfold gx;rw[mP,ι hd];rfl
    rw[e1];calc nX;exact wZ (by unfold gx;rw[mP,hd,θ jk,eY];rfl)
  rintro ρ ⟨b6,b7,_,_,_,_,_,rfl,rfl,rfl,rfl,rfl,rfl⟩;rw[List.length_zipIdx,w6,w6,C7];calc hq;intro j m hj he;unfold endsAt at he;split at he
  rename_i ho
  let(e,h1,h2,h3,_):=end_is W hj ho;rw[h1] at he;cases he;calc h3;cases he
end
end Wf
namespace VT
open PySem PySem.Spec PyProof.Rows L2
end VT
namespace Lay
open PySem L2 VT Gen K5
abbrev iY:Stmt:=inClass (top 15) 0
structure Wh(mg:qae):Prop where
 len:mg "len"=none
 min:mg "min"=none
structure QV(K:qaf)(C:Addr):Prop where
 cl:EK K C
 dU:cF K C "program"
 LI:cF K C "heads"
 GK:cF K C "ends"
 LJ:cF K C "elses"
 je:cF K C "homes"
 ur:cF K C "defs"
 QW:cF K C "main"
def uu(C:Addr)(ts:Φ)(q:T->Prop):Prop:=∃rs:qal,ts=[.lst 42]/\N6 rs/\6<=100/\q (iB C rs)
section
variable{aR:Addr}
abbrev GL:ω:=["self","program","parts"]
def rS:aI GL qaw (aq iY):=L2.gO
def Dm(D:Dc K mg "Layout" "Layout.__init__" iY qaw aR f fd)(M:Wh mg)(M1:QV K aR)(LK:cu P w K mg base "shape" qav 1 (QE K 1 Wf.GF))(uw:cu P w K mg base "first_defs" qav 1 (cD K 1 GD)):zu P w K mg base "Layout" aR qaw 2 1 (uu aR):=by
 let(YR,Wi,LL,LM,LN,LO):=LK;show D.gR (fnI D.F rS 9 λbP A outer s H E as Ox hr us q hl hG=>?_);have nd:=rS.nd;have aC:=M1;show#[_,(ag (ay (i:=2) nd 9 7 (rk (VD.vp (Bc LO 29 24 LL LM LN (aa (ai 1) aj)))) (jK 5))
  (ag (hV 0 aC.cl aC.dU (ai 1))
  (ag (hV 0 aC.cl aC.LI (υ (ar (ae 2) 3)))
  (ag (hV 0 aC.cl aC.GK (υ (ar (ae 2) 3)))
  (ag (hV 0 aC.cl aC.LJ (υ (ar (ae 2) 3)))
  (ag (hV 0 aC.cl aC.je (υ (ar (ae 2) 3)))
  (ag (hV 0 aC.cl aC.ur (υ (aO uw hr (aa (ai 1) aj))))
  (ak (hV 0 aC.cl aC.QW (υ (NF (AQ (ν (aT De zq 24 M.len lx (aH (ν (dG aC.cl aC.ur (ae 0))) aM))) 3) (zw 9 24 M.min (ν (dG aC.cl aC.ur (ae 0)))) iL))))))))))),?_]
 let(rs,rfl,W,hn,hq):=hG;show#[9,rs,9,W,hn,?_];rw[GC];show#[9,by change 0<1000;decide,?_];show#[9,_,aaL,by change 1<1000;decide,?_];show#[9,_,aaM,by change 2<1000;decide,?_];show#[9,_,aaN,by change 03<1000;decide,?_];show#[9,_,aaO,by change 04<1000;decide,?_];show#[9,9,rs,9,hn,by change 05<1000;decide,?_];show#[9,?_];show#[9,_,9,?_];show cU (λh=>?_) (λh=>?_);show#[9,_,9,(bb rs 6).map (λp=>(p.2:Int)),?_,?_,λm h1 h2=>?_];rw[qv];rfl;intro z;rw[List.map_eq_nil_iff] at z;rw[z] at h;calc absurd h 5;show#[by change 06<1000;decide,?_];have e:=GB h1 h2;change q [_] _;rw[e];calc hq;show#[by change 06<1000;decide,?_];have z:bb rs 6=[]:=by
  cases e:bb rs rs.length with
  |nil=>rfl
  |cons a b=>exfalso;apply h;rw[e];simp
 have e:iW rs=none:=by
  cases e:iW rs with
  |none=>rfl
  |some i=>let((g,ps,hi),hm):=rR e;let(l,hl):=iX hi hm 6 (dy.mp hi).1;rw[z] at hl;cases hl
 have e2:T.bK=oT (iW rs):=by rw[e];rfl
 unfold iB at hq;rw[<- e2] at hq;calc hq
end
end Lay
namespace VT
open PySem PySem.Spec PyProof.Rows L2
section
variable{o:Expr}{fo:FE}
def LP(fo fe:FE):FP:=λρ Q=>fo ρ λx=>match x with
 |.str z=>fe ρ λy=>match y with
  |.str y=>Q (.vw (.bl (Txt.startswith z y)))
  |_=>False
 |_=>False
def ma(ho:VR X Z o fo)(he:VR X Z e fe)(dB:attributeBase o "startswith" 19 (eval o 19)=eval o 19:=by rfl)(yN:((backTo bF (starEach [e] 19)).all (λx=>!x.1) && (backToKw bF (keywordEach [] 19)).all (λx=>x.1.isSome)
    && decide (([e]:qap).length+([]:List Keyword).length+(if ([]:List Keyword).isEmpty then 0 else 1)<30))=true:=by rfl)(dC:(apos.endLine==bF.line)=true:=by rfl)(hs:starEach [e] 19=(false,eval e 19)::starEach [] 19:=by rfl)(jU:(backTo bF (starEach [] 19)).any (·.1)=false:=by rfl) :
  VP X Z (.Call (.Attribute o "startswith" apos) [e] [] bF) (LP fo fe):=.mk λtm=>
 PE.weak (EV PySem.F.plainAttrs_str PySem.F.slot_str_startswith PySem.F.type_str_startswith qA (ho tm) (bw (he tm) cQ hs) dB yN dC hs jU) λσ H Q #[ρ,O,q,I,hf,k] =>
  #[ρ,O,_,I,hf,λx hx v H1 s1 a1=>by
    split at hx
    rename_i z
    have ev:=a1.str;subst ev;show#[9,ρ,O,_,I.same s1,hx,λy hy w H2 s2 a2=>?_];split at hy;have ew:=a2.str;subst ew;calc#[z,_,9,9,k _ hy _ H2 (s1.trans s2) #[(I.same s1).same s2,dO]];calc hy.elim;calc hx.elim]
end
end VT
namespace VT
open PySem PySem.Spec PyProof.Rows
def ddp{K:Type}[DecidableEq K](l:List K)(v:K):List K:=if v∈l then l else l++[v]
def met{K:Type}[DecidableEq K](val:Nat->K):Nat->List K
 |0=>[]
 |i+1=>ddp (met val i) (val i)
section
variable{R:Result->Shared->Prop}{I:Addr}{wr:zm}{G:Array GenState->Array GenState->Prop}{P:Nat->Value->Prop}{St:Nat->Shared->Prop}
variable{K:Type}[DecidableEq K]{knd:PySem.KeyKind prog w K}
end
end VT
namespace VT
open PySem PySem.Spec PyProof.Rows L2
section
variable{a o i:Expr}{fo fi:FE}{pos:Pos}
def Dn:NC X "int.bit_length" (λx xs H Q=>∃i,x=.int i/\xs=[]/\Q (.int (Builtin.Int.intBits i)) H):=by intro ε s σ H x xs v us Q I rx rs h;let(i,rfl,rfl,q):=h;let(t,rfl):=rx;cases rs;calc call_int_bit_length #[.int _,H,I.tok _,#[_,9],q]
def LQ(f:FE):FP:=λρ Q=>f ρ λx=>match x with
 |.int i=>Q (.vw (.int (Builtin.Int.intBits i)))
 |_=>False
def Dp(ho:VR X Z o fo)(dB:attributeBase o "bit_length" 19 (eval o 19)=eval o 19:=by rfl)(dC:(apos.endLine==bF.line)=true:=by rfl) :
  VP X Z (.Call (.Attribute o "bit_length" apos) [] [] bF) (LQ fo):=.mk λtm=>
 PE.weak (yM PySem.F.plainAttrs_int PyProof.Rows.slot_int_bit_length PyProof.Rows.type_int_bit_length Dn (ho tm) dB dC) λσ H Q #[ρ,O,q,I,hf,k] =>
  #[ρ,O,_,I,hf,λx hx v H1 s1 a1=>by
    split at hx
    rename_i z
    have ev:=a1.int;subst ev;calc#[9,z,9,9,k _ hx _ H1 s1 #[I.same s1,bJ]];calc hx.elim]
end
end VT
namespace Nm
open PySem L2 VT Gen nN
def top(i:Nat):Stmt:=PySem.Challenge.pw_slicewise_k24_closed_tables.main.body.getD i (.Pass #[0,0,0,0])
abbrev jf:Stmt:=top 06
abbrev jZ:Stmt:=top 07
structure Mg2(mg:qae):Prop where
 LR:∃t,mg "LETTERS"\.str bH t
 ux:∃t,mg "LONGEST_NAME"\.int 08 t
 isinstance:mg "isinstance"=none
 str:mg "str"=none
 len:mg "len"=none
 all:mg "all"=none
def bG(h:n<=1000):n<=sizeLine:=small h
def LS:T->Bool
 |.lst _=>false
 |.dk _ _=>false
 |.dt _ _=>false
 |.df _ _ _=>false
 |.kt _=>false
 |.ins _ _ _=>false
 |.pin _ _=>false
 |.ob _=>false
 |.ty _=>false
 |_=>true
def Wj:T->Bool
 |.str x=>cS x
 |_=>false
def oj(ts:Φ)(q:qam):Prop:=∃t,ts=[t]/\LS t=true/\(∀x,t=.str x->x.length<=1000)/\q (.vw (.bl (Wj t)))
def QX(r:Rt)(A:Prop)(B:Prop):Prop:=match r with
 |.vw (.bl true)=>A
 |.vw (.bl false)=>B
 |_=>False
def GN{c:Bool}{A:Prop}(h1:c=true->A)(h2:c=false->B):QX (.vw (.bl c)) A B:=by
 cases c with
 |true=>calc h1 9
 |false=>calc h2 9
def adf:T->Bool
 |.str x=>ff x
 |_=>false
def GO(t:T):Prop:=(∃x,t=.str x/\x.length<=100)\/∃i,t=.int i
def Gx(ts:Φ)(q:qam):Prop:=∃t,ts=[t]/\GO t/\q (.vw (.bl (adf t)))
def andM(r:Rt)(A:Prop)(B:Prop):Prop:=match r with
 |.vw (.bl true)=>A
 |.vw (.bl false)=>B
 |_=>False
def LU{c:Bool}{A:Prop}(h1:c=true->A)(h2:c=false->B):andM (.vw (.bl c)) A B:=by
 cases c with
 |true=>calc h1 9
 |false=>calc h2 9
theorem Bj:∀l:qao,dc (l.map ((λt:T=>match t with | .str y=>.bl (FL y bH)|_=>.bK) ∘ λc=>T.str #[([c].toArray)]))\l.map CF
 |[]=>rfl
 |c::l=>by rw[fO,fO];change (dc _).map _=_;rw[Bj l];rfl
section
abbrev me:ω:=qax
def o7:aI me qax (aq jf):=L2.gO
def qQ:(me++(["sign"]:ω)).Nodup:=by decide +kernel
def LV(D:Df K mg "is_name" jf qax f fd)(M:Mg2 mg):cu P w K mg base "is_name" qax 1 (cD K 1 oj):=by
 show D.gR (jt D.F o7 9 λbP A outer s H E Ox hr ts q hG=>?_);have nd:=o7.nd;have np:∀{i:Nat},bj #[H,[],Ox] i:=i_;let(tL,mL):=M.LR;let(tN,mN):=M.ux;have o8:∀{pos},VP (ke i8 P w K mg base me "is_name" (aq jf) f bP A outer s H E).Ed #[H,[],Ox] (.Name "LONGEST_NAME" pos) (fC (.int 08)):=nP 24 mN (v:=.int 08) #[tN,9] λ_ _=>bJ;show#[_,(ag (a_ (VW.vc (AK (tq (d_ (eR d7 24 M.isinstance 24 M.str mO (ae 0)))) (yT (tq (FT NA NA 3 (ν (aT aX aY 24 M.len lx (aH (ae 0) aM))) (ν o8))))))
    (ak (aK (rk wj)))
    aJ)
   (ak (aK (rk (aT (oA 9) CN 24 M.all Vo (aH (ν (dD (ts:=["sign"]) 9 24 (eA (ai 0)) (λ_ _ _ _ _ _=>(aw (i:=1) qQ 9 7 np)) (λ_ _ _ _ _ _=>kz) (λ_ _ _ _ _ _=>(υ (Vk (ae 1) (ν (nP 24 mL (v:=.str bH) #[tL,9] λ_ _=>d9))))))) aM)))))),λ_=>?_]
 let(t,rfl,ht,hx,hq):=hG;cases t with
 |bK=>calc#[9,hq]
 |bl b=>calc#[9,hq]
 |int x=>calc#[9,hq]
 |tup l=>calc#[9,hq]
 |str x=>
   have hl:=hx x 9;have yf:q (.vw (.bl (decide (1<=(x.length:Int)) && (decide ((x.length:Int)<=08) && x.cps.toList.all CF)))):=hq;show#[9,bG hl,GN (c:=decide (1<=(x.length:Int))) (λh1=>?_) (λh1=>?_)];rw[h1,yr] at yf;show ny (λh2=>?_) (λh2=>?_);have qI:(!decide ((x.length:Int)<=08))=true:=h2;have h3:decide ((x.length:Int)<=08)=false:=by simpa using qI
   rw[h3,Jl] at yf;calc yf;have qI:¬ (!decide ((x.length:Int)<=08))=true:=h2;have h3:decide ((x.length:Int)<=08)=true:=by simpa using qI
   rw[h3,yr] at yf;show#[9,by rw[bL,JB];calc bG hl,i9 (λ_=>true) (λt=>match t with | .str y=>.bl (FL y bH)|_=>.bK) (λt ht k r h=>?_) ?_];let(c,_,rfl):=gy.mp ht;calc#[_,9,h];rw[List.filter_eq_self.mpr (λ_ _=>rfl),qv];show#[x.cps.toList.map CF,Bj x.cps.toList,?_];rw[List.all_map];calc yf;rw[h1,Jl] at yf;calc yf
 |_=>cases ht
abbrev zy:ω:=qax
def mQ:aI zy qax (aq jZ):=L2.gO
def xp(D:Df K mg "is_field" jZ qax f fd)(M:Mg2 mg)(Dq:cu P w K mg base "is_name" qax 1 (cD K 1 oj)):cu P w K mg base "is_field" qax 2 (cD K 1 Gx):=by
 show D.gR (jt D.F mQ 9 λbP A outer s H E Ox hr ts q hG=>?_);have nd:=mQ.nd;show#[_,(ak (aK (rk (Fi (eR d7 24 M.isinstance 24 M.str mO (ae 0)) (Fi (ma (ae 0) (ν au)) (Fh (aO Dq hr (aa (υ (iM (ae 0) (g7 3) tw)) aj)))))))),λ_=>?_];let(t,rfl,ht,hq):=hG;obtain⟨x,rfl,hx⟩|⟨i,rfl⟩:=ht
 show#[9,?_];have yf:q (.vw (.bl (Txt.startswith x "." && cS (Txt.slice x (some 1) none)))):=hq;show LU (c:=Txt.startswith x ".") (λh=>?_) (λh=>?_);rw[h,yr] at yf;show#[bG (),9,_,9,9,λy e=>?_,yf];cases e;calc jR (Txt.slice_le x _ _) ();rw[h,Jl] at yf;calc yf;calc#[9,hq]
end
end Nm
namespace TS
open PySem PyProof.Rows
section
def GP{vs:qag}{xs:Array Keyed}(hp:xs.Perm (pairsOf vs)):(xs.map (·.2)).toList.Perm vs:=by
 have h:=(X0.mp hp).map (λp:Keyed=>p.2);rw[pairsOf_toList] at h;rw[Array.toList_map];show h.trans ?_;have:∀l:qag,(l.zip l).map (λp:Keyed=>p.2)=l:=λl=>by
  induction l with
  |nil=>rfl
  |cons x l ih=>rw[Nn,fO,ih]
 rw[this]
end
section
inductive Sc:Value->Value->Prop
 |int (i j:Int) (t u:Tok):Sc (.int i t) (.int j u)
 |str (x y:Str) (t u:Tok):Sc (.str x t) (.str y u)
def Wl{p q:Value}(h:Sc p q){Q:Bool->Shared->Prop}(hq:∀b,Q b s):wpAny 14 A (eqBool p q) Q E s:=by
 cases h with
 |int i j t u=>calc wpAny_eqBool_int (hq _)
 |str x y t u=>calc wpAny_eqBool_str (hq _)
def Wm{p q:Value}(h:Sc p q)(c:Bool){Q:Bool->Shared->Prop}(hq:∀b,Q b s):wpAny 14 A (oneLt' c p q) Q E s:=by
 cases c with
 |true=>
  cases h with
  |int i j t u=>calc oneLt_int (hq _)
  |str x y t u=>calc oneLt_str (hq _)
 |false=>
  rw[oneLt'_eq];simp only[Bool.false_eq_true,aaJ];cases h with
  |int i j t u=>calc ζ (wpAny_richCompare_same (op:=.Lt) (T:="int") (aaF s i t) (aaF s j u) slot_int_lt (call_int_lt #[by simp,Ξ (hq _)]))
  |str x y t u=>calc ζ (wpAny_richCompare_same (op:=.Lt) (T:="str") (typeIs_str s x t) (typeIs_str s y u) slot_str_lt (call_str_lt #[by simp,Ξ (hq _)]))
def uy(b:Bool)(x y:Value):keyLt' (tuples' b) x y=(do
 let xs <- Builtin.List.listItems x
 let ys <- Builtin.List.listItems y
 for ((p,q),i) in (xs.toList.zip ys.toList).zipIdx do
  if !(<- eqBool p q) then return <- oneLt' (b && i==0) p q
 return decide (xs.size<ys.size)):=rfl
theorem xq(c:Bool):∀(l:List ((Value×Value)×Nat)),(∀e∈l,Sc e.1.1 e.1.2)->∀Q:Option Bool×Unit->Shared->Prop,(∀r,Q r s) ->
  wpAny 14 A (forIn l ((none,Unit.unit):Option Bool×Unit) λ(x:(Value×Value)×Nat) (_:Option Bool×Unit)=>(match x with
   | ((p,q),i)=>do
     let t <- eqBool p q
     if (!t)=true then do
      let t <- oneLt' (c && i==0) p q
      pure (ForInStep.done (some t,Unit.unit))
     else pure (ForInStep.yield (none,Unit.unit)):Sem (ForInStep (Option Bool×Unit)))) Q E s
 |[],_,Q,hq=>by rw[List.forIn_nil];calc η (hq _)
 |e::l,h,Q,hq=>by
   let((p,q),i):=e;have ih:=xq c l (λe he=>h e (gT _ he)) Q hq;have hs:Sc p q:=h ((p,q),i) 4;rw[List.forIn_cons];show ζ ?_;change wpAny _ _ (eqBool p q >>= _) _ _ _;show ζ (Wl hs λb=>?_);cases b with
   |true=>calc η ih
   |false=>show ζ (Wm hs _ λb=>?_);calc η (η (hq _))
def TupAt(h:Heap)(v:Value)(aN:Array Value):Prop:=E3 λa o n=>v=.ref a/\h.get? a\o/\o.cls=.type "tuple"/\o.data=.seq aN n
theorem LW{x y:Value}{xs ys:Array Value}(hx:TupAt 50 x xs)(hy:TupAt 50 y ys)(hs:∀e∈xs.toList.zip ys.toList,Sc e.1 e.2)(c:Bool){Q:Bool->Shared->Prop}(hq:∀b,Q b s) :
  wpAny 14 A (keyLt' (tuples' c) x y) Q E s:=by
 let(a,o,n,rfl,h1,h2,h3):=hx;let(a',o',n',rfl,K0,qI,QY):=hy;rw[uy];show ζ (listItems_at h1 h3 (ζ (listItems_at K0 QY ?_)));show ζ (xq c _ (λe he=>?_) _ λr=>?_)
 rotate_left
 let(r1,r2):=r;cases r1 with
 |some b=>calc η (hq b)
 |none=>exact η (hq _)
 let((p,q),i):=e;have:=List.mem_zipIdx he;let(_,_,e2):=this;show hs (p,q) ?_;simp only[Nat.sub_zero] at e2;rw[e2];calc B8 _
theorem uz{α β:Type}{f:α->Sem β}{g:α->β}:∀(l:List α)(Q:List β->Shared->Prop),(∀v∈l,∀R:β->Shared->Prop,R (g v) s->wpAny 14 A (f v) R E s)->Q (l.map g) s->wpAny 14 A (l.mapM f) Q E s
 |[],Q,_,hq=>by rw[List.mapM_nil];calc η hq
 |v::l,Q,h,hq=>by rw[List.mapM_cons];calc ζ (h v 4 _ (ζ (uz l _ (λv hv=>h v (gT _ hv)) (η hq))))
theorem GQ{vs:qag}(eY:vs≠[])(ht:∀v∈vs,∃aN i t,TupAt 50 v aN/\aN[0]?\.int i t){Q:SortKind->Shared->Prop}(hq:Q (tuples' true) s) :
  wpAny 14 A (keyKind' vs.toArray) Q E s:=by
 have pick:∃g:Value->Option Value,∀v∈vs,∃i t,g v\.int i t/\∀R:(Option Value)->Shared->Prop,R (g v) s->wpAny 14 A (firstOfTuple' v) R E s:=by
  show#[λv=>open Classical in if h:∃x:Value,(∃i t,x=.int i t)/\∀R:(Option Value)->Shared->Prop,R (some x) s->wpAny (model prog w) A (firstOfTuple' v) R E s then some h.choose else none,λv hv=>?_];let(aN,i,t,(a,o,n,rfl,h1,h2,h3),h4):=ht v hv;have hex:∃x:Value,(∃i t,x=.int i t)/\∀R:(Option Value)->Shared->Prop,R (some x) s->wpAny 14 A (firstOfTuple' (.ref a)) R E s:=by show#[.int i t,#[i,t,9],λR hR=>ζ (aam #[o,h1,h2] (ζ (listItems_at h1 h3 (η ?_))))];rw[h4];exact hR
  dsimp only;rw[dif_pos hex];let((i',t',e),hR):=hex.choose_spec;exact#[i',t',by rw[e],hR]
 let(g,hg):=pick;rw[keyKind'_eq,List.mapM_toArray];show ζ (ζ (uz vs _ (λv hv R hR=>(hg v hv).choose_spec.choose_spec.2 R hR) (η ?_)));have yP:((vs.map g).toArray.all λx=>x.isSome)=true:=by rw[List.all_toArray,List.all_map,JD];intro v hv;let(i,t,e,_):=hg v hv;change (g v).isSome=true;rw[e];rfl
 rw[ι yP];show ζ (aah ?_);have hfm:(Array.filterMap id (vs.map g).toArray)=(vs.filterMap g).toArray:=by simp[Yb]
 rw[hfm,oneTypeOnly'_eq,List.mapM_toArray];have hi:∀x∈vs.filterMap g,∃i t,x=Value.int i t:=λx hx=>by let(v,hv,e):=Ya.mp hx;let(i,t,e',_):=hg v hv;rw[e] at e';exact#[i,t,Option.some.inj e']
 have hn:vs.filterMap g≠[]:=by
  obtain⟨v,rest,rfl⟩:∃v rest,vs=v::rest:=by
   cases vs with
   |nil=>calc absurd 9 eY
   |cons v rest=>exact#[v,rest,9]
  let(i,t,e,_):=hg v 4;rw[Zh e];simp
 generalize vs.filterMap g=fs at hi hn;show ζ (ζ (ζ (uz (g:=λ_=>Value.type "int") fs _ (λx hx R hR=>?_) (η ?_))));let(i,t,rfl):=hi x hx;calc aam (aaF s i t) hR;cases fs with
 |nil=>calc absurd 9 hn
 |cons x fs=>
   have hal:(((x::fs).map λ_=>Value.type "int").toArray.all λy=>y==Value.type "int")=true:=by rw[List.all_toArray,List.all_map,JD];intro y _;rfl
   change wpAny _ _ (pure (if (((x::fs).map λ_=>Value.type "int").toArray.all λy=>y==Value.type "int")=true then some (Value.type "int") else none)) _ _ _;rw[ι hal];calc η (η hq)
end
end TS
namespace TS
open PySem PySem.Spec PyProof.Rows L2 VT
section
def rT:∀{us Gk:qag},Gk.Perm us->∀{xs:qak},Vals xs us->∃zs:qak,zs.Perm xs/\Vals zs Gk:=by
 intro us Gk p;induction p with
 |nil=>intro xs r;cases r;calc#[[],.nil,.nil]
 |cons u _ ih=>
  intro xs r;cases r with
  |cons r t=>let(zs,p,q):=ih t;calc#[_,p.cons _,.cons r q]
 |swap u v l=>
  intro xs r;cases r with
  |cons r1 t=>cases t with
   |cons r2 t=>calc#[_,.swap _ _ _,.cons r2 (.cons r1 t)]
 |trans _ _ QZ Q0=>intro xs r;let(zs,p,q):=Q0 r;let(zs',p',q'):=QZ q;calc#[zs',p'.trans p,q']
end
section
variable{A:zm}
def uA{t:T}{ts:Φ}(h:aB K H A (t::ts) (v::vs)):At K H A t v/\aB K H A ts vs:=by let(v',r,e,h1,h2):=h;cases e;calc#[h1,h2]
def xr:∀{ws zs:qak},zs.Perm ws->∀{ts:Φ},aB K H A ts ws->∃us:Φ,us.Perm ts/\aB K H A us zs:=by
 intro ws zs p;induction p with
 |nil=>intro ts h;calc#[ts,.rfl,h]
 |cons v _ ih=>
  intro ts h;cases ts with
  |nil=>have:=h.length;simp at this
  |cons t ts=>let(h1,h2):=uA h;let(us,p,q):=ih h2;calc#[t::us,p.cons t,aB.cons h1 q]
 |swap v w l=>
  intro ts h;cases ts with
  |nil=>have:=h.length;simp at this
  |cons t ts=>cases ts with
   |nil=>have:=h.length;simp at this
   |cons t' ts=>let(h1,h2):=uA h;let(h2,h3):=uA h2;calc#[t'::t::ts,.swap _ _ _,aB.cons h2 (aB.cons h1 h3)]
 |trans _ _ QZ Q0=>intro ts h;let(us,p,q):=Q0 h;let(Gk,p',q'):=QZ q;calc#[Gk,p'.trans p,q']
theorem xt:∀{ts:Φ}{ws:qak},aB K H A ts ws->∀w∈ws,∃t∈ts,At K H A t w
 |[],ws,h,w,hw=>by have:=h.length;cases ws with
  |nil=>cases hw
  |cons a b=>simp at this
 |t::ts,ws,h,w,hw=>by
  cases ws with
  |nil=>cases hw
  |cons v ws=>
   let(h1,h2):=uA h;rcases cY.mp hw with rfl|z
   calc#[t,by simp,h1];let(u,hu,a):=xt h2 w z;calc#[u,gT _ hu,a]
end
end TS
namespace SP
open PySem PyProof.Rows PyProof
abbrev Kd:=Value×Value
structure Cp(prog:Program)(w:World)(A:Around)(E:qad)(s:Shared)(κ:SortKind)(G:Kd->Prop):Prop where
 lt:∀{p q:Kd}{st:SortSt}{Q:Option Bool->SortSt->Prop},G p->G q->kindOf st=κ->(∀b,Q (some b) st)->wpS 14 A E s (lt' p q) Q st
def LX:Bool->Kd->Array Kd->Nat->Nat->Nat->StateT SortSt Sem (Option Nat):=sortPriv% PySem.Builtin.gallop
variable{κ:SortKind}{G:Kd->Prop}
def bu{arr:Array Kd}{p:Kd}{st:SortSt}{Q:Kd->SortSt->Prop}(h:arr[i]?\p)(hq:Q p st):wpS 14 A E s (elem' arr i) Q st:=by rw[elem'_eq,h];calc ξ hq
def aA{c:Prop}[Decidable c]{x y:StateT SortSt Sem α}{Q:α->SortSt->Prop}{st:SortSt}(h1:c->wpS 14 A E s x Q st)(h2:¬ c->wpS 14 A E s y Q st):wpS 14 A E s (if c then x else y) Q st:=by by_cases h:c;rw[ι h];calc h1 h;rw[θ h];calc h2 h
theorem Bk{lo hi:Nat}{st:SortSt}{f:Nat->StateT SortSt Sem (Option Bool)}{Q:Option (Option Nat)×Nat×Nat->SortSt->Prop}(hf:∀i<n,∀Q':Option Bool->SortSt->Prop,(∀b,Q' (some b) st)->wpS 14 A E s (f i) Q' st)(hlh:lo<=hi)(hn:hi<=n)(hq:∀k≤n,Q (none,k,k) st) :
  wpS 14 A E s (forIn [:n] (none,lo,hi) λ_ c=>if c.2.1 ≥ c.2.2 then pure (.done (none,c.2.1,c.2.2)) else do
   match <- f (c.2.1+(c.2.2-c.2.1) / 2) with
   |some more=>if more=true then pure (.yield (none,c.2.1+(c.2.2-c.2.1) / 2+1,c.2.2)) else pure (.yield (none,c.2.1,c.2.1+(c.2.2-c.2.1) / 2))
   |_=>pure (.done (some none,c.2.1,c.2.2))) Q st:=by
 show aac (I:=λx c bh=>bh=st/\∃lo hi,c=(none,lo,hi)/\lo<=hi/\hi<=n/\hi-lo<=n-x) ?_ ?_ #[9,lo,hi,9,hlh,hn,()];rintro x c bh _ hx ⟨rfl,lo,hi,rfl,hlh,hn,hm⟩;dsimp only;show aA (λz=>?_) λz=>μ (hf _ () _ λb=>aA (λ_=>?_) λ_=>?_);have e:lo=hi:=by lia
 subst e;calc ξ (hq lo hn);calc ξ #[9,_,_,9,(),hn,()];calc ξ #[9,_,_,9,(),(),()];rintro c bh ⟨rfl,lo,hi,rfl,hlh,hn,hm⟩;have e:lo=hi:=by lia
 subst e;calc hq lo hn
theorem dW(C:Cp prog w A E s κ G){left:Bool}{key:Kd}{arr:Array Kd}{base hint:Nat}{st:SortSt}{Q:Option Nat->SortSt->Prop}(hk:kindOf st=κ)(jm:G key)(hh:hint<n)(hB:∀i<n,∃p,arr[base+i]?\p/\G p)(hq:∀k≤n,Q (some k) st):wpS 14 A E s (LX left key arr base n hint) Q st:=by
 have Wn:∀i<n,∀Q':Option Bool->SortSt->Prop,(∀b,Q' (some b) st)->wpS 14 A E s (do let x <- elem' arr (base+i);if left then lt' x key else return (<- lt' key x).map (!·)) Q' st:=λi hi Q' h=>by
  let(p,e,g):=hB i hi;show μ (bu e ?_);cases left with
  |true=>calc C.lt g jm hk h
  |false=>exact μ (C.lt jm g hk λb=>ξ (h _))
 show μ (Wn hint hh _ λb=>aA (λ_=>?_) λ_=>?_);show μ (aax (aac (I:=λx c bh=>bh=st/\∃la o,c=(none,la,o)/\la<o/\x<o/\hint+la<n)
  (Q:=λc bh=>bh=st/\∃la o,c=(none,la,o)/\la<o/\hint+la<n) ?_ ?_ #[9,0,1,9,(),(),()]) ?_)
 rintro x c bh _ hx ⟨rfl,la,o,rfl,h1,h2,h3⟩;dsimp only;show aA (λz=>ξ #[9,la,o,9,h1,h3]) λz=>μ (Wn _ (by simp at z;lia) _ λb=>?_);cases b with
 |false=>calc ξ #[9,la,o,9,h1,h3]
 |true=>exact ξ #[9,o,2 * o+1,9,(),(),by simp at z;lia]
 rintro c bh ⟨rfl,la,o,rfl,h1,h2,h3⟩;calc#[9,la,o,9,h1,h3];rintro c bh ⟨rfl,la,o,rfl,h1,h3⟩;dsimp only;calc μ (Bk Wn () () λk hk=>ξ (hq k hk));show μ (aax (aac (I:=λx c bh=>bh=st/\∃la o,c=(none,la,o)/\la<o/\x<o/\la<=hint)
  (Q:=λc bh=>bh=st/\∃la o,c=(none,la,o)/\la<o/\la<=hint) ?_ ?_ #[9,0,1,9,(),(),()]) ?_)
 rintro x c bh _ hx ⟨rfl,la,o,rfl,h1,h2,h3⟩;dsimp only;show aA (λz=>ξ #[9,la,o,9,h1,h3]) λz=>μ (Wn _ () _ λb=>?_);cases b with
 |true=>calc ξ #[9,la,o,9,h1,h3]
 |false=>exact ξ #[9,o,2 * o+1,9,(),(),by simp at z;lia]
 rintro c bh ⟨rfl,la,o,rfl,h1,h2,h3⟩;calc#[9,la,o,9,h1,h3];rintro c bh ⟨rfl,la,o,rfl,h1,h3⟩;dsimp only;calc μ (Bk Wn () () λk hk=>ξ (hq k hk))
def LY(a:Array Kd)(i:Nat):Kd:=a[i]?.getD (.none,.none)
def at_{a:Array Kd}(h:i<a.size):a[i]?\LY a i:=by unfold LY;rw[getElem?_pos a i h];rfl
def dP{a:Array Kd}(h:i<a.size):LY a i∈a.toList:=by have:=at_ h;rw[<- D9] at this;calc eM this
theorem dE{a:Array Kd}{k:Nat}(h:i<=k):a.toList.drop i=(a.extract i k).toList++a.toList.drop k:=by
 rw[TJ,List.extract_eq_drop_take]
 conv=>lhs;rw[<- TC (k-i) (a.toList.drop i),List.drop_drop]
 congr 2;lia
theorem tE{a:Array Kd}{k:Nat}(h:k<=n):a.toList.take n=a.toList.take k++(a.extract k n).toList:=by
 rw[TJ,List.extract_eq_drop_take]
 conv=>lhs;rw[show n=k+(n-k) by lia,List.take_add]
def eE{a:Array Kd}:(a.extract i).toList=a.toList.drop i:=by rw[TJ,List.extract_eq_drop_take,Sx 4]
def eT{a:Array Kd}:(a.extract 0 n).toList=a.toList.take n:=by simp[List.extract_eq_drop_take]
def GR:Array Kd->Array Kd->StateT SortSt Sem (Array Kd):=sortPriv% PySem.Builtin.mergeLo
def GU:Array Kd->Array Kd->StateT SortSt Sem (Array Kd):=sortPriv% PySem.Builtin.mergeHi
structure Sm(st bh:SortSt):Prop where
 k:kindOf bh=kindOf st
 a:arrOf bh=arrOf st
 p:pendingOf bh=pendingOf st
 f:failedOf bh=failedOf st
variable{κ:SortKind}{G:Kd->Prop}
section
variable{a b out:Array Kd}{ia ib k:Nat}
def ML(a b out:Array Kd)(ia ib:Nat):Prop:=(out.toList++(a.toList.drop ia++b.toList.drop ib)).Perm (a.toList++b.toList)
def MH(a b out:Array Kd)(na nb:Nat):Prop:=(out.toList++(a.toList.take na++b.toList.take nb)).Perm (a.toList++b.toList)
def OK(a b r:Array Kd):Prop:=r.toList.Perm (a.toList++b.toList)
def ML.pa(M:ML a b out ia ib)(h:ia<=k):ML a b (out++a.extract ia k) k ib:=by unfold ML at *;rw[dE h] at M;simpa using M
def ML.pb(M:ML a b out ia ib)(h:ib<=k):ML a b (out++b.extract ib k) ia k:=by unfold ML at *;rw[dE h,<- vH (a.toList.drop ia)] at M;rw[B7,vH,<- vH (b.extract ib k).toList];calc ((OJ.append_right _).append_left _).trans M
def MH.pa(M:MH a b out ia ib)(h:k<=ia):MH a b (out++(a.extract k ia).reverse) k ib:=by unfold MH at *;rw[tE h] at M;rw[B7,vH,<- vH (a.extract k ia).reverse.toList,X9];calc (((List.Perm.append_right _ (Ye _)).trans OJ).append_right _ |>.append_left _).trans M
def MH.pb(M:MH a b out ia ib)(h:k<=ib):MH a b (out++(b.extract k ib).reverse) ia k:=by unfold MH at *;rw[tE h,<- vH (a.toList.take ia)] at M;rw[B7,vH,X9];calc (((Ye _).append_right _).trans OJ |>.append_left _).trans M
theorem mf(h:ia<a.size):out.push (LY a ia)=out++a.extract ia (ia+1):=by
 apply Array.toList_inj.mp;have e:(a.extract ia (ia+1)).toList=[LY a ia]:=by rw[TJ,List.extract_eq_drop_take,show ia+1-ia=1 by lia];unfold LY;rw[getElem?_pos a ia h,Tz (by simpa using h)];simp
 rw[B7,e,Array.toList_push]
theorem kR(h:ia-1<a.size)(h0:0<ia):out.push (LY a (ia-1))=out++(a.extract (ia-1) ia).reverse:=by have:=mf (out:=([].toArray)) h;rw[show ia-1+1=ia by lia,Array.empty_append] at this;rw[<- this];rfl
def ML.fin(M:ML a b out ia ib):OK a b (out++a.extract ia++b.extract ib):=by unfold OK;rw[B7,B7,eE,eE,vH];calc M
def ML.last(M:ML a b out ia ib):OK a b (out++b.extract ib++a.extract ia):=by unfold OK;rw[B7,B7,eE,eE,vH];calc (OJ.append_left _).trans M
def MH.fin(M:MH a b out ia ib):OK a b (a.extract 0 ia++b.extract 0 ib++out.reverse):=by unfold OK;rw[B7,B7,eT,eT,X9];calc (OJ.trans ((Ye _).append_right _)).trans M
def MH.last(M:MH a b out ia ib):OK a b (b.extract 0 ib++a.extract 0 ia++out.reverse):=by unfold OK;rw[B7,B7,eT,eT,X9];calc ((OJ.append_right _).trans (OJ.trans ((Ye _).append_right _))).trans M
end
structure In(G:Kd->Prop)(a b:Array Kd):Prop where
 ga:∀x∈a.toList,G x
 gb:∀x∈b.toList,G x
 a0:0<a.size
 b0:0<b.size
def Sm.of{st bh:SortSt}(h:Sm st bh){g:Nat}:Sm st (SortSt.mk' (kindOf bh) (arrOf bh) (pendingOf bh) g (failedOf bh)):=#[h.k,h.a,h.p,h.f]
def Bm{γ:Type}(jp:β->γ->StateT SortSt Sem α){x:StateT SortSt Sem α}{Q:α->SortSt->Prop}{st:SortSt}(h1:∀r m,wpS 14 A E s (jp r m) Q st)(h2:(∀r m,wpS 14 A E s (jp r m) Q st)->wpS 14 A E s x Q st):wpS 14 A E s x Q st:=h2 h1
def kS{γ δ:Type}(jp:β->γ->δ->StateT SortSt Sem α)(P:γ->δ->Prop){x:StateT SortSt Sem α}{Q:α->SortSt->Prop}{st:SortSt}(h1:∀r o i,P o i->wpS 14 A E s (jp r o i) Q st)(h2:(∀r o i,P o i->wpS 14 A E s (jp r o i) Q st)->wpS 14 A E s x Q st):wpS 14 A E s x Q st:=h2 h1
def GV{Y0 Y1 Y2 Y3 τ:Type}(st:SortSt)(D:Y0->Prop)(P P':Y1->Y2->Y3->Prop)(u6:ForInStep (Option Y0×Y1×Y2×Y3×τ))(bh:SortSt):Prop:=Sm st bh/\match u6 with
 |.done (some u6,_)=>D u6
 |.done (none,u1,u2,w,_)=>P' u1 u2 w
 |.yield (none,u1,u2,w,_)=>P u1 u2 w
 |.yield (some _,_)=>False
section
variable{Y0 Y1 Y2 Y3 τ:Type}{st bh:SortSt}{D:Y0->Prop}{P P':Y1->Y2->Y3->Prop}{u1:Y1}{u2:Y2}{u3:Y3}{u5:τ}
def GV.dn(hs:Sm st bh){u6:Y0}(h:D u6):GV (τ:=τ) st D P P' (.done (some u6,u1,u2,u3,u5)) bh:=#[hs,h]
def GV.ot(hs:Sm st bh)(h:P' u1 u2 u3):GV (τ:=τ) st D P P' (.done (none,u1,u2,u3,u5)) bh:=#[hs,h]
def GV.go(hs:Sm st bh)(h:P u1 u2 u3):GV (τ:=τ) st D P P' (.yield (none,u1,u2,u3,u5)) bh:=#[hs,h]
end
def jg{Y0 Y1 Y2 Y3 τ:Type}{f:Nat->Option Y0×Y1×Y2×Y3×τ->StateT SortSt Sem (ForInStep (Option Y0×Y1×Y2×Y3×τ))}{Q:Option Y0×Y1×Y2×Y3×τ->SortSt->Prop}{Vx st:SortSt}{u1:Y1}{u2:Y2}{u3:Y3}{u4:τ}(D:Y0->Prop)(P:Nat->Y1->Y2->Y3->Prop)(P':Y1->Y2->Y3->Prop)(hs:Sm st Vx)(h0:P 0 u1 u2 u3)(step:∀u5 u1 u2 u3 (u4:τ) bh,u5<n->Sm st bh->P u5 u1 u2 u3->wpS 14 A E s (f u5 (none,u1,u2,u3,u4)) (GV st D (P (u5+1)) P') bh)(fin:∀u1 u2 u3,P n u1 u2 u3->False)(q1:∀u6 d bh,Sm st bh->D u6->Q (some u6,d) bh)(q2:∀u1 u2 u3 u4 bh,Sm st bh->P' u1 u2 u3->Q (none,u1,u2,u3,u4) bh):wpS 14 A E s (forIn [:n] (none,u1,u2,u3,u4) f) Q Vx:=by
 show aax (aac (I:=λu5 c bh=>Sm st bh/\∃u1 u2 u3 u4,c=(none,u1,u2,u3,u4)/\P u5 u1 u2 u3) (Q:=λc bh=>Sm st bh/\((∃u6 d,c=(some u6,d)/\D u6)\/∃u1 u2 u3 u4,c=(none,u1,u2,u3,u4)/\P' u1 u2 u3)) ?_ ?_ #[hs,_,_,_,_,9,h0]) ?_
 . rintro u5 c nG _ hx ⟨hs,u1,u2,u3,u4,rfl,h⟩;show aax (step u5 u1 u2 u3 u4 nG hx hs h) λu6 sR h=>?_;let(h1,h2):=h
   match u6,h2 with
   |.done (some u6,_),h2=>calc#[h1,.inl #[_,_,9,h2]]
   |.done (none,_,_,_,_),h2=>calc#[h1,.inr #[_,_,_,_,9,h2]]
   |.yield (none,_,_,_,_),h2=>exact#[h1,_,_,_,_,9,h2]
 rintro c nG ⟨hs,u1,u2,u3,u4,rfl,h⟩;calc (fin u1 u2 u3 (by simpa using h)).elim;rintro c nG ⟨hs,⟨u6,d,rfl,h⟩|⟨u1,u2,u3,u4,rfl,h⟩⟩;calc q1 u6 d nG hs h;calc q2 u1 u2 u3 u4 nG hs h
structure JL(a b:Array Kd)(c:Nat)(o:Array Kd)(i j:Nat):Prop where
 M:ML a b o i j
 h1:i+1<a.size
 h2:j<b.size
 h3:c<=i+j
theorem Q1(C:Cp prog w A E s κ G){a b:Array Kd}{st:SortSt}{Q:Array Kd->SortSt->Prop}(hk:kindOf st=κ)(I:In G a b)(hq:∀out bh,OK a b out->Sm st bh->Q out bh):wpS 14 A E s (GR a b) Q st:=by
 have a0:=I.a0;have b0:=I.b0;have s0:Sm st st:=#[9,9,9,9];have M0:ML a b ([LY b 0].toArray) 0 1:=by
  have M:ML a b ([].toArray) 0 0:=by unfold ML;simp
  have:=M.pb (k:=0+1) ();rw[<- mf b0] at this;exact this
 show μ (wpS_lift (aah #[9,?_]));show μ (bu (at_ b0) (aA (λc1=>?_) λc1=>aA (λc2=>?_) λc2=>μ (wpS_get ?_)));calc ξ (hq _ _ (M0.fin) s0);calc ξ (hq _ _ (M0.last) s0);have c1:1<b.size:=by simp at c1;lia
 have c2:0+1<a.size:=by simp at c2;lia
 show μ (jg (OK a b) (λx=>JL a b x) (λ_ _ _=>False) s0 #[M0,c2,c1,e_ _] ?_ (λo i j J=>?_) (λr d bh hs hr=>ξ (hq r bh hr hs)) λ_ _ _ _ _ _ h=>h.elim)
 rotate_left
 have h1:=J.h1;have h2:=J.h2;have h3:=J.h3
 lia
 clear c1 c2 M0 s0 a0 b0;intro x out ia ib mg nG hx hs J;show μ (jg (OK a b) (λy=>JL a b (x+y)) (JL a b (x+1)) hs J ?_ (λo i j J=>?_) (λr d bh hs hr=>ξ (GV.dn hs hr)) ?_)
 . clear J hs;intro y out ia ib t nG hy hs J;have M:=J.M;have h1:=J.h1;have h2:=J.h2;have h3:=J.h3;dsimp only;show μ (bu (at_ h2) (μ (bu (at_ ()) (μ (C.lt (I.gb _ (dP h2)) (I.ga _ (dP ())) (hs.k.trans hk) λ_=>?_)))));show aA (λhw=>μ (bu (at_ h2) ?_)) λhw=>μ (bu (at_ ()) ?_)
   . have M1:=M.pb (k:=ib+1) ();rw[<- mf h2] at M1;show aA (λz=>?_) λz=>aA (λ_=>?_) λ_=>?_;exact ξ (.dn hs (M1.fin))
     all_goals have z:ib+1<b.size:=by simp at z;lia
     calc ξ (.ot hs #[M1,h1,z,()]);exact ξ (.go hs #[M1,h1,z,()])
   . have M1:=M.pa (k:=ia+1) ();rw[<- mf (show ia<a.size by lia)] at M1;show aA (λz=>?_) λz=>aA (λ_=>?_) λ_=>?_;exact ξ (.dn hs (M1.last))
     all_goals have z:ia+1+1<a.size:=by simp at z;lia
     calc ξ (.ot hs #[M1,z,h2,()]);exact ξ (.go hs #[M1,z,h2,()])
 have h1:=J.h1;have h2:=J.h2;have h3:=J.h3
 lia
 clear J hs;intro out ia ib t nG hs J;show μ (wpS_lift (aah #[9,?_]));show μ (jg (OK a b) (λy=>JL a b (x+1+y)) (JL a b (x+1)) hs J ?_ (λo i j J=>?_) (λr d bh hs hr=>ξ (GV.dn hs hr)) λo i j t bh hs J=>μ (aan (ξ (.go hs.of J))))
 rotate_left
 have h1:=J.h1;have h2:=J.h2;have h3:=J.h3
 lia
 clear J hs;intro y out ia ib t nG hy hs J;have h1:=J.h1;have h2:=J.h2;have h3:=J.h3;dsimp -zeta -zetaHave -zetaUnused only
 extract_lets -underBinder -merge +onlyGivenNames s0 o s1 i s2 j s3 m s4 p q jp
 subst s0 o s1 i s2 j s3 m s4 p q;show Bm jp (λ_ mg=>?_) λhj=>?_
 rotate_left
 clear_value jp
 calc aA (λ_=>hj _ _) λ_=>hj _ _;show μ (aan (μ (bu (at_ h2) (μ (dW C (base:=ia) (n:=a.size-ia) (hint:=0) (hs.k.trans hk) (I.gb _ (dP h2)) () (λi hi=>#[_,at_ (),I.ga _ (dP ())]) λk yY=>?_)))));clear jp;dsimp -zeta -zetaHave -zetaUnused only
 extract_lets -underBinder -merge +onlyGivenNames ac jp
 show kS jp (λo i=>JL a b (x+1+y) o i ib) ?_ λhj=>?_
 rotate_left
 clear_value jp
 have M1:=J.M.pa (k:=ia+k) ();show aA (λzk=>aA (λz1=>?_) λz1=>aA (λz2=>?_) λz2=>hj _ _ _ #[M1,by simp at z1 z2;lia,h2,()]) λzk=>hj _ _ _ J;calc ξ (.dn hs.of (M1.last));calc ξ (.dn hs.of (M1.fin));clear h1 h3 yY J;intro _ out ia J;have h1:=J.h1;have h3:=J.h3;have M2:=J.M.pb (k:=ib+1) ();rw[<- mf h2] at M2;show μ (bu (at_ h2) (aA (λz=>?_) λz=>?_));calc ξ (.dn hs.of (M2.fin));clear jp
 clear_value ac
 have z:ib+1<b.size:=by simp at z;lia
 show μ (bu (at_ ()) (μ (dW C (base:=ib+1) (n:=b.size-(ib+1)) (hint:=0) (hs.k.trans hk) (I.ga _ (dP ())) () (λi hi=>#[_,at_ (),I.gb _ (dP ())]) λk yY=>?_)));dsimp -zeta -zetaHave -zetaUnused only
 extract_lets -underBinder -merge +onlyGivenNames bc jp
 show kS jp (λo i=>JL a b (x+1+y+1) o ia i) ?_ λhj=>?_
 rotate_left
 clear_value jp
 have M3:=M2.pb (k:=ib+1+k) ();show aA (λzk=>aA (λz1=>?_) λz1=>hj _ _ _ #[M3,h1,by simp at z1;lia,()]) λzk=>hj _ _ _ #[M2,h1,z,()];calc ξ (.dn hs.of (M3.fin));clear h1 h2 h3 yY M2 z J;intro _ out ib J;have h1:=J.h1;have h2:=J.h2;have h3:=J.h3;have M4:=J.M.pa (k:=ia+1) ();rw[<- mf (show ia<a.size by lia)] at M4;show μ (bu (at_ ()) (aA (λz=>?_) λz=>aA (λ_=>?_) λ_=>?_));exact ξ (.dn hs.of (M4.last))
 all_goals have z:ia+1+1<a.size:=by simp at z;lia
 calc ξ (.ot hs.of #[M4,z,h2,()]);calc ξ (.go hs.of #[M4,z,h2,()])
structure JH(a b:Array Kd)(c:Nat)(na nb:Nat)(o:Array Kd):Prop where
 M:MH a b o na nb
 h1:0<na
 Bn:na<a.size
 h2:1<nb
 Ek:nb<=b.size
 h3:c+na+nb<a.size+b.size
theorem Q2(C:Cp prog w A E s κ G){a b:Array Kd}{st:SortSt}{Q:Array Kd->SortSt->Prop}(hk:kindOf st=κ)(I:In G a b)(hq:∀out bh,OK a b out->Sm st bh->Q out bh):wpS 14 A E s (GU a b) Q st:=by
 have a0:=I.a0;have b0:=I.b0;have s0:Sm st st:=#[9,9,9,9];have M0:MH a b ([LY a (a.size-1)].toArray) (a.size-1) b.size:=by
  have M:MH a b ([].toArray) a.size b.size:=by have e1:a.toList.take a.size=a.toList:=Sx 4;have e2:b.toList.take b.size=b.toList:=Sx 4;unfold MH;rw[e1,e2];simp
  have:=M.pa (k:=a.size-1) ();rw[<- kR () a0] at this;exact this
 show μ (wpS_lift (aah #[9,?_]));show μ (bu (at_ (show a.size-1<a.size by lia)) (aA (λc1=>?_) λc1=>aA (λc2=>?_) λc2=>μ (wpS_get ?_)));calc ξ (hq _ _ (M0.fin) s0);calc ξ (hq _ _ (M0.last) s0);have c1:0<a.size-1:=by simp at c1;lia
 have c2:1<b.size:=by simp at c2;lia
 show μ (jg (OK a b) (λx=>JH a b x) (λ_ _ _=>False) s0 #[M0,c1,(),c2,(),()] ?_ (λi j o J=>?_) (λr d bh hs hr=>ξ (hq r bh hr hs)) λ_ _ _ _ _ _ h=>h.elim)
 rotate_left
 have h3:=J.h3
 lia
 clear c1 c2 M0 s0 a0 b0;intro x na nb out mg nG hx hs J;show μ (jg (OK a b) (λy=>JH a b (x+y)) (JH a b (x+1)) hs J ?_ (λi j o J=>?_) (λr d bh hs hr=>ξ (GV.dn hs hr)) ?_)
 . clear J hs;intro y na nb out t nG hy hs J;have M:=J.M;have h1:=J.h1;have Bn:=J.Bn;have h2:=J.h2;have Ek:=J.Ek;have h3:=J.h3;dsimp only;show μ (bu (at_ ()) (μ (bu (at_ ()) (μ (C.lt (I.gb _ (dP ())) (I.ga _ (dP ())) (hs.k.trans hk) λ_=>?_)))));show aA (λhw=>μ (bu (at_ ()) ?_)) λhw=>μ (bu (at_ ()) ?_)
   . have M1:=M.pa (k:=na-1) ();rw[<- kR () h1] at M1;show aA (λz=>?_) λz=>aA (λ_=>?_) λ_=>?_;exact ξ (.dn hs (M1.fin))
     all_goals have z:0<na-1:=by simp at z;lia
     calc ξ (.ot hs #[M1,z,(),h2,Ek,()]);exact ξ (.go hs #[M1,z,(),h2,Ek,()])
   . have M1:=M.pb (k:=nb-1) ();rw[<- kR () ()] at M1;show aA (λz=>?_) λz=>aA (λ_=>?_) λ_=>?_;exact ξ (.dn hs (M1.last))
     all_goals have z:1<nb-1:=by simp at z;lia
     calc ξ (.ot hs #[M1,h1,Bn,z,(),()]);exact ξ (.go hs #[M1,h1,Bn,z,(),()])
 have h3:=J.h3
 lia
 clear J hs;intro na nb out t nG hs J;show μ (wpS_lift (aah #[9,?_]));show μ (jg (OK a b) (λy=>JH a b (x+1+y)) (JH a b (x+1)) hs J ?_ (λi j o J=>?_) (λr d bh hs hr=>ξ (GV.dn hs hr)) λo i j t bh hs J=>μ (aan (ξ (.go hs.of J))))
 rotate_left
 have h3:=J.h3
 lia
 clear J hs;intro y na nb out t nG hy hs J;have h1:=J.h1;have Bn:=J.Bn;have h2:=J.h2;have Ek:=J.Ek;have h3:=J.h3;dsimp -zeta -zetaHave -zetaUnused only
 extract_lets -underBinder -merge +onlyGivenNames s0 o s1 i s2 j s3 m s4 p q jp
 subst s0 o s1 i s2 j s3 m s4 p q;show Bm jp (λ_ mg=>?_) λhj=>?_
 rotate_left
 clear_value jp
 calc aA (λ_=>hj _ _) λ_=>hj _ _;show μ (aan (μ (bu (at_ (by change nb-1<b.size;lia)) (μ (dW C (base:=0) (n:=na) (hint:=na-1) (hs.k.trans hk) (I.gb _ (dP (i:=nb-1) ())) () (λi hi=>#[_,by rw[Nat.zero_add];calc at_ (),I.ga _ (dP ())]) λk yY=>?_)))));clear jp;dsimp -zeta -zetaHave -zetaUnused only
 extract_lets -underBinder -merge +onlyGivenNames kk ac jp
 show kS jp (λi o=>JH a b (x+1+y) i nb o) ?_ λhj=>?_
 rotate_left
 clear_value jp
 subst kk;have M1:=J.M.pa (k:=k) ();show aA (λzk=>aA (λz1=>?_) λz1=>hj _ _ _ #[M1,by simp at z1;lia,(),h2,Ek,()]) λzk=>hj _ _ _ J;calc ξ (.dn hs.of (M1.fin));clear h1 Bn h3 yY J;intro _ na out J;have h1:=J.h1;have Bn:=J.Bn;have h3:=J.h3;have M2:=J.M.pb (k:=nb-1) ();rw[<- kR () ()] at M2;show μ (bu (at_ (by change nb-1<b.size;lia)) (aA (λz=>?_) λz=>?_));calc ξ (.dn hs.of (M2.last));clear jp
 clear_value ac
 have z:1<nb-1:=by simp at z;lia
 show μ (bu (at_ (by change na-1<a.size;lia)) (μ (dW C (base:=0) (n:=nb-1) (hint:=nb-1-1) (hs.k.trans hk) (I.ga _ (dP (i:=na-1) ())) () (λi hi=>#[_,by rw[Nat.zero_add];calc at_ (),I.gb _ (dP ())]) λk yY=>?_)));dsimp -zeta -zetaHave -zetaUnused only
 extract_lets -underBinder -merge +onlyGivenNames kk bc jp
 show kS jp (λj o=>JH a b (x+1+y+1) na j o) ?_ λhj=>?_
 rotate_left
 clear_value jp
 subst kk;have M3:=M2.pb (k:=k) ();show aA (λzk=>aA (λz1=>?_) λz1=>aA (λz2=>?_) λz2=>hj _ _ _ #[M3,h1,Bn,by simp at z1 z2;lia,(),()]) λzk=>hj _ _ _ #[M2,h1,Bn,z,(),()];calc ξ (.dn hs.of (M3.last));calc ξ (.dn hs.of (M3.fin));clear h1 Bn h2 Ek h3 yY M2 z J;intro _ nb out J;have h1:=J.h1;have Bn:=J.Bn;have h2:=J.h2;have Ek:=J.Ek;have h3:=J.h3;have M4:=J.M.pa (k:=na-1) ();rw[<- kR () h1] at M4;show μ (bu (at_ (by change na-1<a.size;lia)) (aA (λz=>?_) λz=>aA (λ_=>?_) λ_=>?_));exact ξ (.dn hs.of (M4.fin))
 all_goals have z:0<na-1:=by simp at z;lia
 calc ξ (.ot hs.of #[M4,z,(),h2,Ek,()]);calc ξ (.go hs.of #[M4,z,(),h2,Ek,()])
variable{κ:SortKind}{G:Kd->Prop}
structure Kp(st bh:SortSt):Prop where
 k:kindOf bh=kindOf st
 p:pendingOf bh=pendingOf st
 f:failedOf bh=failedOf st
 m:(arrOf bh).Perm (arrOf st)
def Kp.refl(st:SortSt):Kp st st:=#[9,9,9,.refl _]
def Kp.trans{a b c:SortSt}(h:Kp a b)(g:Kp b c):Kp a c:=#[g.k.trans h.k,g.p.trans h.p,g.f.trans h.f,g.m.trans h.m]
def Kp.Wo{st:SortSt}:Kp st (setArr st (mirror (arrOf st) i j ((j-i) / 2))):=#[9,9,9,mirror_perm _ _ _ _]
structure Gd(κ:SortKind)(G:Kd->Prop)(st:SortSt):Prop where
 k:kindOf st=κ
 g:∀x∈(arrOf st).toList,G x
def Kp.gd{st bh:SortSt}(h:Kp st bh)(g:Gd κ G st):Gd κ G bh:=#[h.k.trans g.k,λx hx=>g.g x ((X0.mp h.m).mem_iff.mp hx)]
def o9(C:Cp prog w A E s κ G){st:SortSt}{Q:Option Bool->SortSt->Prop}(g:Gd κ G st)(hi:i<(arrOf st).size)(hj:j<(arrOf st).size)(h:∀b,Q (some b) st):wpS 14 A E s (ltAt' i j) Q st:=μ (wpS_get (μ (bu (at_ hi) (μ (bu (at_ hj) (C.lt (g.g _ (dP hi)) (g.g _ (dP hj)) g.k h))))))
def kU{st:SortSt}{Q:Unit->SortSt->Prop}(h:Q Unit.unit (setArr st (mirror (arrOf st) i j ((j-i) / 2)))):wpS 14 A E s (reverseSlice' i j) Q st:=by rw[reverseSlice'_eq];calc aan h
theorem Bo(C:Cp prog w A E s κ G){st:SortSt}{lo a kW:Nat}{Q:Option (Option Nat)×Nat->SortSt->Prop}(g:Gd κ G st)(hn:lo+kW<=(arrOf st).size)(ha:1<=a)(han:a<=kW)(h:∀n,a<=n->n<=kW->Q (none,n) st) :
  wpS 14 A E s (forIn [a:kW] (none,a) λ_ c=>do
   match <- ltAt' (lo+c.2) (lo+c.2-1) with
   |some z=>if z=true then pure (.done (none,c.2)) else pure (.yield (none,c.2+1))
   |_=>pure (.done (some none,c.2))) Q st:=by
 show aac (I:=λx c bh=>bh=st/\c=(none,x)) ?_ ?_ #[9,9];rintro x c bh hax hxn ⟨rfl,rfl⟩;calc μ (o9 C g () () λb=>aA (λ_=>ξ (h x hax ())) λ_=>ξ #[9,9]);rintro c bh ⟨rfl,rfl⟩;rw[show max a kW=kW by lia];calc h kW han (cv _)
theorem Dr(C:Cp prog w A E s κ G){st:SortSt}{lo kW:Nat}{Q:Option Nat->SortSt->Prop}(g:Gd κ G st)(hn:lo+kW<=(arrOf st).size)(h1:1<=kW)(h:∀m bh,Kp st bh->1<=m->m<=kW->Q (some m) bh):wpS 14 A E s (countRun' lo kW) Q st:=by
 show μ (Bo C g hn (cv 1) h1 λn Q3 Ul=>aA (λz=>ξ (h n st (Kp.refl _) Q3 Ul)) λz=>?_);have z:n≠kW:=by simpa using z
 show aA (λz2=>μ (o9 C g () () λb=>aA (λhc=>ξ (h n st (Kp.refl _) Q3 Ul)) λhc=>μ (kU ?_))) λz2=>?_
 case' _=>
  have K1:Kp st (setArr st (mirror (arrOf st) lo (lo+n) ((lo+n-lo) / 2))):=Kp.Wo
 rotate_left
 case' _=>
  obtain⟨nG,e,K1⟩:∃nG,nG=st/\Kp st nG:=#[st,9,Kp.refl _];rw[<- e]
 all_goals
  show μ (wpS_lift (aah #[9,?_]));show μ (aax (aac (I:=λx c bh=>∃Ju,c=(none,x,Ju)/\Kp st bh)
   (Q:=λc bh=>∃m Ju,c=(none,m,Ju)/\1<=m/\m<=kW/\Kp st bh) ?_ ?_ #[0,9,K1]) ?_)
  rintro x c bh hax hxn ⟨Ju,rfl,K2⟩;dsimp only;have sz:=K2.m.size_eq;show μ (o9 C (K2.gd g) () () λb=>aA (λhc=>?_) λhc=>μ (o9 C (K2.gd g) () () λb=>aA (λhd=>?_) λhd=>?_));calc aA (λ_=>μ (kU (ξ #[0,9,K2.trans Kp.Wo]))) λ_=>ξ #[0,9,K2];calc ξ #[x,Ju,9,(),(),K2];calc ξ #[Ju+1,9,K2];rintro c bh ⟨Ju,rfl,K2⟩;calc#[_,Ju,9,(),(),K2];rintro c sR ⟨m,Ju,rfl,LZ,hm2,K2⟩;dsimp only;show aA (λ_=>μ (kU (μ (kU ?_)))) λ_=>μ (kU ?_)
  case' _=>have K4:=(K2.trans (Kp.Wo (i:=lo+m-(Ju+1)) (j:=lo+m))).trans (Kp.Wo (i:=lo) (j:=lo+m))
  rotate_left
  case' _=>have K4:=K2.trans (Kp.Wo (i:=lo) (j:=lo+m))
  all_goals calc μ (Bo C (K4.gd g) (by rw[K4.m.size_eq];calc hn) LZ hm2 λk yY CI=>ξ (h k _ K4 () CI))
theorem L0(C:Cp prog w A E s κ G){st:SortSt}{lo ok:Nat}{Q:Bool->SortSt->Prop}(g:Gd κ G st)(hn:lo+n<=(arrOf st).size)(h:∀bh,Kp st bh->Q true bh):wpS 14 A E s (binarySort' lo n ok) Q st:=by
 show μ (aax (aac (I:=λk c bh=>c=(none,Unit.unit)/\Kp st bh) ?step (λ_ _ h=>h) #[9,Kp.refl _]) ?post)
 case post=>
  rintro c bh ⟨rfl,K⟩;exact ξ (h bh K)
 case step=>
  rintro k c bh hak xo ⟨rfl,K⟩;have sz:=K.m.size_eq;show μ (aax (aac (I:=λx c Ds=>Ds=bh/\∃l r,c=(none,l,r)/\l<=r/\r<=k)
   (Q:=λc Ds=>Ds=bh/\∃l r,c=(none,l,r)) ?_ ?_ #[9,0,k,9,(),()]) ?_)
  rintro x c Ds _ hxk ⟨rfl,l,r,rfl,hlr,hrk⟩;dsimp only;show aA (λz=>ξ #[9,l,r,9]) λz=>μ (o9 C (K.gd g) () () λb=>aA (λhc=>ξ #[9,l,(l+r) / 2,9,(),()]) λhc=>ξ #[9,(l+r) / 2+1,r,9,(),()]);rintro c Ds ⟨rfl,l,r,rfl,hlr,hrk⟩;calc#[9,l,r,9];rintro c Ds ⟨rfl,l,r,rfl⟩;calc μ (aan (ξ #[9,K.trans #[9,9,9,bubble_perm _ _ _]]))
def putL(a:Array Kd)(sa:Nat)(l:List Kd)(c:Nat):Array Kd:=(l.zipIdx c).foldl (λa (x:Kd×Nat)=>match x with|(p,j)=>a.setIfInBounds (sa+j) p) a
theorem o_:∀(l:List Kd)(a:Array Kd)(sa c:Nat),sa+c+l.length<=a.size->(putL a sa l c).toList=a.toList.take (sa+c)++(l++a.toList.drop (sa+c+l.length))
 |[],a,sa,c,_=>by simp[putL]
 |p::l,a,sa,c,h=>by
  rw[vI] at h;have hl:sa+c<a.toList.length:=by simp;lia
  change (putL (a.setIfInBounds (sa+c) p) sa l (c+1)).toList=_;rw[o_ l _ sa (c+1) (by simp;lia),Array.toList_setIfInBounds,List.set_eq_take_append_cons_drop,ι hl,show sa+(c+1)=sa+c+1 by lia,vI];have e1:(a.toList.take (sa+c)).length=sa+c:=by rw[Np];lia
  rw[List.take_append,List.drop_append,e1,show sa+c+1-(sa+c)=1 by lia,show sa+c+1+l.length-(sa+c)=l.length+1 by lia,List.drop_succ_cons,List.drop_drop,List.take_succ_cons,List.take_zero,Sx (),List.drop_of_length_le (),show sa+c+1+l.length=sa+c+(l.length+1) by lia];simp
def put(a:Array Kd)(sa:Nat)(b:Array Kd):Array Kd:=putL a sa b.toList 0
def GW{a b:Array Kd}{sa:Nat}(h:sa+b.size<=a.size):(put a sa b).toList=a.toList.take sa++(b.toList++a.toList.drop (sa+b.size)):=o_ b.toList a sa 0 h
theorem GX{xs m:Array Kd}{k sb e:Nat}(hkb:k<=sb)(Eb:sb<=e)(hsz:e<=xs.size)(hm:OK (xs.extract k sb) (xs.extract sb e) m):(put xs k m).Perm xs:=by
 have sm:m.size=e-k:=by
  have:=hm.length_eq;simp at this
  lia
 rw[X0,GW ()];have e0:xs.toList=xs.toList.take k++(((xs.extract k sb).toList++(xs.extract sb e).toList)++xs.toList.drop e):=by rw[vH,<- dE Eb,<- dE hkb,TC]
 rw[show k+m.size=e by lia]
 conv=>rhs;rw[e0]
 calc List.Perm.append_left _ (List.Perm.append_right _ hm)
def L1{f:SortSt}{Q:PUnit->SortSt->Prop}{st:SortSt}(h:Q #[] f):wpS 14 A E s (set f:StateT SortSt Sem PUnit) Q st:=by unfold wpS;rw[StateT.run_set];calc η #[9,h]
def GY{xs:Array Kd}{x:Kd}(h:x∈(xs.extract i j).toList):x∈xs.toList:=by rw[TJ,List.extract_eq_drop_take] at h;calc X8 (List.mem_of_mem_take h)
theorem xu(C:Cp prog w A E s κ G){st:SortSt}{sa na pa sb nb pb:Nat}{Q:Bool->SortSt->Prop}(g:Gd κ G st)(e1:(pendingOf st)[i]?\(sa,na,pa))(e2:(pendingOf st)[i+1]?\(sb,nb,pb))(hab:sb=sa+na)(hsz:sb+nb<=(arrOf st).size)(na0:0<na)(nb0:0<nb)(hf:failedOf st=none)(h:∀bh,kindOf bh=kindOf st->failedOf bh=none->pendingOf bh=((pendingOf st).setIfInBounds i (sa,na+nb,pa)).eraseIdxIfInBounds (i+1)->(arrOf bh).Perm (arrOf st)->Q true bh):wpS 14 A E s (mergeAt' i) Q st:=by
 show μ (wpS_get ?_);rw[e1,e2];show μ (L1 (μ (bu (at_ (show sb<(arrOf st).size by lia)) (μ (dW C (arr:=arrOf st) g.k (g.g _ (dP ())) na0 (λi hi=>#[_,at_ (),g.g _ (dP ())]) λk hk=>aA (λz=>ξ (h _ 9 hf 9 (.refl _))) λz=>?_)))));have zk:k<na:=by simp at z;lia
 show μ (bu (at_ (show sa+k+(na-k)-1<(arrOf st).size by lia)) (μ (dW C (arr:=arrOf st) g.k (g.g _ (dP ())) (show nb-1<nb by lia) (λi hi=>#[_,at_ (),g.g _ (dP ())]) λe he=>aA (λz=>ξ (h _ 9 hf 9 (.refl _))) λz=>?_)));have ze:0<e:=by simp at z;lia
 have I:In G ((arrOf st).extract (sa+k) sb) ((arrOf st).extract sb (sb+e)):=#[λx hx=>g.g _ (GY hx),λx hx=>g.g _ (GY hx),by simp;lia,by simp;lia];have fin:∀out bh,OK ((arrOf st).extract (sa+k) sb) ((arrOf st).extract sb (sb+e)) out->Sm (setPending st (((pendingOf st).setIfInBounds i (sa,na+nb,pa)).eraseIdxIfInBounds (i+1))) bh->Q true (setArr bh (put (arrOf bh) (sa+k) out))/\failedOf bh=none:=λout bh ho hs=>by have ea:arrOf bh=arrOf st:=hs.a;rw[ea];exact#[h _ hs.k (hs.f.trans hf) hs.p (GX () () () ho),hs.f.trans hf]
 show aA (λ_=>μ (Q1 C g.k I λout bh ho hs=>?_)) λ_=>μ (Q2 C g.k I λout bh ho hs=>?_)
 all_goals
  let(q,hn):=fin out bh ho hs;show μ (aan (μ (wpS_get (ξ ?_))));change Q (failedOf bh).isNone (setArr bh (put (arrOf bh) (sa+k) out));rw[hn];calc q
abbrev Pd:=Nat×Nat×Nat
def Rn:Nat->List Pd->Nat->Prop
 |a,[],b=>a=b
 |a,p::l,b=>p.1=a/\0<p.2.1/\Rn (a+p.2.1) l b
theorem Rn.app:∀{l l':List Pd}{a b:Nat},Rn a (l++l') b↔∃c,Rn a l c/\Rn c l' b
 |[],l',a,b=>#[λh=>#[a,9,h],λ#[c,e,h]=>by cases (show a=c from e);calc h]
 |p::l,l',a,b=>by constructor;rintro⟨h1,h2,h4⟩;let(c,h5,h6):=Rn.app.mp h4;calc#[c,#[h1,h2,h5],h6];rintro⟨c,⟨h1,h2,h5⟩,h6⟩;calc#[h1,h2,Rn.app.mpr #[c,h5,h6]]
theorem Rn.le:∀{l:List Pd}{a b:Nat},Rn a l b->a+l.length<=b
 |[],a,b,h=>by have h:a=b:=h;simp;lia
 |p::l,a,b,#[_,h1,h2]=>by have:=h2.le;simp;lia
structure St(κ:SortKind)(G:Kd->Prop)(a₀:Array Kd)(lo:Nat)(st:SortSt):Prop where
 gd:Gd κ G st
 fl:failedOf st=none
 pm:(arrOf st).Perm a₀
 rn:Rn 0 (pendingOf st).toList lo
theorem zh{l:List Pd}(h:i+1<l.length):∃l1 x y l2,l=l1++x::y::l2/\l1.length=i:=by show#[l.take i,l[i],l[i+1],l.drop (i+2),?_,by rw[Np];lia];rw[<- Tz,<- Tz,TC]
theorem Wq{l1 l2:List Pd}{x y v:Pd}:((l1++x::y::l2).set l1.length v).eraseIdx (l1.length+1)=l1++v::l2:=by rw[List.set_append_right _ _ (cv _),Nat.sub_self,List.eraseIdx_append_of_length_le (),show l1.length+1-l1.length=1 by lia];rfl
theorem rV(C:Cp prog w A E s κ G){a₀:Array Kd}{lo:Nat}{st:SortSt}{Q:Bool->SortSt->Prop}(S:St κ G a₀ lo st)(Z5:lo<=a₀.size)(hi:i+1<(pendingOf st).size)(h:∀bh,St κ G a₀ lo bh->(pendingOf bh).size+1=(pendingOf st).size->Q true bh):wpS 14 A E s (mergeAt' i) Q st:=by
 let(l1,(sa,na,pa),(sb,nb,pb),l2,el,e1):=zh (l:=(pendingOf st).toList) (by simpa using hi);subst e1;have R:=S.rn;rw[el] at R;let(c,R1,e2,h2,e4,h5,R2):=Rn.app.mp R;simp only at e2 h2 e4 h5 R2;subst e2 e4;have hl:=R2.le;have sz:=S.pm.size_eq;have g1:(pendingOf st)[l1.length]?\(sa,na,pa):=by rw[<- D9,el,sM (cv _),Nat.sub_self];rfl
 have g2:(pendingOf st)[l1.length+1]?\(sa+na,nb,pb):=by rw[<- D9,el,sM (),show l1.length+1-l1.length=1 by lia];rfl
 show xu C S.gd g1 g2 9 () h2 h5 S.fl λbh k1 k2 k3 k4=>?_;have ep:(pendingOf bh).toList=l1++(sa,na+nb,pa)::l2:=by rw[k3,Array.toList_eraseIdxIfInBounds,Array.toList_setIfInBounds,el,Wq]
 show h bh #[#[k1.trans S.gd.k,λx hx=>S.gd.g x ((X0.mp k4).mem_iff.mp hx)],k2,k4.trans S.pm,?_] ?_;rw[ep];calc Rn.app.mpr #[sa,R1,9,Nat.add_pos_left h2 _,by rw[<- Nat.add_assoc];calc R2];have e1:(pendingOf bh).size=(pendingOf bh).toList.length:=by simp
 have e2:(pendingOf st).size=(pendingOf st).toList.length:=by simp
 rw[e1,e2,ep,el];simp
 lia
theorem Rn.md{f:Pd->Pd}(h1:∀p,(f p).1=p.1)(h2:∀p,(f p).2.1=p.2.1):∀{l:List Pd}{i a b:Nat},Rn a l b->Rn a (l.modify i f) b
 |[],i,a,b,h=>by rw[List.modify_nil];calc h
 |p::l,0,a,b,#[e1,e2,e4]=>#[(h1 p).trans e1,by rw[h2];calc e2,by rw[h2];calc e4]
 |p::l,i+1,a,b,#[e1,e2,e4]=>#[e1,e2,e4.md h1 h2]
theorem GZ(C:Cp prog w A E s κ G){a₀:Array Kd}{st:SortSt}{Q:Unit->SortSt->Prop}(S:St κ G a₀ 0 st)(h2:2<=a₀.size)(h:∀bh,(arrOf bh).Perm a₀->failedOf bh=none->Q Unit.unit bh):wpS 14 A E s sortRuns' Q st:=by
 show μ (wpS_get ?_);dsimp only;rw[show (arrOf st).size=a₀.size from S.pm.size_eq];show μ (aax (aac (I:=λx c bh=>∃lo,c=(none,lo)/\x<=lo/\lo<=a₀.size/\St κ G a₀ lo bh) (Q:=λc bh=>∃lo,c=(none,lo)/\St κ G a₀ a₀.size bh) ?step ?fin #[0,9,cv _,e_ _,S]) ?post)
 case fin=>
  rintro c bh ⟨lo,rfl,h3,h4,S'⟩;have e:lo=a₀.size:=by lia
  subst e;exact#[_,9,S']
 case post=>
  rintro c bh ⟨lo,rfl,S'⟩;show μ (aax (aac (I:=λx c bh=>c=(none,Unit.unit)/\St κ G a₀ a₀.size bh) ?_ (λ_ _ h=>h) #[9,S']) ?_);rintro x c nG _ hx ⟨rfl,S1⟩;show μ (wpS_get (aA (λz=>ξ #[9,S1]) λz=>?_));have hi:∀c [Decidable c],(if c then (pendingOf nG).size-2-1 else (pendingOf nG).size-2)+1<(pendingOf nG).size:=λc _=>by have z:¬ (pendingOf nG).size<=1:=z;split<;>lia
  calc μ (rV C S1 (cv _) (hi _) λsR S2 p2=>aA (λz=>by simp at z) λ_=>ξ #[9,S2]);rintro c nG ⟨rfl,S1⟩;exact ξ (h nG S1.pm S1.fl)
 case step=>
  rintro x c nG _ hx ⟨lo,rfl,h3,h4,S1⟩;have sz:=S1.pm.size_eq;show aA (λz=>?_) λz=>μ (Dr C S1.gd () () λm sR K2 m1 m2=>?_);have e:lo=a₀.size:=by lia
  subst e;calc ξ #[_,9,S1];have S2:St κ G a₀ lo sR:=#[K2.gd S1.gd,K2.f.trans S1.fl,K2.m.trans S1.pm,by rw[K2.p];calc S1.rn];have sz2:=S2.pm.size_eq;show aA (λzm=>μ (wpS_lift (aah #[9,μ (L0 C S2.gd () λPh K3=>?_)]))) λzm=>?_
  case' _=>
   have S3:St κ G a₀ lo Ph:=#[K3.gd S2.gd,K3.f.trans S2.fl,K3.m.trans S2.pm,by rw[K3.p];calc S2.rn];have n0:0<min (a₀.size-lo) ((sortPriv% PySem.Builtin.minRun) a₀.size a₀.size 0):=by lia
   have n1:lo+min (a₀.size-lo) ((sortPriv% PySem.Builtin.minRun) a₀.size a₀.size 0)<=a₀.size:=by lia
  rotate_left
  case' _=>
   have S3:=S2;have n0:=m1;have n1:lo+m<=a₀.size:=by lia
  all_goals
   have push:∀{n bh},0<n->St κ G a₀ lo bh->St κ G a₀ (lo+n) (setPending bh ((pendingOf bh).push (lo,n,0))):=λ{n bh} n0 S'=>#[#[S'.gd.k,S'.gd.g],S'.fl,S'.pm,by
    rw[Array.toList_push];calc Rn.app.mpr #[lo,S'.rn,9,n0,9]]
   show μ (wpS_get ?_);split;show μ (aax (aac (I:=λ_ c bh=>c=(none,Unit.unit)/\St κ G a₀ lo bh) ?_ (λ_ _ hh=>hh) #[9,S3]) ?_);rintro y c Q5 _ _ ⟨rfl,S4⟩;show μ (wpS_get ?_);by_cases zp:(pendingOf Q5).size > 1;rw[ι zp,getElem?_pos (pendingOf Q5) _ (show (pendingOf Q5).size-2<(pendingOf Q5).size by lia)];calc aA (λ_=>ξ #[9,S4]) λ_=>μ (rV C S4 h4 (show (pendingOf Q5).size-2+1<(pendingOf Q5).size by lia) λNy S5 _=>aA (λz=>by simp at z) λ_=>ξ #[9,S5]);rw[θ zp];calc ξ #[9,S4];rintro c Q5 ⟨rfl,S4⟩;show μ (aan (μ (aan (ξ #[_,9,(),n1,push n0 #[#[S4.gd.k,S4.gd.g],S4.fl,S4.pm,?_]]))));rw[Array.toList_modify];calc S4.rn.md (by calc λ_=>rfl) (by calc λ_=>rfl);calc μ (aan (ξ #[_,9,(),n1,push n0 S3]))
end SP
namespace TP
open PySem PySem.Spec PyProof.Rows L2 VT TS
section
def Th(b:Bool)(z:Value):Prop:=if b=true then E2 λy t=>z=.str y t else E2 λk t=>z=.int k t
structure L3(Tr:Array Value->Prop):Prop where
 sc:∀a b,Tr a->Tr b->∀e∈a.toList.zip b.toList,Sc e.1 e.2
 z:∀a,Tr a->∃i t,a[0]?\.int i t
def Tr3(b:Bool)(aN:Array Value):Prop:=E5 λi x t1 t2 z=>aN=([.int i t1,.str x t2,z].toArray)/\Th b z
def Wr{b:Bool}{y z:Value}(h1:Th b y)(h2:Th b z):Sc y z:=by
 cases b with
 |true=>let(_,_,rfl):=h1;let(_,_,rfl):=h2;calc .str _ _ _ _
 |false=>let(_,_,rfl):=h1;let(_,_,rfl):=h2;calc .int _ _ _ _
def Q6(b:Bool):L3 (Tr3 b):=#[λa c #[i,x,t1,t2,z,ea,tz] #[i',x',u1,u2,z',eb,tz'] e he=>by
 subst ea;subst eb;simp only[Nn,List.zip_nil_right,cY,eG,fv] at he;obtain rfl|rfl|rfl:=he
 calc .int _ _ _ _;calc .str _ _ _ _;calc Wr tz tz',λa #[i,x,t1,t2,z,ea,tz]=>by subst ea;calc#[i,t1,9]]
variable{Tr:Array Value->Prop}
theorem N_{l:Addr}{vs:qag}{P:Fin->Shared->Prop}(T:L3 Tr)(hl:s.heap.get? l\seqObj "list" vs.toArray ep)(YS:vs.length<=100000)(ht:∀g:Heap,(∀b o,b≠l->s.heap.get? b\o->g.get? b\o)->∀v∈vs,∃aN,TupAt g v aN/\Tr aN)(h:∀out:Array Value,out.toList.Perm vs->P (.done (.ret .none)) {s with heap:=sortedHeap 50 l vs out}) :
  wpAny 14 A (Builtin.«list.sort» #[[.ref l],[]]) P E s:=by
 have c8:l<8:=dz hl;have Ws:vs.length<=sizeLine:=by rw[π];lia
 rw[list_sort_plain];show ζ (listItems_at hl 9 (ζ (listUpdate_at hl 9 ?_)));obtain⟨e1,g1⟩:∃e1,(s.heap.update l (Obj.mapSeq λ_=>([].toArray))).get? l\seqObj "list" ([].toArray) e1:=#[_,get?_update_seq hl _];show ζ (seqEpoch_at g1 9 (ζ (wpAny_newTuple (ζ (wpAny_newList (v9 ?_))) (by simpa using Ws))));change wpAny 14 A _ P E {s with heap:=((s.heap.update l (Obj.mapSeq λ_=>([].toArray))).push (seqObj "tuple" vs.toArray 0)).push (seqObj "list" ([].toArray) 0)};generalize hg:((s.heap.update l (Obj.mapSeq λ_=>([].toArray))).push (seqObj "tuple" vs.toArray 0)).push (seqObj "list" ([].toArray) 0)=g;have g2:g.get? l\seqObj "list" ([].toArray) e1:=by subst hg;exact c9 _ (c9 _ g1)
 have old:∀b o,b≠l->s.heap.get? b\o->g.get? b\o:=λb o hb e=>by subst hg;show c9 _ (c9 _ ?_);rw[X' _ _ _ _ hb];exact e
 have j8:=ht g old;have out:∀xs:Array Keyed,xs.Perm (pairsOf vs)->P (.done (.ret .none)) {s with heap:=g.update l (Obj.mapSeq λ_=>xs.map (·.2))}:=λxs hp=>by have:=h (xs.map (·.2)) (GP hp);unfold sortedHeap at this;rw[hg] at this;exact this
 have osz:∀xs:Array Keyed,xs.Perm (pairsOf vs)->(xs.map (·.2)).size<=sizeLine:=λxs hp=>by rw[Array.size_map,hp.size_eq,pairsOf_size];exact Ws
 dsimp only;by_cases h2:vs.toArray.size<2;rw[ι h2,ι h2];show ζ (η ?_);rw[StateT.run_pure];show ζ (η ?_);show ζ (seqEpoch_at g2 9 (ζ (listUpdate_at g2 9 ?_ (hsz2:=Nat.le_succ_of_le (osz (pairsOf vs) (Array.Perm.refl _))))));simp only[bne_self_eq_false,Bool.false_eq_true,aaJ];calc η (out (pairsOf vs) (Array.Perm.refl _));rw[θ h2,θ h2];have qI:2<=vs.length:=by rw[iD] at h2;lia
 have kd:∀Q:SortKind->Shared->Prop,Q (tuples' true) {s with heap:=g}->wpAny 14 A (keyKind' vs.toArray) Q E {s with heap:=g}:=λQ hq=>by show GQ (by rintro rfl;simp at qI) (λv hv=>?_) hq;let(aN,ta,tr):=j8 v hv;let(i,t,e):=T.z _ tr;exact#[_,_,_,ta,e]
 have cm:SP.Cp prog w A E {s with heap:=g} (tuples' true) (λp=>p.1∈vs):=#[λ{p q st Q} hp hq hk h=>by rw[lt'_eq];show μ (wpS_get ?_);rw[hk];let(xs,ta,tx):=j8 _ hp;let(ys,tb,ty):=j8 _ hq;calc μ (wpS_lift (aap (LW (s:={s with heap:=g}) ta tb (T.sc _ _ tx ty) true λb=>#[9,ξ (h b)])))]
 show ζ (kd _ ?_);show ζ (Ψ (SP.GZ (a₀:=pairsOf vs) (st:=SortSt.mk' (tuples' true) (vs.toArray.zip vs.toArray) ([].toArray) 07 none) (Q:=λ_ bh=>(arrOf bh).Perm (pairsOf vs)/\failedOf bh=none) cm #[#[9,λp hp=>?_],9,Array.Perm.refl _,9] (by rw[pairsOf_size];calc qI) λbh p1 p2=>#[p1,p2]) ?_ λ_ _ z=>z);have hp:p∈(pairsOf vs).toList:=hp;rw[pairsOf_toList] at hp;calc (mem_zip_self hp).2;rintro⟨⟨⟩,bh⟩ s' ⟨rfl,hp,hf⟩;dsimp only;show ζ (seqEpoch_at g2 9 (ζ (listUpdate_at g2 9 ?_ (hsz2:=Nat.le_succ_of_le (osz _ hp)))));rw[hf];simp only[bne_self_eq_false,Bool.false_eq_true,aaJ];calc η (out _ hp)
theorem zz(T:L3 Tr){l:Addr}{vs:qag}(hl:s.heap.IsList l vs.toArray)(YS:vs.length<=100000)(ht:∀v∈vs,∃aN,TupAt 50 v aN/\Tr aN)(h:∀out:Array Value,out.toList.Perm vs->Q (.ref 36) {s with heap:=sortedAll 50 vs out}) :
  wpAny 14 A (call (.builtin "sorted") [.ref l]) Q E s:=by
 have Ws:vs.length<=sizeLine:=by rw[π];lia
 show Calls.call_function_entry kind_sorted plain_sorted entry_sorted (args_sorted1 _) ?_;unfold Builtin.«sorted»;show ζ (m:=checkCount "sorted" 1 1 _) (η ?_);show ζ (collect_list hl ?_ Ws);have hz:((s.heap.push (seqObj "list" ([].toArray) 0)).update 8 (Obj.mapSeq (·++vs.toArray))).objs.size=8+1:=by rw[Heap.size_update,size_push']
 have old:∀b o,s.heap.get? b\o->(((s.heap.push (seqObj "list" ([].toArray) 0)).update 8 (Obj.mapSeq (·++vs.toArray))).push (seqObj "list" vs.toArray 0)).get? b\o:=λb o e=>by show c9 _ ?_;rw[X' _ _ _ _ (gf (dz e))];exact c9 _ e
 show ζ (wpAny_newList ?_ Ws);have ho:(((s.heap.push (seqObj "list" ([].toArray) 0)).update 8 (Obj.mapSeq (·++vs.toArray))).push (seqObj "list" vs.toArray 0)).get? 36\seqObj "list" vs.toArray 0:=by rw[<- hz];exact gU _ 9
 change wpAny _ _ _ _ _ {s with heap:=((s.heap.push (seqObj "list" ([].toArray) 0)).update 8 (Obj.mapSeq (·++vs.toArray))).push (seqObj "list" vs.toArray 0)};rw[hz];have adg:∀g:Heap,(∀b o,b≠8+1->(((s.heap.push (seqObj "list" ([].toArray) 0)).update 8 (Obj.mapSeq (·++vs.toArray))).push (seqObj "list" vs.toArray 0)).get? b\o->g.get? b\o)->∀v∈vs,∃aN,TupAt g v aN/\Tr aN:=λg hg v hv=>by let(aN,(a,o,n,rfl,e,c,d),tz):=ht v hv;exact#[aN,#[a,o,n,9,hg a o (gf (Jk (dz e))) (old a o e),c,d],tz]
 calc ζ (v9 (χ slot_list_sort #[_,ho,9] entry_list_sort (N_ T ho YS (λg hg=>adg g hg) λout hp=>#[_,9,η #[_,9,h out hp]]) (args_list_sort _)))
end
def Tv(b:Bool)(v:V):Prop:=if b=true then ∃y,v=.str y else ∃k,v=.int k
def kX(b:Bool):cV X (.builtin "sorted") (λxs H Q=>∃(p:Addr)(ws:qak),xs=[.ref p]/\fQ X.K H p ws/\ws.length<=100000/\(∀w∈ws,∃a i x z,w=.ref a/\dJ X.K H a [.int i,.str x,z]/\Tv b z)/\∀zs:qak,zs.Perm ws->∀a,H a=none->Q (.ref a) (upd H a (.lst zs))):=by
 intro ε s σ H xs us Q I r h;let(p,ws,rfl,hq,hl,ht,q):=h;let(u,rfl,ru):=vals1 r;cases ru;let(aN,rv,pl,hz):=I.list hq;have e:=rv.length;show zz (Q6 b) pl.isList () (λv hv=>?_) λout hp=>?_;let(i,hi,rfl):=List.mem_iff_getElem.mp hv;have hw:ws[i]?\ws[i]'():=f_ _;let(u,hu,ru):=rv.get hw;rw[f_ hi] at hu;cases hu;let(a,j,x,z,eb,hb,hz'):=ht _ (B8 (by lia:i<ws.length));rw[eb] at ru;have eu:aN[i]=.ref a:=ru;rw[eu];let(ps,pv,(o,ho,hc,n,hd),_):=I.tuple hb;cases pv with
 |cons r1 pv=>cases pv with
  |cons r2 pv=>cases pv with
   |cons r3 pv=>
    cases pv;let(t1,rfl):=r1;let(t2,rfl):=r2;show#[_,#[a,o,n,9,ho,hc,hd],j,x,t1,t2,_,9,?_];cases b with
    |true=>let(y,rfl):=hz';let(t3,rfl):=r3;calc#[_,_,9]
    |false=>let(y,rfl):=hz';let(t3,rfl):=r3;exact#[_,_,9]
 let(zs,p1,p2):=rT hp rv;show xi I p2 ?_ (q zs p1);rw[p1.length_eq];calc hz
def Tt(b:Bool)(t:T):Prop:=if b=true then ∃y,t=.str y else ∃k,t=.int k
def adh(b:Bool)(t:T):Prop:=E3 λi x z=>t=.tup [.int i,.str x,z]/\Tt b z
def G0(b:Bool)(ts:Φ)(q:qam):Prop:=∃rows:Φ,ts=[.lst rows]/\rows.length<=100000/\(∀t∈rows,adh b t)/\∀zs:Φ,zs.Perm rows->q (.fr (.lst zs))
def mR(b:Bool):iN K (λxs H Q=>∃(p:Addr)(ws:qak),xs=[.ref p]/\fQ K H p ws/\ws.length<=100000/\(∀w∈ws,∃a i x z,w=.ref a/\dJ K H a [.int i,.str x,z]/\Tv b z)/\∀zs:qak,zs.Perm ws->∀a,H a=none->Q (.ref a) (upd H a (.lst zs))) (G0 b):=by
 intro Z tm O ρ σ H ts vs q Q I h hp k;let(rows,rfl,hl,hr,hq):=hp;let(v,rfl,a):=cx h;let(p,ws,rfl,hs,hv):=a.lst;have e:=hv.length;show#[p,ws,9,hs,(),λw hw=>?_,λzs h1 b hb=>?_];let(t,ht,at'):=xt hv w hw;let(i,x,z,rfl,hz):=hr t ht;let(a,us,rfl,h2,h3):=gB.tup (.inl at');simp only[aB,At] at h3;let(_,_,rfl,rfl,_,_,rfl,rfl,v3,_,rfl,h4,rfl):=h3;show#[a,i,x,v3,9,h2,?_];cases b with
 |_=>let(y,rfl):=hz;simp only[At] at h4;exact#[y,h4]
 let(us,p1,p2):=xr h1 hv;calc k _ (hq us p1) _ _ (aE hb) (I.wg hb p2)
end TP
namespace PySem
open Sem (wp)
section
variable{d:Addr}{es:Array DictEntry}
def fB(hm:(d==sysModules)=false)(ho:s.heap.get? d\o)(hc:o.cls=.type "dict")(hd:o.data=.dict es ep)(hQ:Q 32 {s with heap:=s.heap.push {cls:=.type "dict_keyiterator",data:=.fields ([.ref d,.int 0 0,.int es.size 0,.int ep 0].toArray)} }):wpAny 14 A (pyIter (.ref d)) Q E s:=by have hT:s.TypeIs (.ref d) "dict":=#[o,ho,hc];show wpAny_pyIter_slot hT PySem.F.slot_dict_iter (χ PySem.F.slot_dict_iter hT PySem.F.entry_dict_iter (ζ ?_) (PySem.F.args_dict_iter_1 _));unfold Builtin.Dict.dictSlotNone Builtin.Dict.notOrdered;show ζ (ζ (aam hT (η (η (ζ (η ?_))))));unfold Builtin.Dict.showsAll;rw[θ (by rw[hm];decide)];show ζ (η (ζ (aak ho hd (ζ (aao ho hd (ζ (Δ (η #[_,9,"dict_keyiterator",_,#[_,gU _ 9,9],Sv.lookup,?_]))))))));calc hQ
theorem fD{Q:(Option Value)->Shared->Prop}(hit:s.heap.IsKeyIter it d i es.size ep)(ho:s.heap.get? d\o)(hd:o.data=.dict es ep){e:DictEntry}(he:es[i]?\e)(h:∀h',h'.IsKeyIter it d (i+1) es.size ep->Heap.SameBut it 50 h'->Q (some e.key) {s with heap:=h'}):wpAny 14 A (pyNext (.ref it)) Q E s:=by
 let(oi,Tc,hci,Q7):=id hit;show ζ (aap (Γ hit.typeIs Sv
  (χ Sv hit.typeIs PySem.F.entry_dict_keyiterator_next ?_ (PySem.F.args_dict_keyiterator_next_1 _))))
 wp_delta
 show ζ (ζ (η (η ?_)));have hT:=hit.typeIs;show ζ ?_
 wp_delta
 show ζ ?_
 wp_delta
 show ζ (aae hT (η (ζ (aaG Tc Q7 ?_))));change wpAny _ _ (if (Value.ref d==Value.none)=true then _ else _) _ _ _;show ζ (η (ζ (aak ho hd ?_)));rw[θ 4];show ζ (η (ζ (aao ho hd ?_)));rw[θ 4];show η ?_;dsimp only;rw[θ (),show ((i:Int)).toNat=i from j6 i,he];dsimp only;show ζ ?_
 wp_delta
 show ζ (aae hT (η (ζ (wpAny_isOneOf_keyiter hT ?_))));rw[θ 23];show ζ (aaw Tc Q7 4 ?_);have g1:=Heap.get?_update_self (Obj.mapFields (·.setIfInBounds (0+1) (rawInt ((i:Int)+1)))) Tc (Obj.isFreed_of_fields (Yd Q7 _));have K8:(s.heap.update it (Obj.mapFields (·.setIfInBounds (0+1) (rawInt ((i:Int)+1))))).IsKeyIter it d (i+1) es.size ep :=
  #[_,g1,(Obj.cls_mapFields ..).trans hci,by rw[Yd Q7];simp[rawInt]]
 show ζ (v9 ?_)
 wp_delta
 calc ζ (wpAny_isOneOf_keyiter K8.typeIs (η (η #[_,9,η (h _ K8 (TK ..))])))
theorem dQ{Q:(Option Value)->Shared->Prop}(hh:A.handled=none)(hit:s.heap.IsKeyIter it d i es.size ep)(ho:s.heap.get? d\o)(hd:o.data=.dict es ep)(he:es[i]?=none)(h:∀h',Heap.ExtBut it 50 h'->Q none {s with heap:=h'}):wpAny 14 A (pyNext (.ref it)) Q E s:=by
 let(oi,Tc,hci,Q7):=id hit;show ζ (aap (Γ hit.typeIs Sv
  (χ Sv hit.typeIs PySem.F.entry_dict_keyiterator_next ?_ (PySem.F.args_dict_keyiterator_next_1 _))))
 wp_delta
 show ζ (ζ (η (η ?_)));have hT:=hit.typeIs;show ζ ?_
 wp_delta
 show ζ ?_
 wp_delta
 show ζ (aae hT (η (ζ (aaG Tc Q7 ?_))));change wpAny _ _ (if (Value.ref d==Value.none)=true then _ else _) _ _ _;show ζ (η (ζ (aak ho hd ?_)));rw[θ 4];show ζ (η (ζ (aao ho hd ?_)));rw[θ 4];show η ?_;dsimp only;rw[θ (),show ((i:Int)).toNat=i from j6 i,he];dsimp only;show ζ ?_
 wp_delta
 show ζ (aae hT (η ?_));rw[θ 23];show ζ (aaw Tc Q7 4 (ζ (ζ (m:=firstArgMember _ _) (aaA (by first|rfl|(simp only[firstArgMember];rfl)) (Δ (ζ (wpAny_handled ?_)) (by size_fits))))));rw[show A.in1.handled=none from hh];show ζ (η (wpAny_throw ?_));show ζ (aaz #[_,gU _ 9,9] isSubtype_stop ?_);calc η (h _ (((TK ..).extBut.push _).push _))
def f6(hit:s.heap.IsKeyIter it d i n ep)(hQ:Q (.ref it) s):wpAny 14 A (pyIter (.ref it)) Q E s:=wpAny_pyIter_slot hit.typeIs PySem.F.slot_dict_keyiterator_iter (χ PySem.F.slot_dict_keyiterator_iter hit.typeIs PySem.F.entry_dict_keyiterator_iter (η #[_,9,"dict_keyiterator",_,hit.typeIs,Sv.lookup,hQ]) (PySem.F.args_dict_keyiterator_iter_1 _))
end
end PySem
namespace VT
open PySem PySem.Spec PyProof.Rows L2
def nH(o:Obj)(i:Nat):Addr:=match o.data with
 |.dict es _=>match es[i]? with
  |some e=>match e.key with
   |.ref b=>b
   |_=>0
  |none=>0
 |_=>0
def Dt(H:Hp)(a:Addr)(o:Obj)(ks:List (List Key)):Prop:=∃vs:qak,ks.length=vs.length/\H a\.jS o (.dT (ks.zip vs))
def Dt.known(ok:jl P w H h)(z:Dt H a o ks):h.get? a\o/\(a==sysModules)=false/\o.cls=.type "dict"/\∃es ep,o.data=.dict es ep/\es.size=ks.length /\
  ∀(i:Nat)(k:List Key),ks[i]?\k->H (nH o i)\.tup (k.map kV)/\∃e,es[i]?\e/\e.key=.ref (nH o i):=by
 let(vs,hl,ha):=z;let(ho,_,hm,xs,hx,o',es,ep,h1,h2,h3,h4,h5):=(show bO P w H h a (.jS o (.dT (ks.zip vs))) from ok a _ ha);rw[ho] at h1;cases h1;have hz:es.size=ks.length:=by have e1:=JG hx;rw[B9,hl,Jn] at e1;rw[<- JB,h4,bL,hl];exact e1.symm
 show#[ho,hm,h2.1,es,ep,h3,hz,λi k hk=>?_];have hi:=(dy.mp hk).1;have hv:vs[i]?\vs[i]'():=f_ _;have hp:(ks.zip vs)[i]?\(k,vs[i]'()):=by rw[Zf];exact#[hk,hv]
 let(q,hq,e1,e2,e3):=d6 hx hp;have he:es[i]?\entryOfKey (tupleKind (bM P w)) q:=by rw[<- D9,h4,d4,hq];rfl
 have ek:nH o i=q.2.1:=by unfold nH;rw[h3];dsimp only;rw[he];rfl
 rw[ek];calc#[e2,_,he,9]
def YT(a:Addr)(o:Obj)(ks:List (List Key)):It :=
 #[λi H=>Dt H a o ks/\i<ks.length,λi H x H'=>H'=H/\∃k,ks[i]?\k/\x=.ref (nH o i)/\H (nH o i)\.tup (k.map kV),λi H=>Dt H a o ks/\ks.length=i]
def Du{tg:Expr}{es:Array DictEntry}(ks:List (List Key))(a it:Addr)(hd:o.data=.dict es ep):Turn P w K tg (YT a o ks) [it] it (λi h=>h.IsKeyIter it a i es.size ep) where
 mem:=by simp
 obj:=λi h st b hb=>by
  have e:b=it:=by simpa using hb
  subst e;let(o,e,c,d):=st;exact#[o,e,λv z=>by rw[d] at z;cases z]
 keep:=λi h h' st k=>st.at λo e=>k it 4 o e
 item:=by intro X hP hw hK hc i ε s σ H E I hf st hg;let(ha,hi):=hg;let(ho,_,_,JN,OX,h3,hz,hk):=ha.known I.bC;rw[hd] at h3;cases h3;let(hb,e,he,ek):=hk i _ (f_ hi);let(f0,f1,f2,f3,f4,f5):=hf it 4;show fD st ho hd he λh' bh sb=>?_;have I1:=I.turned (t':=s.toks) (λb o hb e=>(sb.2 b hb).trans e) f0 f1 f3 f4 f5;let(oi,e1,c,d):=id bh;rw[ek];exact#[_,9,vV e1 c d 5 #[.ref (nH o i),H,I1,9,#[9,_,f_ hi,9,hb],bh,λb hb=>(hf b hb).1]]
 done:=by intro X hP hw hK hc i ε s σ H E I hf st hg;let(ha,hi):=hg;let(ho,_,_,JN,OX,h3,hz,hk):=ha.known I.bC;rw[hd] at h3;cases h3;let(f0,f1,f2,f3,f4,f5):=hf it 4;exact dQ (I.ok.hd hc) st ho hd (TB ()) λh' eb=>#[9,I.turned (t':=s.toks) (λb o hb e=>eb b o hb e) f0 f1 f3 f4 f5]
 self:=λ_ _ _ _ _ st h=>f6 st h
def Wu(tl:TE):TI:=λσ H R=>tl σ H λx H1=>E3 λa o ks=>x=.ref a/\Dt H1 a o ks/\R (YT a o ks) H1
def Bp{tg l:Expr}{tl:TE}(hl:PE X l tl):PI X tg l (Wu tl):=by
 intro ε s σ H R I h;show cz (hl ε s σ H _ I h) λv s1 #[x,H1,I1,r1,a,o,ks,e,ha,q]=>?_;subst e;cases r1;let(ho,hm,hc,es,ep,h3,hz,hk):=ha.known I1.bC;show fB hm ho hc h3 #[51,[51],_,_,H1,9,I1.kept λb o e=>c9 _ e,Du ks a _ h3,#[_,gU _ 9,9,9],λb hb=>?_,q];have e:b=51:=by simpa using hb
 subst e;calc I1.nq (cv _) (I1.bC.fresh (cv _))
def kT:Key->T
 |.inl i=>.int i
 |.inr x=>.str x
def El(k:List Key):T:=.tup (k.map kT)
def Wv{A:zm}(k:Key):At K H A (kT k) (kV k):=by cases k<;>simp only[kT,kV,At]
theorem G1{K:qaf}{H:Hp}{A:zm}:∀k:List Key,aB K H A (k.map kT) (k.map kV)
 |[]=>aB.nil
 |k::ks=>aB.cons (Wv k) (G1 ks)
def uB{A:zm}{b:Addr}{k:List Key}(h:H b\.tup (k.map kV)):At K H A (El k) (.ref b):=dg (dJ.of h) (G1 k)
def qR(o:Obj)(ks:List (List Key)):Φ:=ks.zipIdx.map λp=>.pin (nH o p.2) (El p.1)
def xv(o:Obj)(ks:List (List Key)):(qR o ks).length=ks.length:=by unfold qR;simp
def G2(o:Obj)(ks:List (List Key))(i:Nat):(qR o ks)[i]?=ks[i]?.map λk=>.pin (nH o i) (El k):=by unfold qR;rw[d4,List.getElem?_zipIdx];cases ks[i]?<;>simp
def rW{A:zm}{ts:Φ}(h:At K H A (.df o ks ts) (.ref a)):Dt H a o ks:=by let(b,vs,e,hl,hd,_):=h;cases e;calc#[vs,hl,hd.1]
def L4{ts:Φ}:Wk K (YT a o ks) [(.df o ks ts,.ref a)] (ks.map El):=λH A hA h i=>by have z:=rW (h _ fM);show#[λhi=>#[z,by simpa using hi],λhi=>#[z,by simpa using hi],λt ht x H' y=>?_];let(rfl,k,hk,rfl,hb):=y;rw[d4,hk] at ht;cases ht;calc#[aP.refl _,uB hb]
def G3{ts:Φ}:Wk K (YT a o ks) [(.df o ks ts,.ref a)] (qR o ks):=λH A hA h i=>by have z:=rW (h _ fM);rw[xv];show#[λhi=>#[z,hi],λhi=>#[z,hi],λt ht x H' y=>?_];let(rfl,k,hk,rfl,hb):=y;rw[G2,hk] at ht;cases ht;calc#[aP.refl _,#[9,uB hb]]
section
variable{tg l:Expr}
def Ww(f:FE):FI:=λρ Q=>f ρ λt=>match t with
 |.df _ ks _=>Q (ks.map El)
 |_=>False
def Q8(f:FE):FI:=λρ Q=>f ρ λt=>match t with
 |.df o ks _=>Q (qR o ks)
 |_=>False
theorem L5{f:FE}(h:VE X Z l f):VI X Z tg l (Ww f):=.mk λtm=>PI.weak (Bp (h tm)) λσ H R #[ρ,O,q,I,hf,k]=>#[ρ,O,_,I,hf,λt ht v H' s a=>by
 cases t with
 |df o ks ts=>
  obtain⟨b,rfl⟩:∃b,v=.ref b:=by simp only[At] at a;let(b,_,e,_):=a;exact#[b,e]
  calc#[b,o,ks,9,rW a,k _ ht _ H' _ s (λp hp=>by rw[fP.mp hp];calc a) L4]
 |_=>calc ht.elim]
theorem G4{f:FE}(h:VE X Z l f):VI X Z tg l (Q8 f):=.mk λtm=>PI.weak (Bp (h tm)) λσ H R #[ρ,O,q,I,hf,k]=>#[ρ,O,_,I,hf,λt ht v H' s a=>by
 cases t with
 |df o ks ts=>
  obtain⟨b,rfl⟩:∃b,v=.ref b:=by simp only[At] at a;let(b,_,e,_):=a;exact#[b,e]
  calc#[b,o,ks,9,rW a,k _ ht _ H' _ s (λp hp=>by rw[fP.mp hp];calc a) G3]
 |_=>calc ht.elim]
end
section
def uC{t:TS}(h:jF X rest t):jF X rest (λD σ H=>∃a bf,H a\.dT bf/\∀o,t D σ (upd H a (.jS o (.dT bf)))):=by
 intro ε s σ H D I hq;let(a,bf,ha,k):=hq;let(z,y,xs,r,o,es,ep,h1,h2,h3,h4,h5):=(show bO 39 X.w H 50 a (.dT bf) from I.bC a _ ha);have new:bO 39 X.w (upd H a (.jS o (.dT bf))) 50 a (.jS o (.dT bf)):=by show#[h1,z,y,xs,Paired.m7 r λp q #[e1,e2,e3]=>#[e1,?_,e3],o,es,ep,h1,h2,h3,h4,h5];rw[az];calc e2;intro e;rw[e,ha] at e2;cases e2
 have I':Inv X ε σ (upd H a (.jS o (.dT bf))) {s with heap:=50,toks:=s.toks}:=I.write (by rw[ha];trivial) 7 (λb u _ q=>q) #[o,h1] new;calc h ε s σ _ D I' (k o)
def ax.ice{tm:qab}(I:ax K Z tm O ρ σ H){ts:Φ}(hp:bj Z i)(hi:ρ[i]?\some (.dt ks ts,true)) :
  ∃a vs,H a\.dT (ks.zip vs)/\∀o,ax K Z tm (O.set i none) (ρ.set i (some (.df o ks ts,false))) σ (upd H a (.jS o (.dT (ks.zip vs)))):=by
 let(o',s,h1,h2,a,rfl,rfl,vs,hl,e0,q0):=I.sl i _ hi;have ha:=aF.mpr (eM h1);have Eg:a∈av Z O:=il _ ha;let(hP,hx,_):=I.own a ha;show#[a,vs,e0,λo=>?_];have apart:∀b,b∈roots (O.set i none)->b≠a:=λb hb e=>by
  subst e;let(j,hj):=JA.mp (aF.mp hb);rcases get_set hj with⟨_,z,_⟩|⟨ne,z⟩
  cases z;exact ne (wy I z h1)
 have nav:a∉av Z (O.set i none):=λz=>by
  rcases gc.mp z with z|z
  calc apart a z 9;exact hx z
 have fw:∀{t:T}{v:V},At K H (av Z O) t v->At K (upd H a (.jS o (.dT (ks.zip vs)))) (av Z (O.set i none)) t v:=λq=>(At.wrote Eg e0 9 q).br (bT i);have YE:∀{t:Φ}{v:qak},aB K H (av Z O) t v->aB K (upd H a (.jS o (.dT (ks.zip vs)))) (av Z (O.set i none)) t v:=λq=>(aB.wrote Eg e0 9 q).br (bT i);show#[by simp[I.lσ],by simp[I.lO],λj e h=>?_,d5 _ _ I.nd,λb h=>?_,λp q=>?_,λb h=>?_,λb u e n=>?_,λp q=>fw (I.kj p q)];rcases get_set h with⟨rfl,rfl,Jq⟩|⟨ne,h⟩
 show#[none,some (.ref a),by rw[D8 (by rw[I.lO];calc Jq)],h2,9,.ref a,9,?_];calc#[a,vs,9,hl,#[aG,nav],YE q0];let(o2,s,g1,g2,g3):=I.sl j e h;show#[o2,s,by rw[vG (Ne.symm ne)];calc g1,g2,g3.map (λ_ _ q=>fw q) λb t eb q=>?_];subst eb;show q.map (az ?_) λ_ _ q=>YE q;intro e;subst e;calc ne (wy I g1 h1);let(g1,g2,u,g3,g4):=I.own b (bS i b h);calc#[g1,g2,u,by rw[az (apart b h)];calc g3,g4];rw[vG (Ne.symm (hp p q))];calc I.par p q;by_cases e:b=a;subst e;calc absurd h hx;rw[az e];calc I.ox b h;rw[az];calc I.keep b u e n;intro eb;subst eb;obtain z|z:=hP
 calc n z;rw[z] at e;cases e
def Wx(i:Nat)(g:FS):FS:=λd ρ=>match ρ[i]? with
 |some (some (.dt ks ts,true))=>∀o,g d (ρ.set i (some (.df o ks ts,false)))
 |_=>False
def kY{g:FS}(i:Nat)(hp:bj Z i)(h:fW X Z rest g):fW X Z rest (Wx i g):=.mk λtm=>jF.km (uC (h tm)) λD σ H #[ρ,O,d,I,q,F]=>by
 unfold Wx at q;split at q
 rename_i ks ts e
 let(a,vs,e1,k):=I.ice hp e;calc#[a,_,e1,λo=>#[_,_,d,k o,q o,F]];calc q.elim
end
def pd:Φ->Option (List Key)
 |[]=>some []
 |t::ts=>match Ly t,pd ts with
  |some k,some ks=>some (k::ks)
  |_,_=>none
theorem iZ{K:qaf}{H:Hp}{A:zm}:∀{ts:Φ}{vs:qak}{k:List Key},aB K H A ts vs->pd ts\k->vs=k.map kV
 |[],vs,k,h,e=>by cases e;calc h
 |t::ts,vs,k,h,e=>by
  let(v,r,rfl,h1,h2):=h;simp only[pd] at e;split at e
  rename_i k' ks e1 e2
  cases e;rw[ug (.inl h1) e1,iZ h2 e2];rfl;cases e
section
variable{κ:Type}[DecidableEq κ]
def cC:List κ->List α->κ->Option α
 |k::ks,t::ts,x=>if k=x then some t else cC ks ts x
 |_,_,_=>none
def mh(ks:List κ)(x:κ):Bool:=ks.any λk=>decide (k=x)
def jy(ks:List κ)(x:κ):List κ:=if mh ks x=true then ks else ks++[x]
def iu(ks:List κ)(ts:List α)(x:κ)(u:α):List α:=if mh ks x=true then List.zipWith (λk t=>if k=x then u else t) ks ts else ts++[u]
def G5(ts:List α)(x:κ):cC [] ts x=none:=by cases ts<;>rfl
theorem gH:∀(ks:List κ)(vs:qak)(x:κ),iz (ks.zip vs) x=cC ks vs x
 |[],vs,x=>by rw[G5];rfl
 |k::ks,[],x=>rfl
 |k::ks,v::vs,x=>by simp only[cC,Nn];by_cases e:k=x;rw[ι e,iS e];rw[θ e,iT e];calc gH ks vs x
theorem jh{K:qaf}{H:Hp}{A:zm}:∀{ks:List κ}{ts:Φ}{vs:qak}{x:κ},aB K H A ts vs->(∀t,cC ks ts x\t->∃v,cC ks vs x\v/\At K H A t v)/\(cC ks ts x=none->cC ks vs x=none)
 |[],ts,vs,x,h=>by show#[λt e=>?_,λ_=>rfl];cases e
 |k::ks,[],vs,x,h=>by subst h;calc#[λt e=>(by cases e),λ_=>rfl]
 |k::ks,t::ts,vs,x,h=>by let(v,r,rfl,h1,h2):=h;simp only[cC];by_cases e:k=x;rw[ι e,ι e];calc#[λt e=>by cases e;calc#[v,9,h1],λq=>by cases q];rw[θ e,θ e];calc jh h2
def G6(ks:List κ)(vs:qak)(x:κ)(hl:ks.length=vs.length):((ks.zip vs).any λkv=>decide (kv.1=x))=mh ks x:=by
 unfold mh;induction ks generalizing vs with
 |nil=>rfl
 |cons k ks ih=>
  cases vs with
  |nil=>simp at hl
  |cons v vs=>rw[Nn,Ca,Ca,ih vs (by simpa using hl)]
def Wy(ks:List κ)(vs:qak)(x:κ)(v:V):(ks.zip vs).map (λkv=>if kv.1=x then (kv.1,v) else kv)=ks.zip (List.zipWith (λk t=>if k=x then v else t) ks vs):=by
 induction ks generalizing vs with
 |nil=>rfl
 |cons k ks ih=>
  cases vs with
  |nil=>rfl
  |cons u vs=>simp only[Nn,fO,Zm];rw[ih vs];by_cases e:k=x;rw[ι e,ι e];rw[θ e,θ e]
def xw(ks:List κ)(vs:qak)(x:κ)(v:V)(hl:ks.length=vs.length):L2.putK (ks.zip vs) x v=(jy ks x).zip (iu ks vs x v)/\(jy ks x).length=(iu ks vs x v).length:=by unfold L2.putK jy iu;rw[G6 ks vs x hl];by_cases e:mh ks x=true;rw[ι e,ι e,ι e];calc#[Wy ks vs x v,by simp[hl]];rw[θ e,θ e,θ e];show#[?_,by simp[hl]];rw[List.zip_append hl];rfl
def ph{A:zm}{ks:List κ}{ts:Φ}{x:κ}{t:T}(h:aB K H A ts vs)(ht:At K H A t v):aB K H A (iu ks ts x t) (iu ks vs x v):=by
 unfold iu;by_cases e:mh ks x=true;rw[ι e,ι e];clear e;induction ks generalizing ts vs with
 |nil=>simp only[List.zipWith_nil_left];calc aB.nil
 |cons k ks ih=>
  cases ts with
  |nil=>subst h;calc aB.nil
  |cons t0 ts=>let(v0,r,rfl,h1,h2):=h;simp only[Zm];show aB.cons ?_ (ih h2);by_cases q:k=x;rw[ι q,ι q];calc ht;rw[θ q,θ q];exact h1
 rw[θ e,θ e];calc h.append (aB.cons ht aB.nil)
def Bq{A:zm}{ks:List κ}{ts:Φ}{k:κ}{z:T}{w:V}(h:aB K H A ts vs)(hz:At K H A z w):At K H A ((cC ks ts k).getD z) ((cC ks vs k).getD w):=by
 cases e:cC ks ts k with
 |none=>rw[(jh h).2 e];calc hz
 |some t=>let(v,e1,e2):=(jh h).1 t e;rw[e1];calc e2
end
section
variable{a:Expr}{fc:FE}{pos:Pos}
def Q9:FP:=λ_ Q=>Q (.fr (.dt [] []))
def kZ:VP X Z (.Dict [] [] pos) Q9:=.mk λtm=>PE.weak oX λσ H Q #[ρ,O,q,I,hf,k] p hp=>by show k _ hf _ _ (aE hp) ?_;let(n1,n2,n3):=I.fresh hp;calc#[p,9,I.new hp 9,#[[],9,aG,aB.nil],n3,n2]
def G7(n:Nat)(f:FE)(g:FA):FS:=λd ρ=>match ρ[n]? with
 |some (some (.dt ks ts,true))=>f ρ λv=>g ρ λys=>match pd ys with
  |some k=>(ys.length<=sizeLine/\27<16777216)/\d.nx (ρ.set n (some (.dt (jy ks k) (iu ks ts k v),true)))
  |none=>False
 |_=>False
theorem pA(n:Nat){f:FE}{x1}{qy:Pos}(hu:X.A.units+1<cLine)(he:VE X Z e f)(hi:VA X Z es g)(hN:X.N[n]?\x:=by rfl)(hv:m8 41 x:=by calc jvv 9)(hd:f9 x:=by decide)(gv:q_ x:=by decide)(hs:swapsWith e (some (.Subscript 52 (.Tuple es x1 qy) dH)) pos.line 19=pure false:=by rfl) :
  VS X Z (.Assign [.Subscript 52 (.Tuple es x1 qy) dH] e pos) (G7 n f g):=.mk λtm=>
 PS.weak (n5 hu (cA hN hv hd gv) (jT (hi tm)) (he tm) hs) λD σ H #[ρ,O,d,I,q,F]=>by
  unfold G7 at q;split at q
  rename_i ks ts e0
  let(l,h1,h2,xs,hl,h3,h4):=I.root e0;have ha:l∈av Z O:=il _ (aF.mpr (eM h1));show#[ρ,O,_,I,q,λt ht v H1 s1 a1=>#[.ref l,h2,ρ,O,_,I.same s1,ht,λys hy ws H2 s2 a2=>?_]];split at hy
  rename_i kk ek
  let((hsz,hlen),hj):=hy;show#[by rw[a2.length];calc hsz,λp0 Wz=>?_];have s3:aP H2 (upd H2 p0 (.tup ws)):=aE Wz;have QY:=s3 _ _ (s2 _ _ (s1 _ _ h3));have q:=xw ks xs kk v hl;have hz:(ks.zip xs).length<sizeLine:=by
   rw[π,B9,hl,Jn,h4.length]
   lia
  have hb:upd H2 p0 (.tup ws) p0\.tup (kk.map kV):=by rw[iZ a2 ek];exact aG
  show#[l,_,9,qO.t QY hb hz,?_];rw[q.1];show F.nx O _ σ _ ((((I.same s1).same s2).same s3).wrote (t':=.dt (jy ks kk) (iu ks ts kk t)) e0 h1 #[iu ks xs kk v,q.2,aG,?_]) hj;calc aB.wrote ha QY 9 (ph (((h4.same s1).same s2).same s3) ((a1.same s2).same s3));calc hy.elim;calc q.elim
def WA(fa:FE)(g:FA):FP:=λρ Q=>fa ρ λx=>g ρ λys=>match x,pd ys with
 |.df _ ks ts,some k=>ys.length<=sizeLine/\∃t,cC ks ts k\t/\Q (.vw t)
 |_,_=>False
def L6{x1}{qy:Pos}(hu:X.A.units+1<cLine)(ha:VR X Z a fa)(hb:VA X Z es g)(hs:Dd (.Tuple es x1 qy):=by intro _ _;rfl):VP X Z (.Subscript a (.Tuple es x1 qy) pos) (WA fa g):=.mk λtm=>PE.weak (nZ hu (ha tm) (jT (hb tm)) hs) λσ H Q #[ρ,O,q,I,hf,k] =>
 #[ρ,O,_,I,hf,λx hx v H1 s1 a1=>#[ρ,O,_,I.same s1,hx,λys hy ws H2 s2 a2=>by
  split at hy
  rename_i o ks ts kk e
  let(hsz,t,e1,hq):=hy;show#[by rw[a2.length];calc hsz,λp0 Wz=>?_];have s3:aP H2 (upd H2 p0 (.tup ws)):=aE Wz;let(l,vs,rfl,hl,hd,hv):=((a1.same s2).same s3).df;let(u,e2,e3):=(jh hv).1 t e1;have hb:upd H2 p0 (.tup ws) p0\.tup (kk.map kV):=by rw[iZ a2 e];exact aG
  calc#[l,u,9,.inr #[_,kk,p0,.inr #[o,hd],9,hb,by rw[gH,e2]],k _ hq _ _ ((s1.trans s2).trans s3) #[((I.same s1).same s2).same s3,e3]];calc hy.elim]]
def adi(fa:FE)(g:FA)(fc:FE):FP:=λρ Q=>fa ρ λx=>match x with
 |.df _ ks ts=>g ρ λys=>match pd ys with
  |some k=>ys.length<=sizeLine/\fc ρ λz=>Q (.vw ((cC ks ts k).getD z))
  |none=>False
 |_=>False
def G8{x1}{qy:Pos}(hu:X.A.units+1<cLine)(ha:VR X Z a fa)(hb:VA X Z es g)(hc:VE X Z c fc)(m:M2 X a "get" apos (.Tuple es x1 qy) c bF):VP X Z (.Call (.Attribute a "get" apos) [.Tuple es x1 qy,c] [] bF) (adi fa g fc):=.mk λtm=>PE.weak (xf hu (ha tm) (jT (hb tm)) (hc tm) m) λσ H Q #[ρ,O,q,I,hf,k] =>
 #[ρ,O,_,I,hf,λx hx v H1 s1 a1=>by
  split at hx
  rename_i o ks ts
  let(l,vs,rfl,hl,hd,hv):=a1.df;show#[l,9,.inr #[_,.inr #[o,hd]],ρ,O,_,I.same s1,hx,λys hy ws H2 s2 a2=>?_];split at hy
  rename_i kk e
  show#[by rw[a2.length];calc hy.1,λp0 Wz=>?_];have s3:aP H2 (upd H2 p0 (.tup ws)):=aE Wz;show#[ρ,O,_,((I.same s1).same s2).same s3,hy.2,λz hz u H3 s4 a3=>?_];have hb:H3 p0\.tup (kk.map kV):=s4 _ _ (by rw[<- iZ a2 e];calc aG);show#[_,.inr #[_,kk,p0,.inr #[o,s4 _ _ (s3 _ _ (s2 _ _ hd))],9,hb,9],?_];rw[gH];calc k _ hz _ H3 (((s1.trans s2).trans s3).trans s4) #[(((I.same s1).same s2).same s3).same s4,Bq (((hv.same s2).same s3).same s4) a3];calc hy.elim;calc hx.elim]
def Q_{t:TE}(h:PE X e t):PE X e (λσ H Q=>t σ H λv H1=>(∃hp,jl 39 X.w H1 hp)->Q v H1):=by intro ε s σ H Q I hq;calc cz (h ε s σ H _ I hq) λv s1 #[x,H1,I1,r1,q]=>#[x,H1,I1,r1,q #[s1.heap,I1.bC]]
def WB(fa fb:FE):FP:=λρ Q=>fa ρ λx=>fb ρ λy=>match x,y with
 |.df o ks ts,.pin b _=>∃i k t,b=nH o i/\ks[i]?\k/\cC ks ts k\t/\Q (.vw t)
 |_,_=>False
def L7(hu:X.A.units+1<cLine)(ha:VR X Z a fa)(hb:VR X Z b fb)(hs:Dd b:=by intro _ _;rfl):VP X Z (.Subscript a b pos) (WB fa fb):=.mk λtm=>PE.weak (nZ hu (ha tm) (Q_ (hb tm)) hs) λσ H Q #[ρ,O,q,I,hf,k] =>
 #[ρ,O,_,I,hf,λx hx v H1 s1 a1=>#[ρ,O,_,I.same s1,hx,λy hy w H2 s2 a2=>by
  intro bC;split at hy
  rename_i o ks ts b0 t0
  let(i,kk,t,rfl,hi,e1,hq):=hy;let(hp,bC):=bC;let(l,vs,rfl,hl,hd,hv):=(a1.same s2).df;let(u,e2,e3):=(jh hv).1 t e1;let(_,_,_,_,_,_,_,hk):=Dt.known bC #[vs,hl,hd];have ew:w=.ref (nH o i):=by
   obtain a2|⟨a,_,r⟩:=a2
   simp only[At] at a2;calc a2.1;exact r.elim
  calc#[l,u,9,.inr #[_,kk,_,.inr #[o,hd],ew,(hk i kk hi).1,by rw[gH,e2]],k _ hq _ H2 (s1.trans s2) #[(I.same s1).same s2,e3]];calc hy.elim]]
def adj:T->T
 |.pin _ t=>t
 |t=>t
def adk(f:FE):FE:=λρ Q=>f ρ λt=>Q (adj t)
theorem G9(h:VR X Z e fa):VR X Z e (adk fa):=.mk λtm=>PE.weak (h tm) λσ H Q #[ρ,O,q,I,hf,k]=>#[ρ,O,_,I,hf,λt ht v H' s z=>by
 show k _ ht v H' s ?_;cases t with
 |pin b t=>
  obtain z|⟨a,_,r⟩:=z
  simp only[At] at z;calc .inl z.2;calc r.elim
 |_=>calc z]
end
end VT
namespace PySem
open Sem (wp)
section
variable{d:Addr}{es:Array DictEntry}{ok ov:Value}
def jz{v:Addr}(hv:s.heap.IsItemsView v d)(ho:s.heap.get? d\o)(hd:o.data=.dict es ep)(hQ:Q 32 {s with heap:=s.heap.push {cls:=.type "dict_itemiterator",data:=.fields ([.none,.bool false,.ref d,.int 0 0,.int es.size 0,.int ep 0,.none,.none].toArray)} }):wpAny 14 A (pyIter (.ref v)) Q E s:=by
 let(o2,hov,hcv,hdv):=id hv;show wpAny_pyIter_slot hv.typeIs PySem.F.slot_dict_items_iter (χ PySem.F.slot_dict_items_iter hv.typeIs PySem.F.entry_dict_items_iter (ζ (η (ζ (ζ (Λ hov hdv 9 (η (ζ (ζ (aak ho hd (ζ (aao ho hd ?_))))))))))) (PySem.F.args_dict_items_iter_1 _));have own:Builtin.Dict_items.ownsTuple "dict_itemiterator"=true:=by decide
 simp only[own,aaK];show Δ (η #[_,9,"dict_itemiterator",_,#[_,gU _ 9,9],Tw.lookup,?_]) (by simp[sizeOk,Builtin.Dict_items.ownedTupleFields,π]);simpa[rawInt,Builtin.Dict_items.ownedTupleFields] using hQ
theorem jA{Q:(Option Value)->Shared->Prop}{e:DictEntry}(hit:IsItemIter 50 it d i es.size ep ok ov)(ho:s.heap.get? d\o)(hd:o.data=.dict es ep)(he:es[i]?\e)(hQ:∀h',IsItemIterOut h' it d (i+1) es.size ep e.key e.val 8->h'.get? 8=some {cls:=.type "tuple",data:=.seq ([e.key,e.val].toArray)}->h'.objs.size=8+1 ->
    (∀b u,b≠it->s.heap.get? b\u->h'.get? b\u)->Q (some 32) {s with heap:=h'}):wpAny 14 A (pyNext (.ref it)) Q E s:=by
 let(hp,g,dr,tk,os):=s;have hT:Shared.TypeIs #[hp,g,dr,tk,os] (.ref it) "dict_itemiterator":=#[_,hit,9];show ζ (aap (Γ hT Tw
  (χ Tw hT PySem.F.entry_dict_itemiterator_next ?_ (PySem.F.args_dict_itemiterator_next_1 _))))
 show ζ (η (ζ (ζ ?_)))
 first|show ζ (aab hT (η ?_))|show ζ (aai hT (η ?_))
 show ζ (aaG hit 9 ?_);have own:Builtin.Dict_items.ownsTuple "dict_itemiterator"=true:=by decide
 show ζ (η (ζ (aak ho hd ?_)));rw[θ 4];show ζ (η (ζ (aao ho hd ?_)));rw[θ 4];show η ?_;simp only[show ¬ (i<0) from by lia,aaJ,j6,he];show ζ ?_
 first|show ζ (aab hT (η ?_))|show ζ (aai hT (η ?_))
 show ζ (aay hT ?_);change wpAny _ _ (setField (.ref it) 03 (rawInt (i+1)) >>= _) _ _ #[hp,g,dr,tk,os];show ζ (Θ hit 4 λh₁ he₁ y4=>?_);have hT₁:Shared.TypeIs #[h₁,g,dr,tk,os] (.ref it) "dict_itemiterator":=#[_,he₁,9];show ζ (v9 (ζ (aay hT₁ (ζ (aay hT₁ (ζ (wpAny_newTuple ?_)))))));have PY:IsItemIter (h₁.push {cls:=.type "tuple",data:=.seq ([e.key,e.val].toArray)}) it d (i+1) es.size ep ok ov:=c9 _ he₁;generalize hh₂:h₁.push {cls:=.type "tuple",data:=.seq ([e.key,e.val].toArray)}=h₂ at PY;have Fe:=y4.1;have hil:=dz hit;have ht₂:h₂.get? hp.objs.size=some {cls:=.type "tuple",data:=.seq ([e.key,e.val].toArray)}:=by rw[<- hh₂,<- Fe];exact gU _ 9
 have S_:h₂.objs.size=hp.objs.size+1:=by rw[<- hh₂,B_,Fe]
 have hk₂:∀b u,b≠it->hp.get? b\u->h₂.get? b\u:=λb u hb e=>by rw[<- hh₂];exact c9 _ (y4.extBut b u hb e)
 change wpAny _ _ (Builtin.Dict_items.ownedTupleIsFree (.ref it) >>= _) _ _ #[h₂,g,dr,tk,os];rw[Fe];show ζ (ζ (Λ PY 9 9 (η (ζ (Λ PY 9 9 (ζ (Λ PY 9 9 (ζ (Θ PY 4 λh₃ he₃ yi=>ζ (Θ he₃ 4 λh₄ he₄ Ei=>ζ (Θ he₄ 4 λh₅ he₅ Ej=>ζ (Θ he₅ 4 λh₆ he₆ hs₆=>?_))))))))))));have JO:=Cb hil;show ζ (wpAny_letGo (η (η #[_,9,η (hQ h₆ he₆ ?_ ?_ ?_)])));calc hs₆.extBut _ _ JO (Ej.extBut _ _ JO (Ei.extBut _ _ JO (yi.extBut _ _ JO ht₂)));rw[hs₆.1,Ej.1,Ei.1,yi.1,S_];calc λb u hb e=>hs₆.extBut b u hb (Ej.extBut b u hb (Ei.extBut b u hb (yi.extBut b u hb (hk₂ b u hb e))))
theorem hX{Q:(Option Value)->Shared->Prop}(hh:A.handled=none)(hit:IsItemIter 50 it d i es.size ep ok ov)(ho:s.heap.get? d\o)(hd:o.data=.dict es ep)(he:es[i]?=none)(hQ:∀h',Heap.ExtBut it 50 h'->Q none {s with heap:=h'}):wpAny 14 A (pyNext (.ref it)) Q E s:=by
 have hT:s.TypeIs (.ref it) "dict_itemiterator":=#[_,hit,9];show ζ (aap (Γ hT Tw
  (χ Tw hT PySem.F.entry_dict_itemiterator_next ?_ (PySem.F.args_dict_itemiterator_next_1 _))))
 show ζ (η (ζ (ζ ?_)))
 first|show ζ (aab hT (η ?_))|show ζ (aai hT (η ?_))
 show ζ (aaG hit 9 ?_);have own:Builtin.Dict_items.ownsTuple "dict_itemiterator"=true:=by decide
 show ζ (η (ζ (aak ho hd ?_)));rw[θ 4];show ζ (η (ζ (aao ho hd ?_)));rw[θ 4];show η ?_;simp only[show ¬ (i<0) from by lia,aaJ,j6,he];show ζ ?_
 first|show ζ (aab hT (η ?_))|show ζ (aai hT (η ?_))
 change wpAny _ _ (setField (.ref it) 2 .none >>= _) _ _ s;show ζ (aaw hit 9 4 (ζ (ζ (m:=firstArgMember _ _) (aaA (by first|rfl|(simp only[firstArgMember];rfl)) (Δ (ζ (wpAny_handled ?_)) (by size_fits))))));rw[show A.in1.handled=none from hh];show ζ (η (wpAny_throw ?_));show ζ (aaz #[_,gU _ 9,9] isSubtype_stop ?_);calc η (hQ _ (((TK ..).extBut.push _).push _))
end
end PySem
namespace VT
open PySem PySem.Spec PyProof.Rows L2
def G_(a d:Addr):HO:=.ext λh=>h.get? a=some {cls:=.type "dict_items",data:=.fields ([.ref d].toArray)}
def Iti(a:Addr)(o:Obj)(ks:List (List Key)):It :=
 #[λi H=>Dt H a o ks/\i<ks.length,λi H x H'=>∃k v p vs,ks[i]?\k/\ks.length=vs.length/\H a\.jS o (.dT (ks.zip vs))/\vs[i]?\v/\H (nH o i)\.tup (k.map kV)/\H p=none/\x=.ref p/\H'=upd H p (.tup [.ref (nH o i),v]),λi H=>Dt H a o ks/\ks.length=i]
def Dt.entry{es:Array DictEntry}(ok:jl P w H h)(z:Dt H a o ks)(hd:o.data=.dict es ep)(hi:i<ks.length) :
  ∃k v vs e,ks[i]?\k/\ks.length=vs.length/\H a\.jS o (.dT (ks.zip vs))/\vs[i]?\v/\H (nH o i)\.tup (k.map kV)/\es[i]?\e/\e.key=.ref (nH o i)/\RelV v e.val:=by
 let(vs,hl,ha):=z;let(ho,_,hm,xs,hx,o',JN,OX,h1,h2,h3,h4,h5):=(show bO P w H h a (.jS o (.dT (ks.zip vs))) from ok a _ ha);rw[ho] at h1;cases h1;rw[hd] at h3;cases h3;have hv:vs[i]?\vs[i]'():=f_ _;have hk:=f_ hi;have hp:(ks.zip vs)[i]?\(ks[i],vs[i]'()):=by rw[Zf];exact#[hk,hv]
 let(q,hq,e1,e2,e3):=d6 hx hp;have he:es[i]?\entryOfKey (tupleKind (bM P w)) q:=by rw[<- D9,h4,d4,hq];rfl
 have ek:nH o i=q.2.1:=by unfold nH;rw[hd];dsimp only;rw[he];rfl
 calc#[ks[i],vs[i]'(),vs,_,hk,hl,ha,hv,by rw[ek];calc e2,he,by rw[ek];rfl,e3]
def zA{x1}{es:Array DictEntry}(ks:List (List Key))(a it:Addr)(hd:o.data=.dict es ep) :
  Turn P w K (.Tuple elts x1 tp) (Iti a o ks) [it] it (λi h=>∃ok ov,IsItemIter h it a i es.size ep ok ov) where
 mem:=by simp
 obj:=λi h st b hb=>by
  have e:b=it:=by simpa using hb
  subst e;let(ok,ov,st):=st;exact#[_,st,λv z=>by cases z]
 keep:=λi h h' #[ok,ov,st] k=>#[ok,ov,k it 4 _ st]
 item:=by
  intro X hP hw hK hc i ε s σ H E I hf st hg;let(ok,ov,st):=st;let(ha,hi):=hg;let(ho,_,_,_):=ha.known I.bC;let(k,v,vs,e,hk,hl,hH,hv,hb,he,ek,rv):=ha.entry I.bC hd hi;show jA st ho hd he λh' bh tup sz old=>#[_,9,wpAny_letOwnedTupleGo_items bh λh2 sR sb=>?_];have Ys:=sb;have c8:=dz st;have JO:=Cb c8;have kk:∀b ob,b∉[it]->s.heap.get? b\ob->h2.get? b\ob:=λb ob hb q=>by have UZ:b≠it:=λz=>hb (by simp[z]);exact (Ys.2 b UZ).trans (old b ob UZ q)
  have new:bO 39 X.w (upd H 8 (.tup [.ref (nH o i),v])) h2 8 (.tup [.ref (nH o i),v]) :=
   #[by change 2<=sizeLine;rw[π];decide,[e.key,e.val],.cons (by rw[ek];rfl) (.cons rv .nil),#[_,(Ys.2 _ JO).trans tup,9,_,9]]
  show#[.ref 8,_,I.grown kk hf (cv _) new,9,#[k,v,_,vs,hk,hl,hH,hv,hb,I.fresh,9,9],#[_,_,sR],λb hb=>?_];have e:b=it:=by simpa using hb
  subst e;rw[az (gf c8)];exact (hf b hb).1
 done:=by intro X hP hw hK hc i ε s σ H E I hf st hg;let(ok,ov,st):=st;let(ha,hi):=hg;let(ho,_,_,JN,OX,h3,hz,hk):=ha.known I.bC;rw[hd] at h3;cases h3;let(f0,f1,f2,f3,f4,f5):=hf it 4;exact hX (I.ok.hd hc) st ho hd (TB ()) λh' eb=>#[9,I.turned (λb o hb e=>eb b o hb e) f0 f1 f3 f4 f5]
 self:=λA i s Q E #[ok,ov,st] h=>W.kcp_self st h
def Ra(tl:TE):TI:=λσ H R=>tl σ H λx H1=>E3 λa o ks=>x=.ref a/\Dt H1 a o ks/\∀p,H1 p=none->R (Iti a o ks) (upd H1 p (G_ p a))
def G'{x1}{l:Expr}{tl:TE}(hl:PE X l tl)(dB:attributeBase l "items" 19 (eval l 19)=eval l 19:=by rfl)(dC:(apos.endLine==bF.line)=true:=by rfl) :
  PI X (.Tuple elts x1 tp) (.Call (.Attribute l "items" apos) [] [] bF) (Ra tl):=by
 intro ε s σ H R I h;show wpAny_Call_method0_late dB dC (cz (hl ε s σ H _ I h) λv s1 #[x,H1,I1,r1,d,o,ks,e,hz,q1]=>?_);subst e;obtain rfl:=r1;let(ho,hm,hc,es,ep,h3,hz',hk):=hz.known I1.bC;have hD:IsD H1 d:=.inr (let #[vs,_,e]:=hz;#[_,.inr #[o,e]]);let(t1,t2,_):=Gw I1 hD;show#["dict","dict.items",X4,PySem.F.slot_dict_items,PySem.F.type_dict_items,t1,t2,X5 9 (PySem.evalArgs_none (χ PySem.F.slot_dict_items t1 PySem.F.entry_dict_items (ζ (ζ (wpAny_notOrdered_dict t1 (η ?_)))) (PySem.F.args_dict_items_1 _)))];unfold Builtin.Dict.showsAll;rw[θ (by rw[hm];calc jk)];show ζ (η (ζ (Δ (η #[_,9,?_]))));have I2:Inv X ε σ (upd H1 51 (G_ 51 d)) {s1 with heap:=s1.heap.push {cls:=.type "dict_items",data:=.fields ([.ref d].toArray)} } :=
  I1.laid (λb o e=>c9 _ e) (cv _) #[gU _ 9,#[_,gU _ 9],λh1 h2 z k=>k _ z]
 show jz #[_,gU _ 9,9,9] (c9 _ ho) h3 ?_;show#[_,[(s1.heap.push {cls:=.type "dict_items",data:=.fields ([.ref d].toArray)}).objs.size],_,_,_,9,I2.kept λb o e=>c9 _ e,zA ks d _ h3,#[.none,.none,gU _ 9],λb hb=>?_,q1 _ I1.fresh];have e:b=(s1.heap.push {cls:=.type "dict_items",data:=.fields ([.ref d].toArray)}).objs.size:=by simpa using hb
 subst e;calc I2.nq (cv _) (I2.bC.fresh (cv _))
def YU(p:List Key×T):T:=.tup [El p.1,p.2]
def Ha{ts:Φ}(hl:ks.length=27):Wk K (Iti a o ks) [(.df o ks ts,.ref a)] ((ks.zip ts).map YU):=λH A hA h i=>by
 have hs:=h _ fM;have z:=rW hs;have ez:((ks.zip ts).map YU).length=ks.length:=by rw[bL,B9,hl,Jn]
 rw[ez];show#[λhi=>#[z,hi],λhi=>#[z,hi],λt ht x H' y=>?_];let(k,v,p,vs,hk,hv,hH,hvi,hb,hp,rfl,rfl):=y;let(b,jI,e,Jq,hd,hq):=hs;cases e;have e1:=hd.1;rw[hH] at e1;have e2:ks.zip vs=ks.zip jI:=by injection e1 with e1;injection e1 with _ e1;injection e1
 have e3:jI=vs:=by have:=Ω (List.map Prod.snd) e2;rw[List.map_snd_zip (),List.map_snd_zip ()] at this;exact this.symm
 subst e3;have hi:=(dy.mp hk).1;have hti:ts[i]?\ts[i]'():=f_ _;rw[d4,show (ks.zip ts)[i]?\(k,ts[i]'()) from by rw[Zf];calc#[hk,hti]] at ht;cases ht;let(v',g1,g2):=hq.get hti;rw[hvi] at g1;cases g1;have s:aP H (upd H p (.tup [.ref (nH o i),v])):=aE hp;calc#[s,dg (dJ.of aG) (aB.cons ((uB hb).same s) (aB.cons (g2.same s) aB.nil))]
section
variable{l:Expr}
def Rb(f:FE):FI:=λρ Q=>f ρ λt=>match t with
 |.df _ ks ts=>ks.length=27/\Q ((ks.zip ts).map YU)
 |_=>False
def Hb{f:FE}{x1}(h:VE X Z l f)(dB:attributeBase l "items" 19 (eval l 19)=eval l 19:=by rfl)(dC:(apos.endLine==bF.line)=true:=by rfl) :
  VI X Z (.Tuple elts x1 tp) (.Call (.Attribute l "items" apos) [] [] bF) (Rb f):=.mk λtm=>PI.weak (G' (h tm) dB dC) λσ H R #[ρ,O,q,I,hf,k]=>#[ρ,O,_,I,hf,λt ht v H' s a=>by
 cases t with
 |df o ks ts=>
   obtain⟨b,rfl⟩:∃b,v=.ref b:=by simp only[At] at a;let(b,_,e,_):=a;exact#[b,e]
   show#[b,o,ks,9,rW a,λp hp=>?_];have s2:aP H' (upd H' p (G_ p b)):=aE hp;calc k _ ht.2 _ _ [(.df o ks ts,.ref b)] (s.trans s2) (λp hp=>by rw[fP.mp hp];calc a.same s2) (Ha ht.1)
 |_=>calc ht.elim]
end
structure MG where
 a:Addr
 dx:Addr
 a1:Addr
 a2:Addr
 C:Addr
 H0:Hp
 n1:a≠a1
 n2:a≠a2
 n3:a1≠a2
 hb:Bool
def MG.Ox(M:MG):zm:=if M.hb=true then [M.a,M.a1,M.a2] else [M.a1,M.a2]
def MG.m1(M:MG):M.a1∈M.Ox:=by unfold MG.Ox;split<;>simp
def MG.m2(M:MG):M.a2∈M.Ox:=by unfold MG.Ox;split<;>simp
def MG.mem(M:MG){b:Addr}(h:b∈M.Ox):(M.hb=true/\b=M.a)\/b=M.a1\/b=M.a2:=by
 unfold MG.Ox at h;split at h
 rename_i z
 simp only[cY,eG,fv] at h;calc h.elim (λe=>.inl #[z,e]) .inr;simp only[cY,eG,fv] at h;calc .inr h
structure S2 where
 k1:List (List Key)
 t1:Φ
 k2:List (List Key)
 t2:Φ
abbrev fN:ω:=["names","cells"]
def Rc(K:qaf)(H:Hp)(A:zm)(a:Addr)(ks:List (List Key))(ts:Φ):Prop:=∃vs,ks.length=vs.length/\H a\.dT (ks.zip vs)/\aB K H A ts vs
structure SD(K:qaf)(M:MG)(s:S2)(H:Hp):Prop where
 ins:M.hb=true->H M.a\.ins M.C M.dx (fN.zip [.ref M.a1,.ref M.a2])
 d1:Rc K H M.Ox M.a1 s.k1 s.t1
 d2:Rc K H M.Ox M.a2 s.k2 s.t2
 fr:∀b o,M.H0 b\o->b∉M.Ox->H b\o
structure SG(K:qaf)(M:MG)(tm:qab)(ρ:En)(s:S2)(σ:St)(H:Hp):Prop where
 env:∃O,roots O=[]/\ax K #[H,[],M.Ox] tm O ρ σ H
 sd:SD K M s H
section
variable{M:MG}{tm:qab}{s:S2}
def Rc.same{A:zm}{ts:Φ}(h:Rc K H A a ks ts)(sm:aP H H'):Rc K H' A a ks ts:=let #[vs,l,e,q]:=h;#[vs,l,sm _ _ e,q.same sm]
def SD.same(h:SD K M s H)(sm:aP H H'):SD K M s H':=#[λz=>sm _ _ (h.ins z),h.d1.same sm,h.d2.same sm,λb o e n=>sm _ _ (h.fr b o e n)]
def SD.here(h:SD K M s H):∀b∈M.Ox,∃u,H b\u/\nA u=true:=λb hb=>by
 let(v1,_,e1,_):=h.d1;let(v2,_,e2,_):=h.d2;rcases M.mem hb with⟨z,rfl⟩|rfl|rfl
 calc#[_,h.ins z,9];calc#[_,e1,9];calc#[_,e2,9]
def iw(h:roots O=[]):av Z O=Z.Ox:=by unfold av;rw[h];rfl
def jB(ρ:En):Bool:=ρ.all λe=>match e with
 |some (_,true)=>false
 |_=>true
def n6(I:ax K Z tm O ρ σ H)(h:jB ρ=true):roots O=[]:=by
 cases q:roots O with
 |nil=>rfl
 |cons a l=>
  exfalso;have ha:=aF.mp (by rw[q];calc fM);let(i,hi):=JA.mp ha;have hl:i<ρ.length:=by rw[<- I.lO];exact (dy.mp hi).1
  have he:=f_ hl;let(o,s,h1,h2,h3):=I.sl i _ he;rw[hi] at h1;cases h1;have hv:=JD.mp h ρ[i] (B8 hl);revert h3 hv
  match ρ[i] with
  |none=>intro h3 _;cases h3
  |some (t,false)=>intro h3 _;calc nomatch h3.1
  |some (t,true)=>intro _ hv;cases hv
def ax.now(I:ax K Z tm O ρ σ H)(h:roots O=[]):ax K #[H,[],Z.Ox] tm O ρ σ H:=#[I.lσ,I.lO,I.sl,I.nd,λa ha=>(by rw[h] at ha;calc absurd ha eG),λp hp=>absurd hp eG,I.ox,λb o e _=>e,I.kj]
def SG.of(hZ:Z=#[H,[],M.Ox]){ρ':En}{σ':St}(d:SD K M s H)(I:ax K Z tm O ρ' σ' H')(hv:jB ρ'=true):SG K M tm ρ' s σ' H':=by subst hZ;calc#[#[O,n6 I hv,I.now (n6 I hv)],d.same λb o e=>I.keep b o e (λz=>absurd z eG)]
def mS(M:MG)(s:S2):Option (T×Bool)->Option (T×Bool)
 |some (.ob x,false)=>if x=M.a1 then some (.dt s.k1 s.t1,false) else if x=M.a2 then some (.dt s.k2 s.t2,false) else if x=M.a/\M.hb=true then some (.ins M.C fN [.pin M.a1 (.dt s.k1 s.t1),.pin M.a2 (.dt s.k2 s.t2)],false) else some (.ob x,false)
 |e=>e
def adl(M:MG)(s:S2)(z:M.hb=true):mS M s (some (.ob M.a,false))\(.ins M.C fN [.pin M.a1 (.dt s.k1 s.t1),.pin M.a2 (.dt s.k2 s.t2)],false):=by change (if M.a=M.a1 then _ else _)=_;rw[θ M.n1,θ M.n2,ι #[9,z]]
def adm(M:MG)(s:S2):mS M s (some (.ob M.a1,false))\(.dt s.k1 s.t1,false):=by change (if M.a1=M.a1 then _ else _)=_;rw[ι 9]
def mT(b:Option T):Option (T×Bool):=b.map λt=>(t,false)
def pB:jB []=true:=rfl
def zB(b:Option T)(ρ:En):jB (mT b::ρ)=jB ρ:=by cases b<;>rfl
def zC(t:T)(ρ:En):jB (some (t,false)::ρ)=jB ρ:=rfl
def Rc.at{A:zm}{ts:Φ}(h:Rc K H A a ks ts):At K H [] (.dt ks ts) (.ref a):=by let(vs,l,e,q):=h;calc#[a,vs,9,l,#[e,λz=>nomatch z],q.br λb hb=>nomatch hb]
def SD.at(h:SD K M s H)(z:M.hb=true):At K H [] (.ins M.C fN [.pin M.a1 (.dt s.k1 s.t1),.pin M.a2 (.dt s.k2 s.t2)]) (.ref M.a):=by show#[M.a,M.dx,[.ref M.a1,.ref M.a2],9,9,#[h.ins z,λz=>nomatch z],aB.cons ?_ (aB.cons ?_ aB.nil)];unfold At;calc#[9,h.d1.at];unfold At;calc#[9,h.d2.at]
def SG.up(g:SG K M tm ρ s σ H):∃O,roots O=[]/\ax K #[H,[],[]] tm O (ρ.map (mS M s)) σ H:=by
 let(O,hr,I):=g.env;show#[O,hr,#[by rw[bL];calc I.lσ,by rw[bL];calc I.lO,λi e he=>?_,I.nd,λa ha=>(by rw[hr] at ha;calc absurd ha eG),λp hp=>absurd hp eG,λa ha=>absurd ha eG,λb o e _=>e,λp hp=>?_]];have e0:av #[H,[],[]] O=[]:=iw hr;rw[d4] at he;cases q:ρ[i]? with
 |none=>rw[q] at he;cases he
 |some e1=>
  rw[q] at he;cases he;let(o,sv,h1,h2,h3):=I.sl i e1 q;show#[o,sv,h1,h2,?_];rw[e0];have plain:jW K H [] e1 o sv:=by show h3.map (λt v z=>z.br λb hb=>nomatch hb) λa t eo _=>?_;subst eo;have:=aF.mpr (eM h1);rw[hr] at this;exact nomatch this
  match e1,h3,plain with
  |some (.ob x,false),#[eo,v,es,av'],plain=>subst av';change jW K H [] (if x=M.a1 then _ else _) o sv;by_cases c1:x=M.a1;rw[ι c1];subst c1;calc#[eo,_,es,g.sd.d1.at];rw[θ c1];by_cases c2:x=M.a2;rw[ι c2];subst c2;calc#[eo,_,es,g.sd.d2.at];rw[θ c2];by_cases c3:x=M.a/\M.hb=true;rw[ι c3];let(rfl,c4):=c3;calc#[eo,_,es,g.sd.at c4];rw[θ c3];calc plain
  |none,_,plain=>calc plain
  |some (t,true),_,plain=>
   have:mS M s (some (t,true))\(t,true):=by cases t<;>rfl
   rw[this];calc plain
  |some (.bK,false),_,plain=>calc plain
  |some (.bl _,false),_,plain=>calc plain
  |some (.int _,false),_,plain=>calc plain
  |some (.str _,false),_,plain=>calc plain
  |some (.tup _,false),_,plain=>calc plain
  |some (.lst _,false),_,plain=>calc plain
  |some (.dk _ _,false),_,plain=>calc plain
  |some (.dt _ _,false),_,plain=>calc plain
  |some (.df _ _ _,false),_,plain=>calc plain
  |some (.kt _,false),_,plain=>calc plain
  |some (.ins _ _ _,false),_,plain=>calc plain
  |some (.pin _ _,false),_,plain=>calc plain
  |some (.ty _,false),_,plain=>exact plain
 rw[iw hr];calc (I.kj p hp).br λb hb=>nomatch hb
end
structure Hc where
 nx:En->S2->Prop
 rt:S2->T->Prop
 bk:En->S2->Prop:=λ_ _=>False
 ct:En->S2->Prop:=λ_ _=>False
structure He(K:qaf)(M:MG)(tm:qab)(d:Hc)(D:Ends):Prop where
 nx:∀ρ s σ H,SG K M tm ρ s σ H->d.nx ρ s->D.nx σ H
 rt:∀s H t v,SD K M s H->At K H M.Ox t v->d.rt s t->D.rt v H
 bk:∀ρ s σ H,SG K M tm ρ s σ H->d.bk ρ s->D.bk σ H
 ct:∀ρ s σ H,SG K M tm ρ s σ H->d.ct ρ s->D.ct σ H
abbrev nI:=Hc->En->S2->Prop
def WC(X:Cx)(M:MG)(tm:qab)(g:nI):TS:=λD σ H=>∃ρ s d,SG X.K M tm ρ s σ H/\g d ρ s/\He X.K M tm d D
def GS(X:Cx)(M:MG)(st:Stmt)(g:nI):Prop:=Bx λtm=>PS X st (WC X M tm g)
def L8(X:Cx)(M:MG)(st:qaq)(g:nI):Prop:=Bx λtm=>jF X st (WC X M tm g)
section
variable{M:MG}{st:Stmt}{g u:nI}{pos:Pos}
def WD:nI:=λd ρ s=>d.nx ρ s
def adn(g u:nI):nI:=λd ρ s=>g {d with nx:=u d} ρ s
def L9:L8 X M [] WD:=.mk λtm=>jF.km Az λD σ H #[ρ,s,d,I,h,F]=>F.nx ρ s σ H I h
def k0(h1:GS X M st g)(h2:L8 X M rest u):L8 X M (st::rest) (adn g u):=.mk λtm=>jF.km (iG (h1.h tm) (h2.h tm)) λD σ H #[ρ,s,d,I,h,F] =>
 #[ρ,s,{d with nx:=u d},I,h,#[λρ' s' σ' H' I' h'=>#[ρ',s',d,I',h',F],F.rt,F.bk,F.ct]]
def n9(h1:GS X M st g):L8 X M [st] g:=.mk λtm=>ka (h1.h tm)
def WE(d:Hc)(s:S2):KS:={nx:=λρ'=>jB ρ'=true/\d.nx ρ' s,rt:=λρ' r=>jB ρ'=true/\d.rt s r.t,bk:=λρ'=>jB ρ'=true/\d.bk ρ' s,ct:=λρ'=>jB ρ'=true/\d.ct ρ' s}
def wPl(g:FS):nI:=λd ρ s=>g (WE d s) ρ
def WG{tm:qab}{d:Hc}{D:Ends}{s:S2}(F:He K M tm d D)(sd:SD K M s H):Fin K #[H,[],M.Ox] tm (WE d s) D :=
 #[λO ρ σ H' I h=>F.nx ρ s σ H' (SG.of 9 sd I h.1) h.2,λO ρ σ H' r v z h=>by have I:=z.env;have hr:=n6 I h.1;have a:=z.at;rw[iw hr] at a;calc F.rt s H' r.t v (sd.same λb o e=>I.keep b o e (λq=>absurd q eG)) a h.2,λO ρ σ H' I h=>F.bk ρ s σ H' (SG.of 9 sd I h.1) h.2,λO ρ σ H' I h=>F.ct ρ s σ H' (SG.of 9 sd I h.1) h.2]
def xx{g:FS}(h:∀H0 Ox,VS X #[H0,[],Ox] st g):GS X M st (wPl g):=.mk λtm ε s' σ H D J #[ρ,s,d,S,hg,F]=>by let(O,hr,I):=S.env;calc h H M.Ox tm ε s' σ H D J #[ρ,O,_,I,hg,WG F S.sd]
def wIf(c:FB)(g u:nI):nI:=λd ρ s=>c ρ λb=>if b=true then g d ρ s else u d ρ s
def SG.i0{tm:qab}{s:S2}(S:SG K M tm ρ s σ H)(sm:aP H H'):SG K M tm ρ s σ H':=by let(O,hr,I):=S.env;calc#[#[O,hr,(I.same sm).now hr],S.sd.same sm]
theorem WH{fc:FB}{a b:qaq}(hc:∀H0 Ox,VC X #[H0,[],Ox] c fc)(ha:L8 X M a g)(hb:L8 X M b u):GS X M (.If c a b pos) (wIf fc g u):=.mk λtm ε s' σ H D J #[ρ,s,d,S,hg,F]=>by
 let(O,hr,I):=S.env;show Nx (hc H M.Ox tm) (ha.h tm) (hb.h tm) ε s' σ H D J #[ρ,O,_,I,hg,λb hb H' sm=>?_];cases b with
 |true=>rw[ι 9] at hb ⊢;calc#[ρ,s,d,S.i0 sm,hb,F]
 |false=>rw[θ jk] at hb ⊢;calc#[ρ,s,d,S.i0 sm,hb,F]
def mU(t:T):Prop:=(∃n,t=.int n)\/∃b,t=.bl b
def Hf(M:MG)(i:Nat)(f:FE):nI:=λd ρ s=>f (ρ.map (mS M s)) λt=>mU t/\d.nx (ρ.set i (some (t,false))) s
def pD{A A':zm}{t:T}(h:mU t)(a:At K H A t v):At K H' A' t v:=by
 obtain⟨n,rfl⟩|⟨b,rfl⟩:=h
 simp only[At] at a ⊢;calc a;simp only[At] at a ⊢;calc a
def Hg{f:FE}(hN:X.N.Nodup)(hi:X.N[i]?\x)(hx:Loc 41 x)(he:∀H0 Ox,VE X #[H0,[],Ox] e f)(hs:swapsWith e (some (.Name x pos')) pos.line 19=pure false:=by rfl)(hf:X.fn x=true\/X.env.scope.names.lookup x\.local:=by first|calc .inl rfl|calc .inr rfl|assumption):GS X M (.Assign [.Name x pos'] e pos) (Hf M i f):=.mk λtm ε s' σ H D J #[ρ,s,d,S,hg,F]=>by
 let(O2,yk,I2):=S.up;show sQ hN hi hx (he H [] tm) hs hf ε s' σ H D J #[_,O2,_,I2,hg,λt ht v H' sm a=>?_];have S':=S.i0 sm;let(O3,hr3,I3):=S'.env;show F.nx _ s _ H' #[#[O3.set i none,?_,?_],S'.sd] ht.2;cases q:roots (O3.set i none) with
 |nil=>rfl
 |cons b l=>have:=bS i b (by rw[q];calc fM);rw[hr3] at this;exact absurd this eG
 calc I3.put (λp hp=>absurd hp eG) (pD ht.1 a)
def S2.Dv(s:S2)(k:List Key)(t:T):S2:={s with k1:=jy s.k1 k,t1:=iu s.k1 s.t1 k t}
def N'(M:MG)(n m:Nat)(f:FE):nI:=λd ρ s=>f (ρ.map (mS M s)) λt=>mU t/\ρ[n]?\some (.ob M.a1,false)/\s.t1.length<16777216/\∃k,ρ[m]?\some (.kt k,false)/\d.nx ρ (s.Dv k t)
theorem Dw{tm:qab}{s:S2}{H1:Hp}{A:zm}{D:Ends}{d:Hc}{t:T}{k:List Key}(S1:SG X.K M tm ρ s σ H1)(F:He X.K M tm d D)(Rf:mU t)(a:At X.K H' A t v)(hn:ρ[n]?\some (.ob M.a1,false))(hlen:s.t1.length<16777216)(hk:ρ[m]?\some (.kt k,false))(hq:d.nx ρ (s.Dv k t)) :
  Ex n σ H1 λx H2=>Ex m σ H2 λy H3=>∃a H4,x=.ref a/\qO H3 a y v H4/\D.nx σ H4:=by
 let(O1,rX,I1):=S1.env;let(_,_,_,z1,_,v1,rfl,b1):=I1.sl n _ hn;let(_,_,_,z2,_,v2,rfl,b2):=I1.sl m _ hk;subst b1;let(b,rfl,hb,_):=b2;let(vs,hl,h1,h2):=S1.sd.d1;have hz:(s.k1.zip vs).length<sizeLine:=by
  rw[π,B9,hl,Jn,h2.length]
  lia
 have pq:=xw s.k1 vs k v hl;show#[.ref M.a1,z1,.ref b,z2,M.a1,_,9,qO.t h1 hb hz,?_];rw[pq.1];have LZ:=M.m1;have wr:∀{t:T}{v':V},At X.K H1 M.Ox t v'->At X.K (upd H1 M.a1 (.dT ((jy s.k1 k).zip (iu s.k1 vs k v)))) M.Ox t v':=λq=>At.wrote LZ h1 9 q;have WI:∀{t:Φ}{v':qak},aB X.K H1 M.Ox t v'->aB X.K (upd H1 M.a1 (.dT ((jy s.k1 k).zip (iu s.k1 vs k v)))) M.Ox t v':=λq=>aB.wrote LZ h1 9 q;have na:=M.n1;show F.nx ρ (s.Dv k t) σ _ #[#[O1,rX,I1.lσ,I1.lO,λi e he=>?_,I1.nd,λb hb=>(by rw[rX] at hb;calc absurd hb eG),λp hp=>absurd hp eG,λb hb=>?_,λb o e _=>e,λp hp=>?_],?_,?_,?_,λb o e n=>(by rw[az (λz=>n (by rw[z];calc LZ))];calc S1.sd.fr b o e n)] hq;let(o,sv,g1,g2,g3):=I1.sl i e he;show#[o,sv,g1,g2,?_];rw[iw rX] at g3 ⊢;show g3.map (λt v z=>wr z) λb t' eo _=>?_;subst eo;have:=aF.mpr (eM g1);rw[rX] at this;calc absurd this eG;by_cases e:b=M.a1;rw[e,aG];simp;rw[az e];let(u,eu,_):=S1.sd.here b hb;rw[eu];simp;have:=I1.kj p hp;rw[iw rX] at this ⊢;calc wr this;exact λz=>by rw[az na];exact S1.sd.ins z
 calc#[_,pq.2,aG,WI (ph h2 (pD Rf a))];let(Br,l2,e2,q2):=S1.sd.d2;calc#[Br,l2,by rw[az (Ne.symm M.n3)];calc e2,WI q2]
def L_(n m:Nat){f:FE}(hu:X.A.units+1<cLine)(he:∀H0 Ox,VE X #[H0,[],Ox] e f)(hN:X.N[n]?\x:=by rfl)(hv:m8 41 x:=by calc jvv 9)(hd:f9 x:=by decide)(gv:q_ x:=by decide)(Td:X.N[m]?\y:=by rfl)(Te:m8 41 y:=by calc jvv 9)(hd2:f9 y:=by decide)(xy:q_ y:=by decide)(hs:swapsWith e (some (.Subscript 52 (.Name y p2) dH)) pos.line 19=pure false:=by rfl):GS X M (.Assign [.Subscript 52 (.Name y p2) dH] e pos) (N' M n m f):=.mk λtm ε s' σ H D J #[ρ,s,d,S,hg,F]=>by let(O2,yk,I2):=S.up;show n5 hu (cA hN hv hd gv) (cA Td Te hd2 xy) (he H [] tm) hs ε s' σ H D J #[_,O2,_,I2,hg,λt ht v H1 sm a=>?_];let(Rf,hn,hlen,k,hk,hq):=ht;calc Dw (S.i0 sm) F Rf a hn hlen hk hq
def Hh(ts:Φ)(h:FG)(g:nI):nI:=λd ρ s=>∃Pv:Nat->En->S2->Prop,Pv 0 ρ s/\(∀(i:Nat) t ρ' s',ts[i]?\t->Pv i ρ' s'->h t ρ' λρ2=>jB ρ2=true/\g {nx:=Pv (i+1),ct:=Pv (i+1),bk:=d.nx,rt:=d.rt} ρ2 s')/\∀ρ' s',Pv 27 ρ' s'->d.nx ρ' s'
theorem rY{h:FG}{tm bp:qab}{s:S2}{d:Hc}{D:Ends}{ts:Φ}{J:It}(hK:X.K=K)(S:SG K M (bp++tm) ρ s σ H)(wk:Wk K J bp ts)(F:He K M tm d D)(hl:Hh ts h g d ρ s) :
  ∃W:Nat->Nat->St->Hp->Prop,(∃m,W 0 m σ H)/\∀i m σ H,W i m σ H->(J.stop i H/\D.nx σ H)\/(J.go i H/\∃N:St->Hp->Prop,(∀σ' H',N σ' H'->∃m',m'<m/\W (i+1) m' σ' H') /\
   ∀x H',J.SR i H x H'->(∃bp H0,lG X #[H0,[],M.Ox] (bp++tm) is h x σ H' λσ2 H2=>(∃bp,WC X M (bp++tm) g {D with nx:=N,ct:=N,bk:=D.nx} σ2 H2))):=by
 subst hK;let(Pv,p0,step,fin):=hl;have un:∀{ρ:En}{s:S2}{σ:St}{H:Hp},SG X.K M (bp++tm) ρ s σ H->SG X.K M tm ρ s σ H:=λ#[#[O,hr,I],sd]=>#[#[O,hr,I.qH λp hp=>I.kj p (iC _ hp)],sd];show#[λi m σ H=>m=27-i/\i<=27/\∃ρ s,SG X.K M (bp++tm) ρ s σ H/\Pv i ρ s,#[27,by simp,e_ _,ρ,s,S,p0],?_];rintro i m σ1 H1 ⟨rfl,hi,ρ1,s1,S1,p1⟩;let(O1,rX,I1):=S1.env;let(w1,w2,w3):=wk H1 M.Ox (λa ha=>by let(u,e,_):=S1.sd.here a ha;rw[e];simp) (λp hp=>by have:=I1.kj p (il _ hp);rw[iw rX] at this;calc this) i;by_cases c8:i<27;show .inr #[w1 c8,λσ' H'=>∃ρ s,SG X.K M (bp++tm) ρ s σ' H'/\Pv (i+1) ρ s,λσ' H' #[ρ',s',S',p']=>#[27-(i+1),(),9,c8,ρ',s',S',p'],λx H2 y=>?_];have e:ts[i]?\ts[i]:=by simp[c8]
 let(s2,a2):=w3 ts[i] e x H2 y;have S2':=S1.i0 s2;let(O2,yk,I2):=S2'.env;calc#[bp,H2,ρ1,O2,ts[i],_,I2,by rw[iw yk];calc a2,step i _ ρ1 s1 e p1,λρ2 h2 O3 σ3 I3 _ _ _ _=>#[bp,ρ2,s1,_,SG.of 9 S2'.sd I3 h2.1,h2.2,#[λρ s σ H I p=>#[ρ,s,I,p],λs H t v sd a p=>F.rt s H t v sd a p,λρ s σ H I p=>F.nx ρ s σ H (un I) p,λρ s σ H I p=>#[ρ,s,I,p]]]];have e:i=27:=by lia
 subst e;calc .inl #[w2 9,F.nx ρ1 s1 σ1 H1 (un S1) (fin ρ1 s1 p1)]
def ado(f:FI)(h:FG)(g:nI):nI:=λd ρ s=>f ρ λts=>Hh ts h g d ρ s
def SG.temps{tm bp:qab}{s:S2}(S:SG K M tm ρ s σ H)(h:∀p∈bp,At K H M.Ox p.1 p.2):SG K M (bp++tm) ρ s σ H:=by
 let(O,hr,I):=S.env;show#[#[O,hr,I.qH λp hp=>?_],S.sd];rcases gc.mp hp with z|z
 rw[iw hr];calc h p z;calc I.kj p z
def Rg{tg:Expr}{body:qaq}{f:FI}{h:FG}(hp:PassesOwn 22 X.A 19 X.xe)(hc:X.calm=true)(hi:∀H0 Ox,VI X #[H0,[],Ox] tg iter f)(hg:∀H0 Ox,VG X #[H0,[],Ox] tg is h)(hb:L8 X M body g)(hs:∀x,foldedSetIterable iter 19 x=pure x:=by intro _;rfl):GS X M (.For tg iter body [] pos) (ado f h g):=by show .mk λtm ε s' σ H D J #[ρ,s,d,S,hq,F]=>?_;let(O,hr,I):=S.env;show yy (g:=λv σ H Q=>∃bp H0,lG X #[H0,[],M.Ox] (bp++tm) is h v σ H Q) (tb:=λD σ H=>∃bp,WC X M (bp++tm) g D σ H) hp hc (hi H M.Ox tm) (λε s σ H v u Q I r #[bp,H0,z]=>hg H0 M.Ox (bp++tm) ε s σ H v u Q I r z) (λε s σ H D I #[bp,z]=>hb.h (bp++tm) ε s σ H D I z) hs ε s' σ H D J #[ρ,O,_,I,hq,λts gw J' H' bp sm a wk=>?_];rw[iw hr] at a;calc rY 9 ((S.i0 sm).temps a) wk F gw
def opq:T->Option T
 |.tup [.pin a _,.kt k,.int w]=>some (.tup [.ob a,.kt k,.int w])
 |.kt k=>some (.kt k)
 |_=>none
def Dx:Φ->Option (Φ)
 |[]=>some []
 |t::ts=>match opq t,Dx ts with
  |some u,some us=>some (u::us)
  |_,_=>none
def Rh{A:zm}{t u:T}(hA:∀b∈A,∃o,H b\o/\nA o=true)(e:opq t\u)(a:At K H [] t v):At K H A u v:=by
 unfold opq at e;split at e
 rename_i a' t' k w
 cases e;let(b,us,rfl,h2,h3):=gB.tup (.inl a);let(_,_,rfl,(rfl,_),_,_,rfl,(kb,rfl,hk),_,_,rfl,rfl,rfl):=h3;exact dg h2 (aB.cons (by simp only[At]) (aB.cons #[kb,9,hk] (aB.cons bJ aB.nil)))
 rename_i k
 cases e;let(kb,rfl,hk):=a;calc#[kb,9,hk];cases e
theorem Bs{K:qaf}{H:Hp}{A:zm}(hA:∀b∈A,∃o,H b\o/\nA o=true):∀{ts us:Φ}{vs:qak},Dx ts\us->aB K H [] ts vs->aB K H A us vs
 |[],us,vs,e,a=>by cases e;calc a
 |t::ts,us,vs,e,a=>by
  simp only[Dx] at e;split at e
  rename_i u Gk e1 e2
  cases e;let(v,r,rfl,h1,h2):=a;calc aB.cons (Rh hA e1 h1) (Bs hA e2 h2);cases e
def Hi(M:MG)(f:FE)(h:FG)(g:nI):nI:=λd ρ s=>f (ρ.map (mS M s)) λt=>match t with
 |.lst us=>∃ts,Dx us\ts/\Hh ts h g d ρ s
 |_=>False
def Ma{tg:Expr}{body:qaq}{f:FE}{h:FG}(hp:PassesOwn 22 X.A 19 X.xe)(hc:X.calm=true)(hi:∀H0 Ox,VE X #[H0,[],Ox] iter f)(hg:∀H0 Ox,VG X #[H0,[],Ox] tg is h)(hb:L8 X M body g)(hs:∀x,foldedSetIterable iter 19 x=pure x:=by intro _;rfl):GS X M (.For tg iter body [] pos) (Hi M f h g):=by
 show .mk λtm ε s' σ H D J #[ρ,s,d,S,hq,F]=>?_;let(O2,yk,I2):=S.up;show yy (g:=λv σ H Q=>∃bp H0,lG X #[H0,[],M.Ox] (bp++tm) is h v σ H Q) (tb:=λD σ H=>∃bp,WC X M (bp++tm) g D σ H) hp hc (Fz (hi H [] tm)) (λε s σ H v u Q I r #[bp,H0,z]=>hg H0 M.Ox (bp++tm) ε s σ H v u Q I r z) (λε s σ H D I #[bp,z]=>hb.h (bp++tm) ε s σ H D I z) hs ε s' σ H D J #[_,O2,_,I2,hq,λt ht v H' sm a=>?_];split at ht
 rename_i us
 let(ts,et,hl):=ht;rw[iw yk] at a;let(l,vs,rfl,hls,hv):=a;have S':=S.i0 sm;have at':At X.K H' M.Ox (.lst ts) (.ref l):=by
  show#[l,vs,9,?_,Bs S'.sd.here et hv];obtain z|z:=hls
  show .inl #[z.1,λm=>?_];let(o,eo,mo):=S'.sd.here l m;obtain q|⟨o',q⟩:=z.1
  rw[eo] at q;cases q;let(_,_,e1,_):=S'.sd.d1;let(_,_,e2,_):=S'.sd.d2;rcases M.mem m with⟨zb,rfl⟩|rfl|rfl
  rw[S'.sd.ins zb] at eo;cases eo;rw[e1] at eo;cases eo;rw[e2] at eo;cases eo;rw[eo] at q;cases q;cases mo;exact .inr z
 calc .inl #[l,9,#[vs,hls.sq],rY 9 (S'.temps λp hp=>by rw[fP.mp hp];calc at') AW F hl];calc ht.elim
end
section
variable{a:Expr}{fc:FE}{pos:Pos}
def Oa(g:FA):FP:=λρ Q=>g ρ λys=>match pd ys with
 |some k=>ys.length<=sizeLine/\Q (.vw (.kt k))
 |none=>False
def cn{x1}(h:VA X Z es g):VP X Z (.Tuple es x1 pos) (Oa g):=.mk λtm=>PE.weak (jT (h tm)) λσ H Q #[ρ,O,q,I,hf,k]=>#[ρ,O,_,I,hf,λys hy vs H1 s1 a1=>by
 split at hy
 rename_i kk ek
 show#[by rw[a1.length];calc hy.1,λp hp=>?_];have s2:aP H1 (upd H1 p (.tup vs)):=aE hp;calc k _ hy.2 _ _ (s1.trans s2) #[(I.same s1).same s2,#[p,9,by rw[<- iZ a1 ek];calc aG,λz=>nomatch z]];calc hy.elim]
def Mb:T->Option (List (List Key)×Φ)
 |.dt ks ts=>some (ks,ts)
 |.pin _ (.dt ks ts)=>some (ks,ts)
 |.df _ ks ts=>some (ks,ts)
 |_=>none
def YV(H:Hp)(a:Addr)(u:List (List Key×V)):Prop:=H a=some (.dT u)\/∃o,H a\.jS o (.dT u)
def YV.same{a:Addr}{u:List (List Key×V)}(h:YV H a u)(sm:aP H H'):YV H' a u:=h.elim (λz=>.inl (sm _ _ z)) λ#[o,z]=>.inr #[o,sm _ _ z]
def Bt{A:zm}{t:T}{ts:Φ}(h:gB K H A t v)(e:Mb t\(ks,ts)):∃a vs,v=.ref a/\ks.length=vs.length/\YV H a (ks.zip vs)/\aB K H A ts vs:=by
 unfold Mb at e;split at e;cases e;let(a,vs,h1,h2,h3,h4):=h.dt;calc#[a,vs,h1,h2,.inl h3,h4];cases e;obtain h|⟨_,_,r⟩:=h
 simp only[At] at h;let(_,h):=h;let(a,vs,h1,h2,h3,h4):=gB.dt (.inl (by simp only[At];calc h));calc#[a,vs,h1,h2,.inl h3,h4];calc r.elim;cases e;let(a,vs,h1,h2,h3,h4):=h.df;calc#[a,vs,h1,h2,.inr #[_,h3],h4];cases e
def Hj(fa fb fc:FE):FP:=λρ Q=>fa ρ λx=>match Mb x with
 |some (ks,ts)=>fb ρ λy=>fc ρ λz=>match y with
  |.kt k=>Q (.vw ((cC ks ts k).getD z))
  |_=>False
 |none=>False
def eC(hu:X.A.units+1<cLine)(ha:VR X Z a fa)(hb:VE X Z b fb)(hc:VE X Z c fc)(m:M2 X a "get" apos b c bF):VP X Z (.Call (.Attribute a "get" apos) [b,c] [] bF) (Hj fa fb fc):=.mk λtm=>PE.weak (xf hu (ha tm) (hb tm) (hc tm) m) λσ H Q #[ρ,O,q,I,hf,k] =>
 #[ρ,O,_,I,hf,λx hx v H1 s1 a1=>by
  split at hx
  rename_i ks ts ed
  let(l,vs,rfl,hl,hd,hv):=Bt a1 ed;show#[l,9,.inr #[_,hd],ρ,O,_,I.same s1,hx,λy hy w H2 s2 a2=>#[ρ,O,_,(I.same s1).same s2,hy,λz hz u H3 s3 a3=>?_]];split at hz
  rename_i kk
  let(b,rfl,hb,_):=a2;show#[_,.inr #[_,kk,b,(hd.same s2).same s3,9,s3 _ _ hb,9],?_];rw[gH];calc k _ hz _ H3 ((s1.trans s2).trans s3) #[((I.same s1).same s2).same s3,Bq ((hv.same s2).same s3) a3];calc hz.elim;calc hx.elim]
def Hk(fa fb:FE):FP:=λρ Q=>fa ρ λx=>fb ρ λy=>match Mb x,y with
 |some (ks,ts),.kt k=>∃t,cC ks ts k\t/\Q (.vw t)
 |_,_=>False
def Bu(hu:X.A.units+1<cLine)(ha:VR X Z a fa)(hb:VE X Z b fb)(hs:Dd b:=by intro _ _;rfl):VP X Z (.Subscript a b pos) (Hk fa fb):=.mk λtm=>PE.weak (nZ hu (ha tm) (hb tm) hs) λσ H Q #[ρ,O,q,I,hf,k] =>
 #[ρ,O,_,I,hf,λx hx v H1 s1 a1=>#[ρ,O,_,I.same s1,hx,λy hy w H2 s2 a2=>by
  split at hy
  rename_i ks ts kk ed
  let(t,e1,hq):=hy;let(l,vs,rfl,hl,hd,hv):=Bt (a1.same s2) ed;let(u,e2,e3):=(jh hv).1 t e1;let(b,rfl,hb,_):=a2;calc#[l,u,9,.inr #[_,kk,b,hd,9,hb,by rw[gH,e2]],k _ hq _ H2 (s1.trans s2) #[(I.same s1).same s2,e3]];calc hy.elim]]
end
def Ob(K:qaf)(C:Addr)(G:T->S2->(S2->T->Prop)->Prop):Sp:=λvs H Q _=>E5 λ(M:MG) (s:S2) (l:T) (v0:V) (q:S2->T->Prop)=>(M.C=C/\M.hb=true)/\vs=[v0,.ref M.a]/\At K H M.Ox l v0/\SD K {M with H0:=H} s H/\G l s q /\
 ∀s' t,q s' t->∀v H',SD K {M with H0:=H} s' H'->At K H' M.Ox t v->Q v H'
section
def fnG{st:Stmt}{N:ω}{k:Nat}{G:T->S2->(S2->T->Prop)->Prop}(F:Ef K x qual st f fd)(S:aI N ps (aq st))(hn:2=ps.length)(hN:2<=N.length)(gz:∀(bP:Value) (A:Around) (outer:List Env) (s:Shared) (H:Hp) (E:XK) (M:MG),M.C=C->M.hb=true->bA k (A.deeper (envOfC qual (aq st) 8 f bP))->∀l s0 q,G l s0 q ->
    ∃g,L8 (ke i8 P w K mg base N qual (aq st) f bP A outer s H E).Ed M (cw st) g/\g {nx:=λ_ _=>False,rt:=q} (some (l,false)::some (.ob M.a,false)::List.replicate (N.length-2) none) s0) :
  dA P w K mg base i8 (k+1) f fd ps (Ob K C G):=by
 show F.ok S (λvs H Q E h=>?_) (λbP A outer s H vs Q E hr h=>?_);let(M,s,l,v0,q,_,rfl,_):=h;calc hn;let(M,s0,l,v0,q,(hC,hB),rfl,a0,sd,hG,kk):=h;let(g,hg,hq):=gz bP A outer s H E {M with H0:=H} hC hB hr l s0 q hG;show#[_,hg.h [],_,s0,_,#[#[List.replicate N.length none,hU _,?_],sd],hq,#[λ_ _ _ _ _ z=>z.elim,λs' H' t v sd' a z=>kk s' t z v H' sd' a,λ_ _ _ _ _ z=>z.elim,λ_ _ _ _ _ z=>z.elim]];have:=rN (ts:=[l,.ob M.a]) (vs:=[v0,.ref M.a]) (by simpa using hN) (λb hb=>by let(u,e,_):=sd.here b hb;rw[e];simp) (aB.cons a0 (aB.cons (by simp only[At]) aB.nil));calc this
end
end VT
variable{M:VT.MG}
namespace BS
open PySem PySem.Builtin PyProof.Rows
def ib(x:Int)(k:Nat):Bool:=decide (x / 2 ^ k % 2=1)
def two_pos(k:Nat):(0:Int)<2 ^ k:=Int.pow_pos 5
def gJ(k:Nat):((2 ^ k:Nat):Int)=2 ^ k:=by rw[Int.natCast_pow];rfl
def cM(n k:Nat):ib (n:Int) k=n.testBit k:=by
 unfold ib;rw[Nat.testBit_eq_decide_div_mod_eq,<- gJ];have:(n / ((2 ^ k:Nat):Int) % 2=1)↔(n / 2 ^ k % 2=1):=by rw[<- Int.natCast_ediv];lia
 calc decide_eq_decide.mpr this
def fE(x:Int)(k:Nat):ib (bitNot x) k=!ib x k:=by
 unfold ib bitNot;have h:(-x-1) / 2 ^ k=-(x / 2 ^ k)-1:=by
  have hp:=two_pos k;have e1:=Int.mul_ediv_add_emod x (2 ^ k);show (Int.ediv_emod_unique hp (r:=2 ^ k-1-x % 2 ^ k)).mpr #[?_,?_,?_] |>.1
  have:2 ^ k * (-(x / 2 ^ k)-1)=-(2 ^ k * (x / 2 ^ k))-2 ^ k:=by rw[Int.mul_sub,Int.mul_neg,Int.mul_one]
  rw[this];lia;omega;omega
 by_cases q:x / 2 ^ k % 2=1;rw[ο q,ς ()];rfl;rw[ς q,ο ()];rfl
def zD{x y:Int}(h:∀k,ib x k=ib y k):x=y:=by
 have pos:∀(m n:Nat),(∀k,ib m k=ib n k)->m=n:=λm n q=>Nat.eq_of_testBit_eq λk=>by rw[<- cM,<- cM];exact q k
 have mix:∀(m:Nat) y,¬ 0<=y->¬ ∀k,ib m k=ib y k:=by intro m y hy q;have hn:=aag.mpr hy;let(n,hn):=nM hn;have h1:=q (m+n);rw[<- aar y,fE,hn,cM,cM] at h1;have a1:=Nat.testBit_lt_two_pow (Yc (Nat.le_add_right m n) Nat.lt_two_pow_self);have a2:=Nat.testBit_lt_two_pow (Yc (Nat.le_add_left n m) Nat.lt_two_pow_self);rw[a1,a2] at h1;cases h1
 by_cases hx:0<=x;let(m,rfl):=nM hx;by_cases hy:0<=y;let(n,rfl):=nM hy;calc Ω _ (pos m n h);calc (mix m y hy h).elim;by_cases hy:0<=y;let(n,rfl):=nM hy;calc (mix n x hx λk=>(h k).symm).elim;have a:=aag.mpr hx;have b:=aag.mpr hy;let(m,hm):=nM a;let(n,hn):=nM b;have:=pos m n λk=>by rw[<- hm,<- hn,fE,fE,h k]
 rw[<- aar x,<- aar y,hm,hn,this]
def xA(x m:Nat):x-(x &&& m)=x ^^^ (x &&& m):=by
 have h:=nat_or_add_and (x ^^^ (x &&& m)) (x &&& m);have e1:(x ^^^ (x &&& m)) ||| (x &&& m)=x:=Nat.eq_of_testBit_eq λk=>by simp only[Nat.testBit_or,Nat.testBit_xor,Nat.testBit_and];cases x.testBit k<;>cases m.testBit k<;>rfl
 have e2:(x ^^^ (x &&& m)) &&& (x &&& m)=0:=Nat.eq_of_testBit_eq λk=>by simp only[Nat.testBit_xor,Nat.testBit_and,Nat.zero_testBit];cases x.testBit k<;>cases m.testBit k<;>rfl
 lia
def zE(x y:Int)(k:Nat):ib (bitAnd x y) k=(ib x k && ib y k):=by
 have pn:∀(m:Nat) y,¬ 0<=y->ib (m-((m &&& (bitNot y).toNat:Nat):Int)) k=(ib m k && ib y k):=by
  intro m y hy;let(n,hn):=nM (aag.mpr hy);have e:ib y k=!n.testBit k:=by rw[<- aar y,fE,hn,cM]
  rw[hn,j6,<- Int.ofNat_sub Nat.and_le_left,xA,cM,cM,e];simp only[Nat.testBit_xor,Nat.testBit_and];cases m.testBit k<;>cases n.testBit k<;>rfl
 by_cases hx:0<=x;let(m,rfl):=nM hx;by_cases hy:0<=y;let(n,rfl):=nM hy;rw[bitAnd_pp hx hy,j6,j6,cM,cM,cM,Nat.testBit_and];rw[bitAnd_pn hx hy,j6];calc pn m y hy;by_cases hy:0<=y;let(n,rfl):=nM hy;rw[bitAnd_np hx hy,j6,pn n x hx,Bool.and_comm];let(m,hm):=nM (aag.mpr hx);let(n,hn):=nM (aag.mpr hy);rw[bitAnd_nn hx hy,hm,hn,j6,j6,fE,cM,Nat.testBit_or,<- cM,<- cM,<- hm,<- hn,fE,fE];cases ib x k<;>cases ib y k<;>rfl
def rZ(x y:Int)(k:Nat):ib (bitOr x y) k=(ib x k || ib y k):=by unfold bitOr;rw[fE,zE,fE,fE];cases ib x k<;>cases ib y k<;>rfl
def dZ(k:Nat):ib 0 k=false:=by have:=cM 0 k;rw[Nat.zero_testBit] at this;calc this
def Hl(x:Int)(j k:Nat):ib (x / 2 ^ j) k=ib x (j+k):=by unfold ib;rw[Int.ediv_ediv_of_nonneg (Int.le_of_lt (two_pos j)),<- Int.pow_add]
def zF(x:Int)(j k:Nat):ib (x % 2 ^ j) k=(decide (k<j) && ib x k):=by
 have pos:∀n:Nat,ib (n % 2 ^ j) k=(decide (k<j) && n.testBit k):=λn=>by rw[<- gJ,<- Int.natCast_emod,cM,Nat.testBit_mod_two_pow]
 by_cases hx:0<=x;let(m,rfl):=nM hx;rw[pos,cM];let(m,hm):=nM (aag.mpr hx);have e:x=-m-1:=by unfold bitNot at hm;lia
 have hp:=two_pos j;have e2:x % 2 ^ j=2 ^ j-1-m % 2 ^ j:=by
  have e1:=Int.mul_ediv_add_emod m (2 ^ j);show (Int.ediv_emod_unique hp (q:=-(m / 2 ^ j)-1)).mpr #[?_,?_,?_] |>.2
  have:2 ^ j * (-(m / 2 ^ j)-1)=-(2 ^ j * ((m:Int) / 2 ^ j))-2 ^ j:=by rw[Int.mul_sub,Int.mul_neg,Int.mul_one]
  rw[this];lia;omega
  lia
 have e3:x % 2 ^ j=((2 ^ j-(m % 2 ^ j+1):Nat):Int):=by
  have c8:m % 2 ^ j<2 ^ j:=Nat.mod_lt _ (Nat.two_pow_pos j);have a1:(m:Int) % 2 ^ j=((m % 2 ^ j:Nat):Int):=by rw[Int.natCast_emod,gJ]
  have a2:=gJ j
  lia
 have hb:ib x k=!m.testBit k:=by rw[<- aar x,fE,hm,cM]
 rw[e3,cM,Nat.testBit_two_pow_sub_succ (Nat.mod_lt _ (Nat.two_pow_pos j)),Nat.testBit_mod_two_pow,hb];by_cases q:k<j;rw[ο q,yr,yr,yr];rw[ς q,Jl,Jl]
def Ri(x:Int)(j k:Nat):ib (x * 2 ^ j) k=(decide (j<=k) && ib x (k-j)):=by by_cases h:j<=k;let(d,rfl):=Nat.exists_eq_add_of_le h;rw[ο h,yr,Nat.add_sub_cancel_left,<- Hl,Int.mul_ediv_cancel _ (Int.ne_of_gt (two_pos j))];rw[ς h,Jl];have q:=zF (x * 2 ^ j) j k;rw[Int.mul_emod_left,dZ,ο (),yr] at q;calc q.symm
def uD(k:Nat):ib 1 k=decide (k=0):=by
 cases k with
 |zero=>decide
 |succ k=>have h:(1:Int) / 2 ^ (k+1)=0:=Int.ediv_eq_zero_of_lt 5 (by rw[Int.pow_succ];have:=two_pos k;lia);unfold ib;rw[h];rfl
def Hm(j k:Nat):ib (2 ^ j) k=decide (k=j):=by have h:=Ri 1 j k;rw[Int.one_mul,uD] at h;rw[h];by_cases e:k=j;subst e;simp;rw[ς e];by_cases l:j<=k;rw[ς (by lia:¬ k-j=0),TX];rw[ς l,Jl]
def Bv(j k:Nat):ib (1 * 2 ^ j) k=decide (k=j):=by rw[Int.one_mul,Hm]
def Rj{x y:Int}(h:0<=x):0<=bitAnd x y:=by
 by_cases hy:0<=y;rw[bitAnd_pp h hy];calc SA _;rw[bitAnd_pn h hy];have:x.toNat &&& (bitNot y).toNat<=x.toNat:=Nat.and_le_left
 lia
def Oc{x y:Int}(h:0<=x)(h':0<=y):0<=bitOr x y:=by unfold bitOr;rw[bitAnd_nn (λq=>(aag.mp q) h) (λq=>(aag.mp q) h'),aar];calc SA _
theorem Mc(x:Int):bitAnd x 1=if ib x 0=true then 1 else 0:=zD λk=>by
 rw[zE,uD];by_cases e:k=0;subst e;cases q:ib x 0 with
 |true=>rw[ι 9,uD];rfl
 |false=>rw[θ 5,dZ];rfl
 rw[ς e,TX];split;rw[uD,ς e];rw[dZ]
def zG(x:Int)(k:Nat):bitAnd (x / 2 ^ k) 1=if ib x k=true then 1 else 0:=by rw[Mc,Hl,Nat.add_zero]
def sub(y x:Int):Prop:=∀k,ib y k=true->ib x k=true
def d8(x:Int):sub x x:=λ_ h=>h
def Dy{x y z:Int}(h:sub x y)(h':sub y z):sub x z:=λk q=>h' k (h k q)
theorem eU{x y:Int}(h:sub x y)(h':sub y x):x=y:=zD λk=>by
 cases q:ib x k with
 |true=>rw[h k q]
 |false=>
  cases r:ib y k with
  |false=>rfl
  |true=>rw[h' k r] at q;cases q
def f7(x y:Int):sub x (bitOr x y):=λk h=>by rw[rZ,h];rfl
def eV(x y:Int):sub y (bitOr x y):=λk h=>by rw[rZ,h,Bool.or_true]
def uE{x y z:Int}(h:sub x z)(h':sub y z):sub (bitOr x y) z:=λk q=>by rw[rZ,Bool.or_eq_true] at q;calc q.elim (h k) (h' k)
def sub_zero(x:Int):sub 0 x:=λk h=>by rw[dZ] at h;cases h
def below(m:Nat)(x:Int):Prop:=0<=x/\x<2 ^ m
def below.bit{x:Int}(h:below m x){k:Nat}(hk:ib x k=true):k<m:=by have e:=Int.emod_eq_of_lt h.1 h.2;rw[<- e,zF,iE] at hk;calc ψ hk.1
def pF{x:Int}(h0:0<=x)(h:∀k,ib x k=true->k<m):below m x:=by
 show#[h0,?_];have e:x=x % 2 ^ m:=zD λk=>by
  rw[zF];cases q:ib x k with
  |false=>rw[TX]
  |true=>rw[ο (h k q)];rfl
 rw[e];calc ye _ (two_pos m)
def Dz{x y:Int}(h:below m x):below m (bitAnd x y):=pF (Rj h.1) λk hk=>by rw[zE,iE] at hk;calc h.bit hk.1
def i4{x y:Int}(h:below m x)(h':below m y):below m (bitOr x y):=pF (Oc h.1 h'.1) λk hk=>by rw[rZ,Bool.or_eq_true] at hk;calc hk.elim h.bit h'.bit
def fF(m:Nat):below m 0:=#[Int.le_refl _,two_pos m]
def DA(h:j<m):below m (2 ^ j):=pF (Int.le_of_lt (two_pos j)) λk hk=>by rw[Hm] at hk;rw[ψ hk];calc h
def hY(h:j<m):below m (1 * 2 ^ j):=by rw[Int.one_mul];calc DA h
def closed(net:qan)(x:Int):Prop:=∀(k:Nat)(y:Int),net[k]?\y->ib x k=true->sub y x
end BS
namespace ym
open PySem L2 VT BS
open PySem.Builtin (bitOr)
abbrev Ent:=(Int×Str)×Int
def kK(k:Int×Str):List Key:=[.inl k.1,.inr k.2]
def h7{a b:Int×Str}:kK a=kK b↔a=b:=by
 constructor;intro h;unfold kK at h;injection h with h1 h2
 injection h2 with h2 h3
 injection h1 with h1
 injection h2 with h2
 calc Prod.ext h1 h2;rintro rfl;rfl
def bZ(E:List Ent):List (List Key):=E.map λe=>kK e.1
def cp(E:List Ent):Φ:=E.map λe=>.int e.2
def j8(e:Ent):T:=.tup [.int e.1.1,.str e.1.2,.int e.2]
def gK(E:List Ent)(k:Int×Str):Bool:=E.any λe=>decide (e.1=k)
def dm(E:List Ent)(k:Int×Str)(v:Int):List Ent:=if gK E k=true then E.map (λe=>if e.1=k then (e.1,v) else e) else E++[(k,v)]
def Hn(E:List Ent)(k:Int×Str):mh (bZ E) (kK k)=gK E k:=by
 unfold mh bZ gK;rw[List.any_map]
 congr 1
 funext e;calc decide_eq_decide.mpr h7
def j1(E:List Ent)(k:Int×Str)(v:Int):jy (bZ E) (kK k)=bZ (dm E k v):=by unfold jy dm;rw[Hn];by_cases h:gK E k=true;rw[ι h,ι h];unfold bZ;rw[qv];show Es λe _=>?_;change kK e.1=kK (if e.1=k then (e.1,v) else e).1;split<;>rfl;rw[θ h,θ h];unfold bZ;rw[qo];rfl
def dh(E:List Ent)(k:Int×Str)(v:Int):iu (bZ E) (cp E) (kK k) (.int v)=cp (dm E k v):=by
 unfold iu dm;rw[Hn];by_cases h:gK E k=true;rw[ι h,ι h];clear h;unfold bZ cp;induction E with
 |nil=>rfl
 |cons e E ih=>
  simp only[fO,Zm];rw[ih]
  congr 1
  by_cases z:e.1=k;rw[ι z,ι (h7.mpr z)];rw[θ z,θ (λq=>z (h7.mp q))]
 rw[θ h,θ h];unfold cp;rw[qo];rfl
def Od(p:Int×Str->Bool)(b:Int)(e:Ent):Int:=if p e.1=true then bitOr b e.2 else b
def Oe(p:Int×Str->Bool)(E:List Ent):Int:=E.foldl (Od p) 0
def dZ(k:Nat):ib 0 k=false:=by have:ib ((0:Nat):Int) k=(0:Nat).testBit k:=cM 0 k;rw[Nat.zero_testBit] at this;calc this
theorem Ho(p:Int×Str->Bool)(k:Nat):∀(E:List Ent)(b:Int),ib (E.foldl (Od p) b) k=(ib b k || E.any λe=>p e.1 && ib e.2 k)
 |[],b=>by simp
 |e::E,b=>by
  rw[JF,Ho p k E,Ca];unfold Od;cases p e.1 with
  |true=>rw[ι 9,rZ,yr,Bool.or_assoc]
  |false=>rw[θ jk,Jl,SK]
def Md{p:Int×Str->Bool}{E:List Ent}{e:Ent}(h:E[i]?\e):Oe p (E.take (i+1))=Od p (Oe p (E.take i)) e:=by unfold Oe;rw[TN,h,SF];rfl
def uF{E:List Ent}(nd:(E.map (·.1)).Nodup){e:Ent}(h:e∈E):cC (bZ E) (cp E) (kK e.1)\.int e.2:=by
 induction E with
 |nil=>cases h
 |cons x E ih=>
  change (if kK x.1=kK e.1 then some (T.int x.2) else cC (bZ E) (cp E) (kK e.1))=_;rw[fO,oa] at nd;rcases cY.mp h with rfl|h
  rw[ι 9];rw[θ (λz=>nd.1 (by rw[h7.mp z];calc List.mem_map_of_mem h)),ih nd.2 h]
def gL(f:α->β):∀{zs ys:List β},zs.Perm ys->∀{E:List α},ys=E.map f->∃F:List α,F.Perm E/\zs=F.map f:=by
 intro zs ys p;induction p with
 |nil=>intro E e;cases E with
  |nil=>calc#[[],.nil,9]
  |cons a E=>cases e
 |cons x _ ih=>
  intro E e;cases E with
  |nil=>cases e
  |cons a E=>
   rw[fO] at e;injection e with e1 e2
   let(F,p,q):=ih e2;calc#[a::F,p.cons a,by rw[fO,q,e1]]
 |swap x y l=>
  intro E e;cases E with
  |nil=>cases e
  |cons a E=>cases E with
   |nil=>rw[fO,SN] at e;injection e with _ e;cases e
   |cons b E=>
    rw[fO,fO] at e;injection e with e1 e2
    injection e2 with e2 e3
    calc#[b::a::E,.swap _ _ _,by rw[fO,fO,e1,e2,e3]]
 |trans _ _ QZ Q0=>intro E e;let(F,p,q):=Q0 e;let(F',p',q'):=QZ q;calc#[F',p'.trans p,q']
end ym
variable{F:List ym.Ent}
namespace BS
open PySem PySem.Builtin PyProof.Rows
def mem(x:Int):qao:=(List.range (Builtin.Int.intBits x)).filter (ib x)
def Me{x:Int}(h0:0<=x):x<2 ^ Builtin.Int.intBits x:=by
 unfold Builtin.Int.intBits;by_cases e:x=0;subst e;decide;rw[θ (by simpa using e)];let(n,rfl):=nM h0;have hn:n≠0:=by lia
 rw[Int.natAbs_natCast];have:=(Nat.log2_lt hn (k:=n.log2+1)).mp (Ar _);rw[<- gJ];calc Int.ofNat_lt.mpr this
def bits_le{x:Int}(h:below m x):Builtin.Int.intBits x<=m:=by
 unfold Builtin.Int.intBits;split;exact e_ _
 rename_i e
 let(n,rfl):=nM h.1;have hn:n≠0:=by intro z;subst z;exact e 9
 rw[Int.natAbs_natCast];have h2:=h.2;rw[<- gJ] at h2;have:=(Nat.log2_lt hn (k:=m)).mpr (Int.ofNat_lt.mp h2)
 lia
def Rk{x:Int}(h0:0<=x){k:Nat}(hk:ib x k=true):k<Builtin.Int.intBits x:=below.bit #[h0,Me h0] hk
def mem_iff{x:Int}(h0:0<=x){k:Nat}:k∈mem x↔ib x k=true:=by unfold mem;rw[D_,m6];calc#[λh=>h.2,λh=>#[Rk h0 h,h]]
end BS
namespace TS
open PySem PyProof.Rows
end TS
namespace TS
open PySem PySem.Spec PyProof.Rows L2 VT
section
variable(L:α->α->Bool)
variable{L}
theorem filter_lt{p q:α->Bool}:∀{l:List α},(∀x∈l,p x=true->q x=true)->∀{y},y∈l->p y=false->q y=true->(l.filter p).length<(l.filter q).length
 |x::l,h,y,hy,h1,h2=>by
  have le:∀{l:List α},(∀x∈l,p x=true->q x=true)->(l.filter p).length<=(l.filter q).length:=by
   intro l;induction l with
   |nil=>intro _;calc cv _
   |cons x l ih=>
    intro h;have:=ih λz hz=>h z (gT _ hz);rw[Yf,Yf];cases hp:p x with
    |true=>rw[h x 4 hp];simpa using this
    |false=>
     cases hq:q x with
     |true=>simp;lia
     |false=>simpa using this
  have hl:=λz hz=>h z (gT x hz);rw[Yf,Yf];rcases cY.mp hy with rfl|hy
  rw[h1,h2];have:=le hl;simp;lia;have ih:=filter_lt hl hy h1 h2;cases hp:p x with
  |true=>rw[h x 4 hp];simpa using ih
  |false=>
   cases hq:q x with
   |true=>simp;lia
   |false=>simpa using ih
end
abbrev Tr:=Int×Str×Int
section
open Classical in
end
end TS
namespace SO
open PySem PyProof.Rows PyProof
variable{κ:SortKind}{lt:Kd->Kd->Bool}{G:Kd->Prop}
end SO
namespace TS
open PySem PySem.Spec PyProof.Rows L2 VT
end TS
namespace MK
open PySem L2 VT Gen BS K5 ym
open PySem.Builtin (bitOr)
def bo(E:List Ent)(k:Int×Str):Int:=match E with
 |[]=>0
 |e::E=>if e.1=k then e.2 else bo E k
theorem eI(k:Int×Str):∀E:List Ent,(cC (bZ E) (cp E) (kK k)).getD (.int 0)=.int (bo E k)
 |[]=>rfl
 |e::E=>by change (if kK e.1=kK k then some (T.int e.2) else cC (bZ E) (cp E) (kK k)).getD (.int 0)=.int (if e.1=k then e.2 else bo E k);by_cases z:e.1=k;rw[ι z,ι (h7.mpr z)];rfl;rw[θ z,θ (λq=>z (h7.mp q))];calc eI k E
theorem k5(h n:Int):∀E:List Ent,cC (bZ E) (cp E) [.inl h,.inl n]=none
 |[]=>rfl
 |e::E=>by change (if kK e.1=[.inl h,.inl n] then some (T.int e.2) else cC (bZ E) (cp E) [.inl h,.inl n])=none;rw[θ (λz=>by unfold kK at z;injection z with _ z;injection z with z _;cases z)];calc k5 h n E
def xB(k k':Int×Str)(v:Int)(E:List Ent):bo (dm E k v) k'=if k'=k then v else bo E k':=by
 unfold dm;by_cases h:gK E k=true;rw[ι h];induction E with
 |nil=>cases h
 |cons e E ih=>
  rw[fO];change (if (if e.1=k then (e.1,v) else e).1=k' then (if e.1=k then (e.1,v) else e).2 else bo (E.map _) k')=if k'=k then v else if e.1=k' then e.2 else bo E k'
  by_cases q:e.1=k;rw[ι q];by_cases q2:k'=k;rw[ι q2,ι (q.trans q2.symm)];rw[θ q2,θ (λz=>q2 (z.symm.trans q)),θ (λz=>q2 (z.symm.trans q))];by_cases h2:gK E k=true;rw[ih h2,θ q2];have:∀l:List Ent,¬ gK l k=true->(l.map λe=>if e.1=k then (e.1,v) else e)=l:=λl hl=>by
   conv=>rhs;rw[<- List.map_id l]
   show Es λx hx=>?_;rw[θ λz=>hl (Nq.mpr #[x,hx,ο z])];rfl
  rw[this E h2];rw[θ q];have h2:gK E k=true:=by unfold gK at h ⊢;rw[Ca,ς q,SK] at h;exact h
  rw[ih h2];by_cases q3:e.1=k';rw[ι q3,ι q3,θ (λz=>q (q3.trans z))];rw[θ q3,θ q3]
 rw[θ h];induction E with
 |nil=>
  change (if k=k' then v else 0)=if k'=k then v else 0
  by_cases q:k'=k;rw[ι q,ι q.symm];rw[θ q,θ (λz=>q z.symm)]
 |cons e E ih=>
  have h1:¬ e.1=k:=λz=>h (by unfold gK;rw[Ca,ο z];rfl);have h2:¬ gK E k=true:=λz=>h (by unfold gK at z ⊢;rw[Ca,z,Bool.or_true]);change (if e.1=k' then e.2 else bo (E++[(k,v)]) k')=if k'=k then v else if e.1=k' then e.2 else bo E k'
  rw[ih h2];by_cases q3:e.1=k';rw[ι q3,ι q3,θ (λz=>h1 (q3.trans z))];rw[θ q3,θ q3]
def Mf(k:Int×Str)(v:Int)(E:List Ent):cC (bZ (dm E k v)) (cp (dm E k v)) (kK k)\.int v:=by
 have h:gK (dm E k v) k=true:=by unfold dm;by_cases h:gK E k=true;rw[ι h];let(e,he,z):=Nq.mp h;have z:e.1=k:=ψ z;calc Nq.mpr #[(e.1,v),gy.mpr #[e,he,by rw[ι z]],ο z];rw[θ h];exact Nq.mpr #[(k,v),iC _ (fP.mpr 9),ο 9]
 have e1:=eI k (dm E k v);rw[xB,ι 9] at e1;have:∀F:List Ent,gK F k=true->∃t,cC (bZ F) (cp F) (kK k)\t:=λF=>by
  induction F with
  |nil=>intro z;cases z
  |cons e F ih=>intro z;change ∃t,(if kK e.1=kK k then some (T.int e.2) else cC (bZ F) (cp F) (kK k))\t;by_cases q:e.1=k;calc#[_,ι (h7.mpr q)];rw[θ (λx=>q (h7.mp x))];unfold gK at z;rw[Ca,ς q,SK] at z;exact ih z
 let(t,ht):=this _ h;rw[ht] at e1 ⊢;calc Ω some e1
def k6(k:Ky):Str:=match nU k with
 |.str x=>if nN.ff x=true then x else "#"
 |_=>"#"
def gr(E:List Ent)(h:Nat):j7->Int
 |.nm y=>bo E ((h:Int),y)
 |.nu _=>0
def YW(F:List Ent)(x:Int)(c:Str):Int:=(mem x).foldl (λt (j:Nat)=>bitOr t (bo F ((j:Int),c))) 0
abbrev Wt:=Bool×(Int×Str)×Int
def wOf(E F:List Ent)(i h:Nat):Rw->List Wt
 |.new x=>[(true,((h:Int),x),1 * 2 ^ ((i:Int)).toNat)]
 |.put x o=>[(true,((h:Int),x),gr E h o)]
 |.get x y k=>[(true,((h:Int),x),YW F (bo E ((h:Int),y)) (k6 k))]
 |.set y k o=>(mem (bo E ((h:Int),y))).map λ(j:Nat)=>(false,((j:Int),k6 k),gr E h o)
 |_=>[]
def okR:Rw->Bool
 |.call _ _ _=>false
 |_=>true
def adp(a1 a2:Addr)(E F:List Ent)(b:Bool):T:=if b=true then .pin a1 (.dt (bZ E) (cp E)) else .pin a2 (.dt (bZ F) (cp F))
def wT(a1 a2:Addr)(E F:List Ent)(p:Wt):T:=.tup [adp a1 a2 E F p.1,.kt (kK p.2.1),.int p.2.2]
inductive Pl
 |nm (h:Nat) (x:Str)
 |cl (h:Nat) (x c:Str)
 |rw (i:Nat)
 |zr
abbrev Mv:=Pl×Pl
abbrev nk(h:Nat)(x:Str):Int×Str:=((h:Int),x)
def Hq(h:Nat):j7->Pl
 |.nm y=>.nm h y
 |.nu _=>.zr
def fnOf(rs:qal)(g:Str):Option (Nat×List Str×j7):=match qN (bb rs 6) g with
 |some s=>match rs[s]?,endsAt 28 6 s with
  |some (.df _ ps),some e=>match rs[e]? with
   |some (.give o)=>some (s,ps,o)
   |_=>none
  |_,_=>none
 |none=>none
def vN(rs:qal)(i h:Nat):Rw->List Mv
 |.new x=>[(.nm h x,.rw i)]
 |.put x o=>[(.nm h x,Hq h o)]
 |.get x y k=>[(.nm h x,.cl h y (k6 k))]
 |.set y k o=>[(.cl h y (k6 k),Hq h o)]
 |.call x g as=>match fnOf rs g with
  |some (s,ps,o)=>(.nm h x,Hq s o)::(ps.zip as).map λz=>(.nm s z.1,Hq h z.2)
  |none=>[]
 |_=>[]
def Em(rs:qal)(i:Nat):List Mv:=match rs[i]?,gx 28 i with
 |some r,some h=>vN rs i h r
 |_,_=>[]
def k7(rs:qal):List Mv:=(List.range 6).flatMap (Em rs)
def isNm:Pl->Bool
 |.nm _ _=>true
 |_=>false
def jC(E F:List Ent):Pl->Int
 |.nm h y=>bo E (nk h y)
 |.cl h y c=>YW F (bo E (nk h y)) c
 |.rw i=>1 * 2 ^ ((i:Int)).toNat
 |.zr=>0
def Mh(E:List Ent):Pl->List (Int×Str)
 |.nm h x=>[nk h x]
 |.cl h y c=>(mem (bo E (nk h y))).map λ(j:Nat)=>((j:Int),c)
 |_=>[]
def wM(E F:List Ent)(m:Mv):List Wt:=(Mh E m.1).map λk=>(isNm m.1,k,jC E F m.2)
def wA(rs:qal)(E F:List Ent)(i:Nat):List Wt:=(Em rs i).flatMap (wM E F)
structure Tb where
 E:List Ent
 F:List Ent
 b:Bool
def Tb.get(p:Tb)(w:Bool)(k:Int×Str):Int:=if w=true then bo p.E k else bo p.F k
def Tb.put(p:Tb)(w:Bool)(k:Int×Str)(v:Int):Tb:=if w=true then {p with E:=dm p.E k v} else {p with F:=dm p.F k v}
def jD(p:Tb)(w:Wt):Tb:={p.put w.1 w.2.1 (bitOr (p.get w.1 w.2.1) w.2.2) with b:=p.b || !decide (bitOr (p.get w.1 w.2.1) w.2.2=p.get w.1 w.2.1)}
def YX(rs:qal)(p:Tb)(i:Nat):Tb:=(wA rs p.E p.F i).foldl jD p
def bB(rs:qal)(E F:List Ent)(n:Nat):Tb:=(List.range n).foldl (YX rs) #[E,F,false]
def gM(rs:qal)(E F:List Ent)(n:Nat):bB rs E F (n+1)=YX rs (bB rs E F n) n:=by unfold bB;rw[TU,SF];rfl
def ji(p:Tb)(w:Wt)(b:Bool)(k:Int×Str):(jD p w).get b k=if b=w.1/\k=w.2.1 then bitOr (p.get w.1 w.2.1) w.2.2 else p.get b k:=by let(wb,wk,wv):=w;unfold jD Tb.put Tb.get;cases wb<;>cases b<;>simp[xB]
def Rl(n:Nat)(w:Bool)(m:Mv):List (Int×Str):=match w,m.1 with
 |true,.nm h x=>[nk h x]
 |false,.cl _ _ c=>(List.range n).map λ(j:Nat)=>((j:Int),c)
 |_,_=>[]
def ix(n:Nat)(M:List Mv)(w:Bool):List (Int×Str):=M.flatMap (Rl n w)
structure Iv(n:Nat)(M:List Mv)(p:Tb):Prop where
 nE:(p.E.map (·.1)).Nodup
 nF:(p.F.map (·.1)).Nodup
 kE:∀e∈p.E,e.1∈ix n M true
 kF:∀e∈p.F,e.1∈ix n M false
 bl:∀w k,below n (p.get w k)
def pG{E:List Ent}{k:Int×Str}{v:Int}(nd:(E.map (·.1)).Nodup):((dm E k v).map (·.1)).Nodup/\∀e∈dm E k v,e.1=k\/∃e'∈E,e'.1=e.1:=by
 unfold dm;by_cases h:gK E k=true;rw[ι h];have e:(E.map (λe=>if e.1=k then (e.1,v) else e)).map (·.1)=E.map (·.1):=by rw[qv];show Es λe _=>?_;change (if e.1=k then (e.1,v) else e).1=e.1;split<;>rfl
 show#[by rw[e];calc nd,λx hx=>?_];let(y,hy,rfl):=gy.mp hx;calc .inr #[y,hy,by split<;>rfl];rw[θ h];show#[?_,λx hx=>?_];rw[qo,List.nodup_append];show#[nd,by simp,λa ha b hb e=>?_];have hb:b=k:=by simpa using hb
 subst e;subst hb;let(y,hy,e):=gy.mp ha;calc h (Nq.mpr #[y,hy,ο e]);rcases gc.mp hx with z|z
 calc .inr #[x,z,9];rw[fP.mp z];calc .inl 9
theorem fG{α β:Type}{f:β->List α}{m:Nat}(h:∀i,(f i).length<=m):∀l:List β,(l.flatMap f).length<=l.length * m
 |[]=>by simp
 |i::l=>by
  have:=fG h l;have:=h i;rw[List.flatMap_cons,lq,vI,Nat.add_mul]
  lia
theorem sub_len{α:Type}[DecidableEq α]:∀{l U:List α},l.Nodup->(∀x∈l,x∈U)->l.length<=U.length
 |[],U,_,_=>e_ _
 |x::l,U,nd,h=>by
  rw[oa] at nd;have hx:=h x fM;have:=sub_len (U:=U.erase x) nd.2 λy hy=>(List.mem_erase_of_ne (λe=>nd.1 (by rw[<- e];calc hy))).mpr (h y (gT _ hy));rw[List.length_erase_of_mem hx] at this;have:=List.length_pos_of_mem hx;rw[vI]
  lia
def Le(p p':Tb):Prop:=∀w k,sub (p.get w k) (p'.get w k)
def Le.refl(p:Tb):Le p p:=λ_ _=>d8 _
def Le.trans{p q r:Tb}(h:Le p q)(g:Le q r):Le p r:=λw k=>Dy (h w k) (g w k)
def zH{l:qao}{f:Nat->Int}(h:∀j,below n (f j)):∀x,below n x->below n (l.foldl (λt j=>bitOr t (f j)) x):=by
 induction l with
 |nil=>calc λx h=>h
 |cons j l ih=>calc λx hx=>ih _ (i4 hx (h j))
def Mi(n:Nat)(m:Mv):Prop:=match m.2 with
 |.rw i=>i<n
 |_=>True
section
variable{M:List Mv}{p q r:Tb}{m:Mv}
theorem r6(w:Bool):(ix n M w).length<=M.length * (n+1):=fG (λm=>by unfold Rl;split;simp;rw[bL,rh];lia;simp) M
def Iv.Rm(I:Iv n M p):p.E.length<=M.length * (n+1):=by
 have:=sub_len I.nE λk hk=>by let(e,he,rfl):=gy.mp hk;exact I.kE e he
 rw[bL] at this;calc jR this (r6 true)
def Iv.Ro(I:Iv n M p):p.F.length<=M.length * (n+1):=by
 have:=sub_len I.nF λk hk=>by let(e,he,rfl):=gy.mp hk;exact I.kF e he
 rw[bL] at this;calc jR this (r6 false)
def Iv.bool(I:Iv n M p)(b:Bool):Iv n M {p with b:=b}:=#[I.nE,I.nF,I.kE,I.kF,I.bl]
def Iv.pos(I:Iv n M p):∀e∈p.F,0<=e.1.1:=λe he=>by
 let(m,_,h):=sN.mp (I.kF e he);unfold Rl at h;split at h
 rename_i z _;cases z
 let(j,_,z):=gy.mp h;rw[<- z];calc SA j;cases h
def Iv.step(I:Iv n M p){w:Wt}(hk:w.2.1∈ix n M w.1)(hb:below n w.2.2):Iv n M (jD p w):=by
 have AJ:∀b k,below n ((jD p w).get b k):=λb k=>by rw[ji];split;calc i4 (I.bl _ _) hb;exact I.bl b k
 let(wb,wk,wv):=w;cases wb with
 |true=>let(h1,h2):=pG I.nE;calc#[h1,I.nF,λe he=>(h2 e he).elim (λz=>by rw[z];calc hk) λ#[e',Jv,z]=>by rw[<- z];calc I.kE e' Jv,I.kF,AJ]
 |false=>let(h1,h2):=pG I.nF;calc#[I.nE,h1,I.kE,λe he=>(h2 e he).elim (λz=>by rw[z];calc hk) λ#[e',Jv,z]=>by rw[<- z];calc I.kF e' Jv,AJ]
def DB(I:Iv n M p)(h:Mi n m):below n (jC p.E p.F m.2):=by
 let(g,o):=m;cases o with
 |nm h y=>calc I.bl true _
 |cl h y c=>calc zH (λj=>I.bl false _) 0 (fF _)
 |rw i=>change below n (1 * 2 ^ ((i:Int)).toNat);rw[j6];calc hY h
 |zr=>calc fF _
def Mj(I:Iv n M p)(hm:m∈M){k:Int×Str}(hk:k∈Mh p.E m.1):k∈ix n M (isNm m.1):=by
 show sN.mpr #[m,hm,?_];let(g,o):=m;cases g with
 |nm h x=>calc hk
 |cl h y c=>let(j,hj,rfl):=gy.mp hk;have b:=I.bl true (nk h y);calc gy.mpr #[j,m6.mpr (b.bit ((mem_iff b.1).mp hj)),9]
 |_=>cases hk
def adq(I:Iv n M p)(hm:m∈M)(h:Mi n m){w:Wt}(hw:w∈wM p.E p.F m):w.2.1∈ix n M w.1/\below n w.2.2:=by let(k,hk,rfl):=gy.mp hw;calc#[Mj I hm hk,DB I h]
def Nw(n:Nat)(M:List Mv)(p p':Tb):Prop:=E3 λw k b=>k∈ix n M w/\b<n/\ib (p.get w k) b=false/\ib (p'.get w k) b=true
def Nw.le(h:Nw n M p q)(g:Le q r):Nw n M p r:=let #[w,k,b,h1,h2,h3,h4]:=h;#[w,k,b,h1,h2,h3,g w k b h4]
def Nw.ge(g:Le p q)(h:Nw n M q r):Nw n M p r:=by
 let(w,k,b,h1,h2,h3,h4):=h;show#[w,k,b,h1,h2,?_,h4];cases z:ib (p.get w k) b with
 |false=>rfl
 |true=>rw[g w k b z] at h3;cases h3
def Hr{w:Wt}:Le p (jD p w):=λb k=>by
 rw[ji];split
 rename_i h
 rw[h.1,h.2];calc f7 _ _;calc d8 _
def Rp{w:Wt}(hk:w.2.1∈ix n M w.1)(hb:below n w.2.2)(h:(jD p w).b=true):p.b=true\/Nw n M p (jD p w):=by
 have h:(p.b || !decide (bitOr (p.get w.1 w.2.1) w.2.2=p.get w.1 w.2.1))=true:=h;cases hp:p.b with
 |true=>calc .inl 9
 |false=>
  rw[hp,SK] at h;have eY:bitOr (p.get w.1 w.2.1) w.2.2≠p.get w.1 w.2.1:=λz=>by rw[ο z] at h;cases h
  right
  have hs:=λz=>eY (eU (uE (d8 _) z) (f7 _ _));obtain⟨b,h1,h2⟩:∃b,ib w.2.2 b=true/\¬ ib (p.get w.1 w.2.1) b=true:=X2 λz=>hs λb hb=>X2 λy=>z #[b,hb,y];show#[w.1,w.2.1,b,hk,hb.bit h1,by simpa using h2,?_];rw[ji,ι #[9,9]];calc eV _ _ b h1
theorem uG:∀{l:List Wt}{p:Tb},Iv n M p->(∀w∈l,w.2.1∈ix n M w.1/\below n w.2.2)->Iv n M (l.foldl jD p)/\Le p (l.foldl jD p)/\((l.foldl jD p).b=true->p.b=true\/Nw n M p (l.foldl jD p))
 |[],p,I,_=>#[I,Le.refl p,.inl]
 |w::l,p,I,h=>by
  have h0:=h w fM;let(h1,h2,h3):=uG (I.step h0.1 h0.2) λv hv=>h v (gT _ hv);show#[h1,Hr.trans h2,λhb=>?_];rcases h3 hb with z|z
  rcases Rp h0.1 h0.2 z with z|z
  calc .inl z;calc .inr (z.le h2);calc .inr (z.ge Hr)
def WJ(n:Nat)(M:List Mv):List ((Bool×Int×Str)×Nat):=[true,false].flatMap λw=>(ix n M w).flatMap λk=>(List.range n).map λb=>((w,k),b)
def mu(n:Nat)(M:List Mv)(p:Tb):Nat:=((WJ n M).filter λx=>!ib (p.get x.1.1 x.1.2) x.2).length
def WK(h:Le p q)(w:Nw n M p q):mu n M q<mu n M p:=by
 let(w,k,b,h1,h2,h3,h4):=w;show TS.filter_lt (λx _ z=>?_) (y:=((w,k),b)) ?_ (by rw[h4];rfl) (by rw[h3];rfl);cases q:ib (p.get x.1.1 x.1.2) x.2 with
 |false=>rfl
 |true=>rw[h _ _ _ q] at z;cases z
 calc sN.mpr #[w,by cases w<;>simp,sN.mpr #[k,h1,gy.mpr #[b,m6.mpr h2,9]]]
def Rq(n:Nat)(M:List Mv):Iv n M #[[],[],false]:=#[Jm,Jm,λe h=>(nomatch h),λe h=>(nomatch h),λw k=>by cases w<;>calc fF n]
end
abbrev Sf:=Bool->Int×Str->Int
def gS(S:Sf)(g:Pl)(w:Bool)(k:Int×Str):Prop:=match g with
 |.nm h x=>w=true/\k=nk h x
 |.cl h y c=>w=false/\∃j:Nat,ib (S true (nk h y)) j=true/\k=((j:Int),c)
 |_=>False
def hS(S:Sf)(o:Pl)(b:Nat):Prop:=match o with
 |.nm h y=>ib (S true (nk h y)) b=true
 |.cl h y c=>∃j:Nat,ib (S true (nk h y)) j=true/\ib (S false ((j:Int),c)) b=true
 |.rw i=>b=i
 |.zr=>False
def DC(S:Sf)(m:Mv):Prop:=∀w k b,gS S m.1 w k->hS S m.2 b->ib (S w k) b=true
def Ls(M:List Mv)(p:Tb):Prop:=∀S,(∀m∈M,DC S m)->∀w k,sub (p.get w k) (S w k)
def Hs{l:qao}{f:Nat->Int}{b:Nat}:∀{x:Int},ib (l.foldl (λt j=>bitOr t (f j)) x) b=true↔ib x b=true\/∃j∈l,ib (f j) b=true:=by
 induction l with
 |nil=>intro x;simp
 |cons j l ih=>intro x;rw[JF,ih,rZ,Bool.or_eq_true,or_assoc];simp
section
variable{M:List Mv}{p q:Tb}{m:Mv}
def Ht(I:Iv n M p){g:Pl}{w:Bool}{k:Int×Str}:gS p.get g w k↔w=isNm g/\k∈Mh p.E g:=by
 cases g with
 |nm h x=>calc#[λh=>#[h.1,fP.mpr h.2],λh=>#[h.1,fP.mp h.2]]
 |cl h y c=>have b:=I.bl true (nk h y);show#[λ#[h1,j,h2,h3]=>#[h1,gy.mpr #[j,(mem_iff b.1).mpr h2,h3.symm]],λ#[h1,h2]=>#[h1,?_]];let(j,hj,e):=gy.mp h2;calc#[j,(mem_iff b.1).mp hj,e.symm]
 |rw i=>calc#[False.elim,λh=>nomatch h.2]
 |zr=>calc#[False.elim,λh=>nomatch h.2]
def uH(I:Iv n M p){o:Pl}{b:Nat}:hS p.get o b↔ib (jC p.E p.F o) b=true:=by
 cases o with
 |nm h y=>calc Iff.rfl
 |cl h y c=>
  have e:=I.bl true (nk h y);change _↔ib (List.foldl _ 0 _) b=true;rw[Hs,BS.dZ];show#[λ#[j,h1,h2]=>.inr #[j,(mem_iff e.1).mpr h1,h2],λh=>?_];obtain h|⟨j,h1,h2⟩:=h
  cases h;calc#[j,(mem_iff e.1).mp h1,h2]
 |rw i=>change b=i↔ib (1 * 2 ^ ((i:Int)).toNat) b=true;rw[j6,Bv,aaf]
 |zr=>calc#[False.elim,λh=>by rw[show jC p.E p.F .zr=0 from 9,BS.dZ] at h;cases h]
def Ml{S S':Sf}(h:∀w k,sub (S w k) (S' w k)){g:Pl}{w:Bool}{k:Int×Str}(x:gS S g w k):gS S' g w k:=by
 cases g with
 |cl a y c=>let(h1,j,h2,h3):=x;calc#[h1,j,h _ _ _ h2,h3]
 |_=>calc x
def Mm{S S':Sf}(h:∀w k,sub (S w k) (S' w k)){o:Pl}{b:Nat}(x:hS S o b):hS S' o b:=by
 cases o with
 |nm a y=>calc h _ _ _ x
 |cl a y c=>let(j,h2,h3):=x;calc#[j,h _ _ _ h2,h _ _ _ h3]
 |_=>calc x
def pH(I:Iv n M p){S:Sf}(c:DC S m)(hp:∀w k,sub (p.get w k) (S w k)){k:Int×Str}(hk:k∈Mh p.E m.1):sub (jC p.E p.F m.2) (S (isNm m.1) k):=λb hb=>
 c _ _ b (Ml hp ((Ht I).mpr #[9,hk])) (Mm hp ((uH I).mpr hb))
def Of(I:Iv n M p)(h:∀k∈Mh p.E m.1,sub (jC p.E p.F m.2) (p.get (isNm m.1) k)):DC p.get m:=λw k b x y=>by let(rfl,hk):=(Ht I).mp x;calc h k hk b ((uH I).mp y)
def WL{S:Sf}(h:m.2=.zr):DC S m:=λw k b _ y=>by rw[h] at y;calc y.elim
theorem Ls.jD(h:Ls M p){w:Wt}(hw:∀S,(∀m∈M,DC S m)->sub w.2.2 (S w.1 w.2.1)):Ls M (jD p w):=λS hS b k=>by
 rw[ji];split
 rename_i z
 rw[z.1,z.2];calc uE (h S hS _ _) (hw S hS);calc h S hS b k
theorem Bw:∀{l:List Wt}{p:Tb},Ls M p->(∀w∈l,∀S,(∀m∈M,DC S m)->sub w.2.2 (S w.1 w.2.1))->Ls M (l.foldl MK.jD p)
 |[],p,L,_=>L
 |w::l,p,L,h=>Bw (l:=l) (L.jD λS hS=>h w fM S hS) λv hv=>h v (gT _ hv)
def Rr:Ls M #[[],[],false]:=λS hS w k=>by cases w<;>calc sub_zero _
theorem xD:∀{l:List Wt}{p:Tb},(l.foldl MK.jD p).b=false->p.b=false/\(∀b k,(l.foldl MK.jD p).get b k=p.get b k)/\∀w∈l,sub w.2.2 (p.get w.1 w.2.1)
 |[],p,h=>#[h,λ_ _=>rfl,λw h=>nomatch h]
 |w::l,p,h=>by
  let(h1,h2,h3):=xD (l:=l) h;have h1:(p.b || !decide (bitOr (p.get w.1 w.2.1) w.2.2=p.get w.1 w.2.1))=false:=h1;rw[Bool.or_eq_false_iff] at h1;have e:=X2 λz=>by have:=h1.2;rw[ς z] at this;cases this
  have g:∀b k,(MK.jD p w).get b k=p.get b k:=λb k=>by
   rw[ji];split
   rename_i z;rw[z.1,z.2];exact e
   rfl
  show#[h1.1,λb k=>(h2 b k).trans (g b k),λv hv=>?_];rcases cY.mp hv with rfl|hv
  rw[<- e];calc eV _ _;rw[<- g];calc h3 v hv
end
section
theorem Hu:∀m∈k7 rs,Mi 6 m:=λm hm=>by
 let(i,hi,hm):=sN.mp hm;have hi:=m6.mp hi;unfold Em at hm;have op:∀g a o,Mi 6 (g,Hq a o):=λg a o=>by cases o<;>trivial
 split at hm
 rename_i r h _ _
 cases r with
 |new x=>rw[fP.mp hm];calc hi
 |put x o=>rw[fP.mp hm];calc op _ _ _
 |get x y k=>rw[fP.mp hm];trivial
 |set y k o=>rw[fP.mp hm];calc op _ _ _
 |call x g as=>
  simp only[vN] at hm;split at hm;rcases cY.mp hm with rfl|hm
  calc op _ _ _;let(z,_,rfl):=gy.mp hm;calc op _ _ _;cases hm
 |_=>cases hm
 cases hm
def Hv{M:List Mv}(hM:∀m∈k7 rs,m∈M){p:Tb}(I:Iv 6 M p)(hi:i<6){w:Wt}(hw:w∈wA rs p.E p.F i):∃m∈k7 rs,w∈wM p.E p.F m/\w.2.1∈ix 6 M w.1/\below 6 w.2.2:=by let(m,hm,hw):=sN.mp hw;have hm:=sN.mpr #[i,m6.mpr hi,hm];calc#[m,hm,hw,adq I (hM m hm) (Hu m hm) hw]
theorem k8{M:List Mv}(hM:∀m∈k7 rs,m∈M){E F:List Ent}{b:Bool}(I:Iv 6 M #[E,F,b]):∀n≤rs.length,Iv 6 M (bB rs E F n)/\Le #[E,F,b] (bB rs E F n)/\((bB rs E F n).b=true->Nw 6 M #[E,F,b] (bB rs E F n))
 |0,_=>#[I.bool false,λ_ _=>d8 _,λh=>nomatch h]
 |n+1,h=>by
  let(I',h1,h2):=k8 hM I n ();rw[gM];let(g1,g2,g3):=uG (l:=wA rs (bB rs E F n).E (bB rs E F n).F n) I' λw hw=>(Hv hM I' () hw).choose_spec.2.2;show#[g1,h1.trans g2,λhb=>?_];rcases g3 hb with z|z
  calc (h2 z).le g2;calc z.ge h1
theorem By{E F:List Ent}{b:Bool}(I:Iv 6 (k7 rs) #[E,F,b])(L:Ls (k7 rs) #[E,F,b]):∀n≤rs.length,Ls (k7 rs) (bB rs E F n)
 |0,_=>L
 |n+1,h=>by have L':=By I L n ();have I':=(k8 (λ_ h=>h) I n ()).1;rw[gM];show Bw L' λw hw S hS=>?_;let(m,hm,hw,_):=Hv (λ_ h=>h) I' () hw;let(k,hk,rfl):=gy.mp hw;calc pH I' (hS m hm) (λw k=>L' S hS w k) hk
def j3(rs:qal):Nat->Tb
 |0=>#[[],[],false]
 |m+1=>bB rs (j3 rs m).E (j3 rs m).F 6
theorem xE(rs:qal):∀m,Iv 6 (k7 rs) (j3 rs m)/\Ls (k7 rs) (j3 rs m)
 |0=>#[Rq _ _,Rr]
 |m+1=>by let(I,L):=xE rs m;calc#[(k8 (λ_ h=>h) I 6 (cv _)).1,By I L 6 (cv _)]
def xF{p q:Tb}(h:∀b k,p.get b k=q.get b k)(m:Mv):wM p.E p.F m=wM q.E q.F m:=by
 have hE:∀k,bo p.E k=bo q.E k:=λk=>h true k;have hF:∀k,bo p.F k=bo q.F k:=λk=>h false k;let(g,o):=m;have e1:Mh p.E g=Mh q.E g:=by cases g<;>simp only[Mh,hE]
 have e2:jC p.E p.F o=jC q.E q.F o:=by cases o<;>simp only[jC,YW,hE,hF]
 unfold wM;rw[e1,e2]
theorem pI{E F:List Ent}:∀n,(bB rs E F n).b=false->(∀b k,(bB rs E F n).get b k=Tb.get #[E,F,false] b k)/\∀i<n,∀w∈wA rs E F i,sub w.2.2 (Tb.get #[E,F,false] w.1 w.2.1)
 |0,_=>#[λ_ _=>rfl,λi h=>absurd h (TV i)]
 |n+1,h=>by rw[gM] at h ⊢;let(h1,h2,h3):=xD h;let(g1,g2):=pI n h1;show#[λb k=>(h2 b k).trans (g1 b k),λi hi w hw=>?_];by_cases z:i=n;subst z;have e:wA rs (bB rs E F i).E (bB rs E F i).F i=wA rs E F i:=Ω (λf=>List.flatMap f (Em rs i)) (funext λm=>xF g1 m);have:=h3 w (by rw[e];calc hw);rw[g1] at this;calc this;calc g2 i () w hw
theorem r8:∀{l:List Wt}{p:Tb},(∀w∈l,sub w.2.2 (p.get w.1 w.2.1))->(l.foldl jD p).b=p.b/\∀b k,(l.foldl jD p).get b k=p.get b k
 |[],p,_=>#[9,λ_ _=>rfl]
 |w::l,p,h=>by
  have e:bitOr (p.get w.1 w.2.1) w.2.2=p.get w.1 w.2.1:=eU (uE (d8 _) (h w fM)) (f7 _ _);have eb:(jD p w).b=p.b:=by change (p.b || !decide _)=p.b;rw[ο e];cases p.b<;>rfl
  have eg:∀b k,(jD p w).get b k=p.get b k:=λb k=>by
   rw[ji];split
   rename_i z;rw[e,z.1,z.2]
   rfl
  let(h1,h2):=r8 (l:=l) (p:=jD p w) λv hv=>by rw[eg];exact h v (gT _ hv)
  calc#[h1.trans eb,λb k=>(h2 b k).trans (eg b k)]
theorem mi{M:List Mv}{E F:List Ent}(I:Iv 6 M #[E,F,false])(h:∀m∈k7 rs,DC (Tb.get #[E,F,false]) m):∀n≤rs.length,(bB rs E F n).b=false/\∀b k,(bB rs E F n).get b k=Tb.get #[E,F,false] b k
 |0,_=>#[9,λ_ _=>rfl]
 |n+1,hn=>by
  let(h1,h2):=mi I h n ();rw[gM];have e:wA rs (bB rs E F n).E (bB rs E F n).F n=wA rs E F n:=Ω (λf=>List.flatMap f (Em rs n)) (funext λm=>xF h2 m);let(g1,g2):=r8 (l:=wA rs (bB rs E F n).E (bB rs E F n).F n) (p:=bB rs E F n) λw hw=>by rw[e] at hw;rw[h2];let(m,hm,hw):=sN.mp hw;let(k,hk,rfl):=gy.mp hw;exact pH I (h m (sN.mpr #[n,m6.mpr (),hm])) (λw k=>d8 _) hk
  calc#[g1.trans h1,λb k=>(g2 b k).trans (h2 b k)]
def mV{M:List Mv}{E:List Ent}(I:Iv 6 M #[E,F,false])(h:(bB rs E F 6).b=false):∀m∈k7 rs,DC (bB rs E F 6).get m:=by let(g1,g2):=pI 6 h;rw[show (bB rs E F rs.length).get=Tb.get #[E,F,false] from funext λb=>funext λk=>g1 b k];intro m hm;let(i,hi,hm'):=sN.mp hm;calc Of I λk hk=>g2 i (m6.mp hi) (isNm m.1,k,jC E F m.2) (sN.mpr #[m,hm',gy.mpr #[k,hk,9]])
end
def pC(x:Int)(c:Str)(k:Int×Str):Bool:=decide (k.2=c) && ib x k.1.toNat
def uI(E F:List Ent):Pl->Int
 |.rw i=>1 * 2 ^ ((i:Int)).toNat
 |.nm h y=>bo E (nk h y)
 |.cl h y c=>Oe (pC (bo E (nk h y)) c) F
 |.zr=>0
def fH(E:List Ent):Pl->List (Int×Str)
 |.nm h x=>[nk h x]
 |.cl h y c=>((List.range 60).filter (ib (bo E (nk h y)))).map λ(j:Nat)=>((j:Int),c)
 |_=>[]
def eD(E F:List Ent)(m:Mv):List (Int×Str):=(fH E m.1).filter λk=>!decide (bitOr (Tb.get #[E,F,false] (isNm m.1) k) (uI E F m.2)=Tb.get #[E,F,false] (isNm m.1) k)
def get_mem{E:List Ent}(nd:(E.map (·.1)).Nodup){e:Ent}(h:e∈E):bo E e.1=e.2:=by have h1:=eI e.1 E;rw[uF nd h] at h1;injection h1 with h1;calc h1.symm
theorem fJ{k:Int×Str}:∀F:List Ent,bo F k≠0->∃e∈F,e.1=k/\e.2=bo F k
 |[],z=>absurd 9 z
 |e::F,z=>by
  change ∃e'∈e::F,e'.1=_/\e'.2=if e.1=_ then e.2 else bo F _
  by_cases q:e.1=k;calc#[e,fM,q,by rw[ι q]];let(e',h1,h2,h3):=fJ F λy=>z (by change (if e.1=_ then e.2 else bo F _)=0;rw[θ q];calc y);calc#[e',gT _ h1,h2,by rw[θ q];calc h3]
section
variable{M:List Mv}{p q:Tb}{m:Mv}
theorem Hw(I:Iv n M p)(o:Pl):uI p.E p.F o=jC p.E p.F o:=by
 cases o with
 |cl h y c=>
  have key:∀b,ib (uI p.E p.F (.cl h y c)) b=true↔ib (jC p.E p.F (.cl h y c)) b=true:=λb=>by
   rw[<- uH I];change ib (p.F.foldl (Od (pC (bo p.E (nk h y)) c)) 0) b=true↔_;rw[Ho,ym.dZ,SK,Nq];constructor;rintro⟨e,he,z⟩;rw[iE] at z;have z1:=z.1;unfold pC at z1;rw[iE] at z1;have e1:e.1=((e.1.1.toNat:Int),c):=Prod.ext (by have:=I.pos e he;lia) (ψ z1.1);show#[e.1.1.toNat,z1.2,?_];rw[<- e1,show p.get false e.1=e.2 from get_mem I.nF he];calc z.2;rintro⟨j,hj,hb⟩;have hb:ib (bo p.F (j,c)) b=true:=hb;let(e,he,e1,e2):=fJ p.F λz=>by rw[z,BS.dZ] at hb;cases hb
   show#[e,he,?_];rw[iE];show#[?_,by rw[e2];calc hb];unfold pC;rw[e1,iE];exact#[ο 9,by rw[j6];calc hj]
  calc eU (λb=>(key b).mp) λb=>(key b).mpr
 |_=>rfl
def xG(I:Iv n M p)(hn:n<=60){g:Pl}{k:Int×Str}:k∈fH p.E g↔k∈Mh p.E g:=by
 cases g with
 |cl h y c=>
  have b:below n (bo p.E (nk h y)):=I.bl true (nk h y);have e:∀j,j∈(List.range 60).filter (ib (bo p.E (nk h y)))↔j∈mem (bo p.E (nk h y)):=λj=>by rw[mem_iff b.1,D_,m6];exact#[λh=>h.2,λh=>#[qt (b.bit h) hn,h]]
  change k∈List.map _ _↔k∈List.map _ _;rw[gy,gy];calc#[λ#[j,h1,h2]=>#[j,(e j).mp h1,h2],λ#[j,h1,h2]=>#[j,(e j).mpr h1,h2]]
 |_=>calc Iff.rfl
def zI(I:Iv n M p)(hn:n<=60)(hc:eD p.E p.F m=[]):DC p.get m:=Of I λk hk=>by
 have nk:¬ k∈eD p.E p.F m:=by rw[hc];exact eG
 have e:=X2 λq=>nk (D_.mpr #[(xG I hn).mpr hk,by change (!decide (bitOr (p.get (isNm m.1) k) _=p.get (isNm m.1) k))=true;rw[ς q];rfl]);rw[<- Hw I,<- e];calc eV _ _
end
def pJ(g:Pl)(h:Nat):j7->List Mv
 |.nm y=>[(g,.nm h y)]
 |.nu _=>[]
def Jw(rs:qal)(i h:Nat):Rw->List Mv
 |.new x=>[(.nm h x,.rw i)]
 |.put x o=>pJ (.nm h x) h o
 |.get x y k=>[(.nm h x,.cl h y (k6 k))]
 |.set y k o=>pJ (.cl h y (k6 k)) h o
 |.call x g as=>match fnOf rs g with
  |some (s,ps,o)=>(ps.zip as).flatMap (λz=>pJ (.nm s z.1) h z.2)++pJ (.nm h x) s o
  |none=>[]
 |_=>[]
def Hx(rs:qal)(i:Nat):List Mv:=match rs[i]?,gx 28 i with
 |some r,some h=>Jw rs i h r
 |_,_=>[]
def yn(rs:qal)(n:Nat):List Mv:=(List.range n).flatMap (Hx rs)
def Hy(rs:qal)(n:Nat):yn rs (n+1)=yn rs n++Hx rs n:=by unfold yn;rw[TU,List.flatMap_append];simp
def xH{g:Pl}{h:Nat}{o:j7}{m:Mv}:m∈pJ g h o↔m=(g,Hq h o)/\Hq h o≠.zr:=by
 cases o with
 |nm y=>calc#[λz=>#[fP.mp z,λq=>nomatch q],λz=>fP.mpr z.1]
 |nu _=>calc#[λz=>(nomatch z),λz=>(z.2 9).elim]
def WM{h:Nat}{m:Mv}:m∈Jw rs i h r↔m∈vN rs i h r/\m.2≠.zr:=by
 cases r with
 |new x=>calc#[λz=>#[z,by rw[fP.mp z];calc λq=>nomatch q],λz=>z.1]
 |get x y k=>calc#[λz=>#[z,by rw[fP.mp z];calc λq=>nomatch q],λz=>z.1]
 |put x o=>change m∈pJ _ _ _↔m∈[_]/\_;rw[xH,fP];calc#[λz=>#[z.1,by rw[z.1];calc z.2],λz=>#[z.1,by have:=z.2;rw[z.1] at this;calc this]]
 |set y k o=>change m∈pJ _ _ _↔m∈[_]/\_;rw[xH,fP];calc#[λz=>#[z.1,by rw[z.1];calc z.2],λz=>#[z.1,by have:=z.2;rw[z.1] at this;calc this]]
 |call x g as=>
  simp only[Jw,vN];cases fnOf rs g with
  |none=>calc#[λz=>(nomatch z),λz=>nomatch z.1]
  |some a=>rw[gc,sN,cY,gy,xH];constructor;rintro (⟨z,hz,hm⟩|⟨rfl,hm⟩);let(rfl,h2):=xH.mp hm;calc#[.inr #[z,hz,9],h2];calc#[.inl 9,hm];rintro⟨rfl|⟨z,hz,rfl⟩,h2⟩;calc .inr #[9,h2];calc .inl #[z,hz,xH.mpr #[9,h2]]
 |_=>calc#[λz=>(nomatch z),λz=>nomatch z.1]
def Hz{m:Mv}:m∈Hx rs i↔m∈Em rs i/\m.2≠.zr:=by
 unfold Em Hx;cases rs[i]? with
 |none=>calc#[λz=>(nomatch z),λz=>nomatch z.1]
 |some r=>
  cases gx (bE rs) i with
  |none=>calc#[λz=>(nomatch z),λz=>nomatch z.1]
  |some h=>calc WM
def uJ{m:Mv}:m∈yn rs 6↔m∈k7 rs/\m.2≠.zr:=by unfold yn k7;rw[sN,sN];calc#[λ#[i,hi,hm]=>#[#[i,hi,(Hz.mp hm).1],(Hz.mp hm).2],λ#[#[i,hi,hm],hz]=>#[i,hi,Hz.mpr #[hm,hz]]]
def WN{h:Nat}(hr:∀x g as,r=.call x g as->as.length<=04):(vN rs i h r).length<=05/\(Jw rs i h r).length<=05:=by
 have l1:∀g h o,(pJ g h o).length<=1:=λg h o=>by cases o<;>simp[pJ]
 cases r with
 |put x o=>calc#[by simp[vN],jR (l1 _ _ _) 5]
 |set y k o=>calc#[by simp[vN],jR (l1 _ _ _) 5]
 |call x g as=>
  simp only[vN,Jw];cases fnOf rs g with
  |none=>calc#[e_ _,e_ _]
  |some a=>
   let(s,ps,o):=a;have ha:=hr x g as 9;have z:(ps.zip as).length<=04:=by rw[B9];lia
   have f:=fG (f:=λz:Str×j7=>pJ (.nm s z.1) h z.2) (λz=>l1 _ _ _) (ps.zip as);have:=l1 (.nm h x) s o;calc#[by rw[vI,bL];lia,by rw[lq];lia]
 |_=>calc#[by simp[vN],by simp[Jw]]
def Ru(hr:∀r∈rs,∀x g as,r=.call x g as->as.length<=04):(k7 rs).length<=6 * 05/\∀n,(yn rs n).length<=n * 05:=by
 have h:∀i,(Em rs i).length<=05/\(Hx rs i).length<=05:=λi=>by
  unfold Em Hx;cases e:rs[i]? with
  |none=>calc#[e_ _,e_ _]
  |some r=>
   cases gx (bE rs) i with
   |none=>calc#[e_ _,e_ _]
   |some h=>exact WN (hr r (eM e))
 show#[?_,λn=>?_];have:=fG (λi=>(h i).1) (List.range 6)
 rwa [rh] at this
 have:=fG (λi=>(h i).2) (List.range n)
 rwa [rh] at this
end MK
namespace Lay
open PySem L2 VT Gen K5
def Ev(rs:qal)(k j:Nat):Prop:=∃k',k'<k/\rs[k']?\.zg/\ud 28 k'\j
structure Al(rs:qal)(k:Nat)(s:ω):Prop where
 len:s.length=(st 28 k).length
 WO:∀i j:Nat,(st 28 k)[i]?\j->∃r,rs[j]?\r/\((¬ Ev rs k j/\s[i]?\wd r)\/(Ev rs k j/\s[i]?\("else":Str)/\wd r="if"))
 bot:∀(i:Nat)(x:Str),s[i]?\x->(x=("def":Str)↔i=0)
def HA(h:wd r="def"):∃f ps,r=.df f ps:=by cases r<;>first|calc#[_,_,9]|calc absurd h (by simp only[wd];decide +kernel)
def Ev.succ{rs:qal}{k j:Nat}(h:Ev rs k j):Ev rs (k+1) j:=let #[k',a,b]:=h;#[k',Jk a,b]
def uK{k:Nat}(h:rs[k]?≠some .zg):Ev rs (k+1) j↔Ev rs k j:=by show#[λ#[k',a,b,c]=>?_,Ev.succ];by_cases e:k'=k;subst e;calc absurd b h;calc#[k',(),b,c]
section
def Mn{k:Nat}{s:ω}(A:Al rs k s)(hs:st 28 (k+1)=st 28 k)(he:rs[k]?≠some .zg):Al rs (k+1) s :=
 #[by rw[hs];calc A.len,λi j h=>by rw[hs] at h;let(r,h1,h2):=A.WO i j h;calc#[r,h1,by rw[uK he];calc h2],A.bot]
def Bz{k:Nat}{s:ω}(A:Al rs k s)(hs:st 28 (k+1)=(st 28 k).dropLast)(he:rs[k]?≠some .zg):Al rs (k+1) s.dropLast :=
 #[by rw[hs,yp,yp,A.len],λi j h=>by
  rw[hs] at h;have hi:=(dy.mp h).1;rw[yp] at hi;rw[OH,ι hi] at h;let(r,h1,h2):=A.WO i j h;rw[OH,ι (by rw[A.len];calc hi)];exact#[r,h1,by rw[uK he];calc h2],λi x h=>by
  have hi:=(dy.mp h).1;rw[yp] at hi;rw[OH,ι hi] at h;calc A.bot i x h]
def uL{k:Nat}{s:ω}(W:N6 rs)(hk:k<6)(A:Al rs k s)(hr:rs[k]?\r)(hs:st 28 (k+1)=st 28 k++[k])(he:r≠.zg)(hb:wd r=("def":Str)↔s=[]):Al rs (k+1) (s++[wd r]):=by
 have Jv:rs[k]?≠some .zg:=by rw[hr];intro z;exact he (Option.some.inj z)
 have nev:¬ Ev rs (k+1) k:=λ#[k',a,b,c]=>by
  have hm:=List.mem_of_getLast? c;have:=(jd k').2 k hm
  lia
 show#[by rw[hs,lq,lq,A.len];rfl,λi j h=>?_,λi x h=>?_];rw[hs] at h;by_cases hi:i<(st 28 k).length;rw[nL hi] at h;rw[nL (by rw[A.len];calc hi)];let(r',h1,h2):=A.WO i j h;calc#[r',h1,by rw[uK Jv];calc h2];rw[sM ()] at h;have e:i-(st 28 k).length=0:=by
  cases q:i-(st (bE rs) k).length with
  |zero=>rfl
  |succ m=>rw[q] at h;simp at h
 rw[e] at h;simp at h;subst h;show#[r,hr,.inl #[nev,?_]];rw[sM (by rw[A.len];lia),A.len,e];rfl;by_cases hi:i<s.length;rw[nL hi] at h;calc A.bot i x h;rw[sM ()] at h;have e:i-s.length=0:=by
  cases q:i-s.length with
  |zero=>rfl
  |succ m=>rw[q] at h;simp at h
 rw[e] at h;simp at h;subst h;rw[hb];constructor;rintro rfl;simpa using e;rintro rfl;have:s.length=0:=by lia
 calc Ni.mp this
def Mo{k:Nat}{s:ω}(A:Al rs k s)(hr:rs[k]?\.zg)(hl:s.getLast?\("if":Str))(hs:st 28 (k+1)=st 28 k):Al rs (k+1) (s.dropLast++[("else":Str)]):=by
 have eY:s≠[]:=by rintro rfl;cases hl
 have ads:=TL.mpr eY;have Jq:s[s.length-1]?\("if":Str):=by rw[<- Ep];exact hl
 show#[by rw[hs,lq,yp,<- A.len];simp;lia,λi j h=>?_,λi x h=>?_];rw[hs] at h;have hi:i<s.length:=by rw[A.len];exact (dy.mp h).1
 let(r,h1,h2):=A.WO i j h;by_cases e:i=s.length-1;subst e;have hh:ud 28 k\j:=by unfold ud;rw[Ep,<- A.len];exact h
 show#[r,h1,.inr #[#[k,Ar _,hr,hh],?_,?_]];rw[sM (by rw[yp];lia),yp,Nat.sub_self];rfl;obtain⟨_,h2⟩|⟨_,h2,_⟩:=h2
 rw[Jq] at h2;calc (Option.some.inj h2).symm;rw[Jq] at h2;calc absurd (Option.some.inj h2) 23;have adt:¬ ud 28 k\j:=λz=>by
  unfold ud at z;rw[Ep,<- A.len] at z;have hw:=(jd (kd:=bE rs) k).1;let(a1,b1):=dy.mp h;let(a2,b2):=dy.mp z;have:=(X1.mp hw) i (s.length-1) a1 a2 ()
  lia
 have hev:Ev rs (k+1) j↔Ev rs k j:=by show#[λ#[k',a,b,c]=>?_,Ev.succ];by_cases e:k'=k;subst e;calc absurd c adt;exact#[k',(),b,c]
 show#[r,h1,?_];rw[hev,nL (by rw[yp];lia),OH,ι ()];calc h2;by_cases hi:i<s.dropLast.length;rw[nL hi] at h;rw[yp] at hi;rw[OH,ι hi] at h;calc A.bot i x h;rw[sM ()] at h;have e:i-s.dropLast.length=0:=by
  cases q:i-s.dropLast.length with
  |zero=>rfl
  |succ m=>rw[q] at h;simp at h
 rw[e] at h;simp at h;subst h;rw[yp] at e hi;have ei:i=s.length-1:=by lia
 have hbo:=A.bot (s.length-1) _ Jq;constructor;intro z;calc absurd z 23;intro z;rw[ei] at z;calc absurd (hbo.mpr z) 23
def k9{s:ω}(h:gp s x=true)(e:s=[]):x="def"\/x="skip":=by subst e;have:Eh (.str x) ([("def":Str),"skip"].map T.str)=true:=h;rw[A8] at this;simpa using this
def i5{s:ω}{l:Str}(h:gp s x=true)(e:s.getLast?\l):(x="give"->l="def")/\(x="else"->l="if")/\(x="end"->l≠"def")/\x≠"def":=by unfold gp at h;rw[e] at h;dsimp only at h;by_cases h1:x="give";rw[ι h1] at h;subst h1;calc#[λ_=>ψ h,λz=>absurd z 23,λz=>absurd z 23,by decide +kernel];rw[θ h1] at h;by_cases h2:x="else";rw[ι h2] at h;subst h2;calc#[λz=>absurd z h1,λ_=>ψ h,λz=>absurd z 23,by decide +kernel];rw[θ h2] at h;by_cases h3:x="end";rw[ι h3] at h;subst h3;calc#[λz=>absurd z h1,λz=>absurd z h2,λ_=>by simpa using h,by decide +kernel];rw[θ h3] at h;calc#[λz=>absurd z h1,λz=>absurd z h2,λz=>absurd z h3,by simpa using h]
theorem HB(W:N6 rs)(hb:kJ (some []) rs=some []):∀k,k<=6->∃s,kJ (some []) (rs.take k)\s/\Al rs k s
 |0,_=>#[[],9,#[9,λi j h=>by simp[st] at h,λi x h=>by simp at h]]
 |k+1,hk=>by
  let(s,hs,A):=HB W hb k ();have c8:k<6:=by lia
  have hr:=f_ c8;let(s',h1,h2,h3):=wL hb k hr;rw[hs] at h1;cases h1;show#[_,h3,?_];generalize rs[k]=r at hr h2;have kk:=c7 hr;have nil:=k9 h2;have ne:s≠[]->∃l,s.getLast?\l:=λz=>by let(a,l,e):=nV z;exact#[l,by rw[e,TH]]
  cases r with
  |df f ps=>
   have e:s=[]:=by by_cases z:s=[];calc z;let(l,hl):=ne z;exact absurd 9 (i5 h2 hl).2.2.2
   have:=uL W c8 A hr (iq (by rw[kk];rfl) (by rw[kk];rfl)) 4 #[λ_=>e,λ_=>rfl];rw[show wd (.df f ps)="def" from 9] at this ⊢;rw[A9];calc this
  |Jt a=>
   have e:s≠[]:=λz=>by rcases nil z with h|h<;>exact absurd h (by change ¬ (("if":Str)=_);decide +kernel)
   have:=uL W c8 A hr (iq (by rw[kk];rfl) (by rw[kk];rfl)) 4 #[λh=>absurd h (by change ¬ (("if":Str)=_);decide +kernel),λh=>absurd h e];rw[show wd (.Jt a)="if" from 9] at this ⊢;rw[Ga];calc this
  |A6 a=>
   have e:s≠[]:=λz=>by rcases nil z with h|h<;>exact absurd h (by change ¬ (("while":Str)=_);decide +kernel)
   have:=uL W c8 A hr (iq (by rw[kk];rfl) (by rw[kk];rfl)) 4 #[λh=>absurd h (by change ¬ (("while":Str)=_);decide +kernel),λh=>absurd h e];rw[show wd (.A6 a)="while" from 9] at this ⊢;rw[l8];calc this
  |give a=>have:=Bz A (iR (by rw[kk];rfl) (by rw[kk];rfl)) (by rw[hr];simp);rw[show wd (.give a)="give" from 9,Gb];calc this
  |fin=>have:=Bz A (iR (by rw[kk];rfl) (by rw[kk];rfl)) (by rw[hr];simp);rw[show wd .fin="end" from 9,t_];calc this
  |zg=>
   have e:s≠[]:=λz=>by rcases nil z with h|h<;>exact absurd h 23
   let(l,hl):=ne e;have hl2:=(i5 h2 hl).2.1 9;rw[hl2] at hl;have:=Mo A hr hl (fu (by rw[kk];rfl) (by rw[kk];rfl));rw[show wd .zg="else" from 9,wQ];calc this
  |_=>calc Mn A (fu (by rw[kk];rfl) (by rw[kk];rfl)) (by rw[hr];simp)
end
structure Bl(rs:qal):Prop where
 W:N6 rs
 b:kJ (some []) rs=some []
section
theorem Bl.at(B:Bl rs){k:Nat}(hr:rs[k]?\r):∃s,Al rs k s/\gp s (wd r)=true:=by have hk:=(dy.mp hr).1;let(s,hs,A):=HB B.W B.b k ();let(s',h1,h2,h3):=wL B.b k hr;rw[hs] at h1;cases h1;calc#[s,A,h2]
def Al.gY{k:Nat}{s:ω}(A:Al rs k s):s=[]↔st 28 k=[]:=by rw[<- Ni,<- Ni,A.len]
def Al.last{k:Nat}{s:ω}(A:Al rs k s){l:Str}(h:s.getLast?\l):∃o r,ud 28 k\o/\rs[o]?\r/\((¬ Ev rs k o/\l=wd r)\/(Ev rs k o/\l="else"/\wd r="if")):=by
 rw[Ep] at h;have hi:=(dy.mp h).1;have hj:(st 28 k)[s.length-1]?\((st 28 k)[s.length-1]'(by rw[<- A.len];calc hi)):=f_ _;let(r,h1,h2):=A.WO _ _ hj;have hh:ud 28 k=(st 28 k)[s.length-1]?:=by unfold ud;rw[Ep,<- A.len]
 show#[_,r,hh.trans hj,h1,?_];rw[h] at h2;obtain⟨a,b⟩|⟨a,b,c⟩:=h2
 calc .inl #[a,Option.some.inj b];calc .inr #[a,Option.some.inj b,c]
def lastOf{s:ω}(z:s≠[]):∃l,s.getLast?\l:=by let(a,l,e):=nV z;calc#[l,by rw[e,TH]]
def Bl.df(B:Bl rs){k:Nat}{f ps}(hr:rs[k]?\.df f ps):st 28 k=[]:=by let(s,A,m):=B.at hr;rw[<- A.gY];by_cases z:s=[];calc z;let(l,hl):=lastOf z;calc absurd 9 (i5 m hl).2.2.2
def Bl.Tf(B:Bl rs){k:Nat}(hr:rs[k]?\r)(h1:wd r≠"def")(h2:wd r≠"skip"):st 28 k≠[]:=by
 let(s,A,m):=B.at hr;rw[Ne,<- A.gY];intro z;rcases k9 m z with h|h
 calc h1 h;calc h2 h
theorem Bl.give(B:Bl rs){k:Nat}{a}(hr:rs[k]?\.give a):(st 28 k).length=1:=by
 let(s,A,m):=B.at hr;have z:s≠[]:=λz=>by rcases k9 m z with h|h<;>exact absurd h (by change ¬ (("give":Str)=_);decide +kernel)
 let(l,hl):=lastOf z;have hd:=(i5 m hl).1 9;rw[Ep,hd] at hl;have:=(A.bot _ _ hl).mp 9;have:=TL.mpr z;rw[<- A.len]
 lia
def Bl.fin(B:Bl rs){k:Nat}(hr:rs[k]?\.fin):2<=dp 28 k/\∃o r,ud 28 k\o/\rs[o]?\r/\wd r≠"def":=by
 let(s,A,m):=B.at hr;have z:s≠[]:=λz=>by rcases k9 m z with h|h<;>exact absurd h 23
 let(l,hl):=lastOf z;have hd:=(i5 m hl).2.2.1 9;let(o,r,h1,h2,h3):=A.last hl;show#[?_,o,r,h1,h2,?_];rw[Ep] at hl;have h0:¬ s.length-1=0:=λq=>hd ((A.bot _ _ hl).mpr q);unfold dp;rw[<- A.len]
 lia
 obtain⟨_,q⟩|⟨_,_,q⟩:=h3
 rw[<- q];calc hd;rw[q];decide +kernel
def Bl.head(B:Bl rs){k:Nat}(hr:rs[k]?\r):(st 28 (k+1)).head?=if wd r="give" then none else gx 28 k:=by
 have kk:=c7 hr;have keep:∀{l:qao}{x:Nat},l≠[]->(l++[x]).head?=l.head?:=λ{l x} h=>by cases l with
  |nil=>calc absurd 9 h
  |cons a l=>rfl
 unfold gx;rw[kk];cases r with
 |df f ps=>rw[iq (by rw[kk];rfl) (by rw[kk];rfl),B.df hr,θ (by change ¬ (("def":Str)=_);decide +kernel),ι (show (aZ (.df f ps)).df=true from 9)];rfl
 |give a=>
  rw[iR (by rw[kk];rfl) (by rw[kk];rfl),ι (show wd (.give a)="give" from 9)];have:=B.give hr
  match q:st 28 k,this with
  |[x],_=>rfl
 |fin=>
  rw[iR (by rw[kk];rfl) (by rw[kk];rfl),θ 23,θ (by simp[aZ])];have:=(B.fin hr).1;unfold dp at this
  match q:st 28 k,this with
  |x::y::l,_=>rfl
 |Jt a=>rw[iq (by rw[kk];rfl) (by rw[kk];rfl),θ (by change ¬ (("if":Str)=_);decide +kernel),θ (by simp[aZ])];calc keep (B.Tf hr (by change ¬ (("if":Str)=_);decide +kernel) (by change ¬ (("if":Str)=_);decide +kernel))
 |A6 a=>rw[iq (by rw[kk];rfl) (by rw[kk];rfl),θ (by change ¬ (("while":Str)=_);decide +kernel),θ (by simp[aZ])];calc keep (B.Tf hr (by change ¬ (("while":Str)=_);decide +kernel) (by change ¬ (("while":Str)=_);decide +kernel))
 |put x a=>rw[fu (by rw[kk];rfl) (by rw[kk];rfl),θ (by change ¬ (("put":Str)=_);decide +kernel),θ (by simp[aZ])]
 |CV x a o b=>rw[fu (by rw[kk];rfl) (by rw[kk];rfl),θ (by change ¬ (("do":Str)=_);decide +kernel),θ (by simp[aZ])]
 |new x=>rw[fu (by rw[kk];rfl) (by rw[kk];rfl),θ (by change ¬ (("new":Str)=_);decide +kernel),θ (by simp[aZ])]
 |get x a b=>rw[fu (by rw[kk];rfl) (by rw[kk];rfl),θ (by change ¬ (("get":Str)=_);decide +kernel),θ (by simp[aZ])]
 |set x a b=>rw[fu (by rw[kk];rfl) (by rw[kk];rfl),θ (by change ¬ (("set":Str)=_);decide +kernel),θ (by simp[aZ])]
 |call x f as=>rw[fu (by rw[kk];rfl) (by rw[kk];rfl),θ (by change ¬ (("call":Str)=_);decide +kernel),θ (by simp[aZ])]
 |fail x=>rw[fu (by rw[kk];rfl) (by rw[kk];rfl),θ (by change ¬ (("fail":Str)=_);decide +kernel),θ (by simp[aZ])]
 |_=>rw[fu (by rw[kk];rfl) (by rw[kk];rfl),θ 23,θ (by simp[aZ])]
end
end Lay
namespace MK
open PySem L2 VT Gen BS K5 ym Lay
open PySem.Builtin (bitOr)
def BA(E F:List Ent)(h:Nat)(o:j7):jC E F (Hq h o)=gr E h o:=by cases o<;>rfl
def w_eq(rs:qal)(E F:List Ent)(i h:Nat)(hr:okR r=true):(vN rs i h r).flatMap (wM E F)=wOf E F i h r:=by
 cases r with
 |new x=>rfl
 |get x y k=>rfl
 |put x o=>change [(true,_,jC E F (Hq h o))]++[]=[(true,_,gr E h o)];rw[BA];rfl
 |set y k o=>change List.map _ (List.map _ _)++[]=List.map _ _;rw[As,qv,BA];rfl
 |call x g as=>cases hr
 |_=>rfl
theorem w_call{g:Str}{s:Nat}{o:j7}(e:fnOf rs g\(s,ps,o))(E F:List Ent)(i h:Nat)(x:Str)(as:List j7) :
  (vN rs i h (.call x g as)).flatMap (wM E F)=(true,nk h x,gr E s o)::(ps.zip as).map λz=>(true,nk s z.1,gr E h z.2):=by
 simp only[vN,e];rw[List.flatMap_cons,List.flatMap_map];change (true,nk h x,jC E F (Hq s o))::([]++_)=_;rw[BA,List.nil_append]
 congr 1
 induction ps.zip as with
 |nil=>rfl
 |cons z l ih=>rw[List.flatMap_cons,ih];change (true,nk s z.1,jC E F (Hq h z.2))::_=_;rw[BA];rfl
def BB{g:Str}{s:Nat}{o:j7}(h:fnOf rs g\(s,ps,o)):∃f e,qN (bb rs 6) g\s/\rs[s]?\.df f ps/\endsAt 28 6 s\e/\rs[e]?\.give o:=by
 unfold fnOf at h;cases h1:qN (bb rs rs.length) g with
 |none=>rw[h1] at h;cases h
 |some s'=>
  rw[h1] at h;dsimp only at h;cases h2:rs[s']? with
  |none=>rw[h2] at h;cases h
  |some r=>
   rw[h2] at h;cases r with
   |df f WQ=>
    cases h3:endsAt (bE rs) rs.length s' with
    |none=>rw[h3] at h;cases h
    |some e=>
     rw[h3] at h;dsimp only at h;cases h4:rs[e]? with
     |none=>rw[h4] at h;cases h
     |some r=>
      rw[h4] at h;cases r with
      |give o'=>cases h;calc#[f,e,9,h2,h3,h4]
      |_=>cases h
   |_=>cases h
def BC(B:Bl rs){s:Nat}{f:Str}(hs:rs[s]?\.df f ps):∃e o,endsAt 28 6 s\e/\rs[e]?\.give o/\s<e/\∀m,s<=m->m<e->∀o,rs[m]?≠some (.give o):=by
 have hsl:=(dy.mp hs).1;have YY:(bE rs s).op=true:=by rw[c7 hs];rfl
 have d0:dp 28 s=0:=by unfold dp;rw[B.df hs];rfl
 let(e,h1,h2,h3,h4,h5):=end_is B.W hsl YY;have he:endsAt 28 6 s\e:=by unfold endsAt;rw[ι YY];exact h1
 have vL:=(ua B.W h3 he hsl).1;have WR:rs[e]?\rs[e]:=f_ h3;have hd:=wV B.W h3 vL;have hg:∃o,rs[e]=.give o:=by
  rw[c7 WR] at vL;generalize rs[e]=r at WR vL;cases r with
  |give o=>calc#[o,9]
  |fin=>have:=(B.fin WR).1;lia
  |_=>cases vL
 let(o,ho):=hg;rw[ho] at WR;show#[e,o,he,WR,h2,λm a b o' hm=>?_];by_cases z:m=s;subst z;rw[hs] at hm;cases hm;have Gy:m<6:=by lia
 have:=wV B.W Gy (by rw[c7 hm];rfl);have g:=B.give hm;have n:=h5 m () b;unfold dp at *
 lia
def EM(B:Bl rs){g:Str}(hi:rs[i]?\.df g ps):∃a,fnOf rs g\a:=by let(j,hj):=l9 hi 6 (dy.mp hi).1;let(_,qs,hq):=oU 6 hj;let(e,o,h1,h2,_):=BC B hq;show#[(j,qs,o),?_];unfold fnOf;simp only[hj,hq,h1,h2]
end MK
namespace VT
open PySem PySem.Spec PyProof.Rows L2
theorem h9{α:Type}{f u:α->T}{h:FG}{fe:FE}{ρ:En}:∀{xs:List α}{Q:Φ->Prop},(∀x∈xs,∀r:T->Prop,r (u x)->h (f x) ρ λρ2=>fe ρ2 r)->Q (xs.map u)->du h KY fe ρ (xs.map f) Q
 |[],Q,_,hq=>hq
 |x::xs,Q,step,hq=>by simp only[fO,du];calc step x fM (λy=>du h KY fe ρ (xs.map f) λus=>Q (y::us)) (h9 (Q:=λus=>Q (u x::us)) (λy hy=>step y (gT _ hy)) hq)
theorem dq{α:Type}{f u:α->T}{p:α->Bool}{h:FG}{fc:FB}{fe:FE}{ρ:En}:∀{xs:List α}{Q:Φ->Prop},(∀x∈xs,∀r s:Prop,(if p x=true then ∀k:T->Prop,(k (u x)->r)->r else s)->True)->(∀x∈xs,∀(k:T->Prop)(s:Prop),(if p x=true then k (u x) else s)->h (f x) ρ λρ2=>fc ρ2 λb=>if b=true then fe ρ2 k else s)->Q ((xs.filter p).map u)->du h fc fe ρ (xs.map f) Q
 |[],Q,_,_,hq=>hq
 |x::xs,Q,t0,step,hq=>by simp only[fO,du];show step x fM _ _ ?_;by_cases hp:p x=true;rw[ι hp];rw[Zj hp] at hq;calc dq (Q:=λus=>Q (u x::us)) (λ_ _ _ _ _=>trivial) (λy hy=>step y (gT _ hy)) hq;rw[θ hp];rw[Zk hp] at hq;calc dq (λ_ _ _ _ _=>trivial) (λy hy=>step y (gT _ hy)) hq
def Rv{f g:FB}{K:Bool->Prop}{P:Prop}(h:∀k:Bool->Prop,(¬ P->k true)->(P->k false)->fOr f g ρ k)(h1:¬ P->K true)(h2:P->K false):fOr f g ρ K:=h K h1 h2
end VT
namespace eJ
open PySem L2 VT Gen K5 Lay BS ym MK
open PySem.Builtin (bitOr bitAnd)
def top(i:Nat):Stmt:=PySem.Challenge.pw_slicewise_k24_closed_tables.main.body.getD i (.Pass #[0,0,0,0])
abbrev HC:Stmt:=top 1
abbrev mj:Stmt:=top 2
abbrev j4:Stmt:=top 08
abbrev pK:Stmt:=top 18
abbrev pL:Stmt:=top 019
abbrev mn:Stmt:=top 20
abbrev mq:Stmt:=top 21
abbrev uM:Stmt:=top 022
abbrev uN:Stmt:=top 023
abbrev h_:Stmt:=top 024
abbrev ic:Stmt:=top 25
abbrev pM:Stmt:=inClass (top 17) 0
structure WS(mg:qae):Prop where
 enumerate:mg "enumerate"=none
 sorted:mg "sorted"=none
 range:mg "range"=none
 zip:mg "zip"=none
structure Tg(K:qaf)(C:Addr):Prop where
 cl:EK K C
 uO:cF K C "names"
 n_:cF K C "cells"
def bG(h:n<=1000):n<=sizeLine:=Gen.small h
def i6:bootBuiltins "sorted"\.builtin "sorted":=by decide +kernel
abbrev BD(l:qao):Φ:=l.map λ(k:Nat)=>T.int (k:Int)
def mh(ts:Φ)(q:qam):Prop:=E2 λ(x:Int) (k:Nat)=>ts=[.int x,.int (k:Int)]/\q (.vw (.bl (ib x k)))
def pN(ts:Φ)(q:qam):Prop:=∃x:Int,ts=[.int x]/\Builtin.Int.intBits x<=64/\q (.fr (.lst (BD (mem x))))
def HF:T->Str
 |.str x=>if nN.ff x=true then x else "#"
 |_=>"#"
def mw(ts:Φ)(q:qam):Prop:=∃t,ts=[t]/\Nm.GO t/\q (.vw (.str (HF t)))
def HG(C:Addr)(ts:Φ)(q:T->Prop):Prop:=E2 λt1 t2=>ts=[t1,t2]/\q (.ins C fN [t1,t2])
def pO(CS a1 a2:Addr)(E F:List Ent):T:=.ins CS fN [.pin a1 (.dt (bZ E) (cp E)),.pin a2 (.dt (bZ F) (cp F))]
def Og(CS:Addr)(ts:Φ)(q:qam):Prop:=E6 λ(a1 a2:Addr) (E F:List Ent) (x:Int) (c:Str)=>ts=[pO CS a1 a2 E F,.int x,.str c]/\Builtin.Int.intBits x<=64/\q (.vw (.int (YW F x c)))
def WT:Rw->Prop
 |.get _ _ k=>Nm.GO (nU k)
 |.set _ k _=>Nm.GO (nU k)
 |_=>True
def WU(rs:qal):Rw->Prop
 |.call _ g as=>as.length<=04/\∃a,fnOf rs g\a
 |_=>True
def wN(a1:Addr)(E:List Ent)(p:(Int×Str)×Int):T:=.tup [.pin a1 (.dt (bZ E) (cp E)),.kt (kK p.1),.int p.2]
def HH(C:Addr)(ts:Φ)(q:qam):Prop:=E11 λ(rs:qal) (a1:Addr) (E:List Ent) (i:Nat) (x g:Str) (as:List j7) (h s:Nat) (ps:ω) (o:j7)=>ts=[iB C rs,.pin a1 (.dt (bZ E) (cp E)),.int (i:Int)]/\rs[i]?\.call x g as/\as.length<=04/\gx 28 i\h/\fnOf rs g\(s,ps,o)/\q (.fr (.lst (wN a1 E (nk h x,gr E s o)::(ps.zip as).map λz=>wN a1 E (nk s z.1,gr E h z.2))))
def zJ(C CS:Addr)(ts:Φ)(q:qam):Prop:=E8 λ(rs:qal) (a1 a2:Addr) (E F:List Ent) (i:Nat) (r:Rw) (h:Nat)=>ts=[iB C rs,pO CS a1 a2 E F,.int (i:Int)]/\rs[i]?\r/\WU rs r/\WT r/\gx 28 i\h/\i<=1000/\(∀k,Builtin.Int.intBits (bo E k)<=64)/\q (.fr (.lst (((vN rs i h r).flatMap (wM E F)).map (wT a1 a2 E F))))
def HI(E:List Ent):List Ent:=E.filter λe=>!decide (e.2=0)
def gL{f:α->β}:∀{l:List α}{zs:List β},zs.Perm (l.map f)->∃bs:List α,bs.Perm l/\zs=bs.map f:=by
 intro l zs p;generalize e:l.map f=m at p;induction p generalizing l with
 |nil=>calc#[[],by cases l<;>simp_all,9]
 |cons x _ ih=>
  cases l with
  |nil=>cases e
  |cons a l=>cases e;let(bs,h,rfl):=ih 9;calc#[a::bs,h.cons a,9]
 |swap x y l'=>
  cases l with
  |nil=>cases e
  |cons a l=>cases l with
   |nil=>cases e
   |cons b l=>cases e;calc#[b::a::l,.swap _ _ _,9]
 |trans _ _ QZ Q0=>let(bs,h1,rfl):=Q0 e;let(cs,h2,rfl):=QZ 9;calc#[cs,h2.trans h1,9]
def BE(ts:Φ)(q:qam):Prop:=E2 λ(E:List Ent) (o:Obj)=>ts=[.df o (bZ E) (cp E)]/\E.length<=100000/\∀bs:List Ent,bs.Perm (HI E)->q (.fr (.lst (bs.map j8)))
def WV(C:Addr)(q:qam):FS:=λd ρ=>E12 λ(rs:qal) (a1:Addr) (E:List Ent) (i:Nat) (x g:Str) (as:List j7) (h s:Nat) (ps:ω) (o:j7) (f:Str)=>ρ=[aL (iB C rs),aL (.pin a1 (.dt (bZ E) (cp E))),aL (.int (i:Int)),aL (aV (.call x g as)),aL (.int (h:Int)),aL (.int (s:Int)),aL (qr o),some (.lst [wN a1 E (nk h x,gr E s o)],true),none,none] /\
 rs[s]?\.df f ps/\as.length<=04/\q (.fr (.lst (wN a1 E (nk h x,gr E s o)::(ps.zip as).map λz=>wN a1 E (nk s z.1,gr E h z.2))))/\∀ρ r,q r->d.rt ρ r
def zip_map(f:α->T)(g:β->T)(l:List α)(m:List β):tV (l.map f) (m.map g)=(l.zip m).map λz=>.tup [f z.1,g z.2]:=by unfold tV;rw[List.zipWith_map,List.zip,List.map_zipWith]
def Rx(x:Int)(k:Nat):decide (bitAnd (x / 2 ^ ((k:Int)).toNat) 1=1)=ib x k:=by rw[j6,zG];cases ib x k<;>decide
def Ry(x:Int):((rangeT 0 (Builtin.Int.intBits x)).filter λt=>match t with | .int i=>ib x i.toNat|_=>false).map (λt=>t)=BD (mem x):=by
 unfold rangeT mem;rw[List.map_id',List.filter_map];have e:((λt:T=>match t with | .int i=>ib x i.toNat|_=>false) ∘ λ(i:Nat)=>T.int (0+i))=ib x:=by funext i;change ib x (0+(i:Int)).toNat=ib x i;rw[Ea,j6]
 rw[e];show Es λi _=>?_;rw[Ea]
def HJ(k:Ky):HF (nU k)=k6 k:=by unfold k6 HF;cases nU k<;>rfl
section
variable{aR cq:Addr}
abbrev WW:ω:=qay
def HK:aI WW qay (aq HC):=L2.gO
theorem Rz(D:Df K mg "has" HC qay f fd):cu P w K mg base "has" qay 1 (cD K 2 mh):=by show D.gR (jt D.F HK 9 λbP A outer s H E Ox hr ts q hG=>?_);have nd:=HK.nd;have hu:=bA.dI hr;show#[_,(ak (aK (rk (Fu hu (ν (AO (ν (yW (ae 0) (ae 1))) 3)) 3)))),λ_=>?_];let(x,k,rfl,hq):=hG;show#[(),?_];change q (.vw (.bl (decide (bitAnd (x / 2 ^ ((k:Int)).toNat) 1=1))));rw[Rx];calc hq
abbrev r9:ω:=["rows"]
def pP:aI r9 ["rows"] (aq mj):=L2.gO
def qS:(r9++(["row"]:ω)).Nodup:=by decide +kernel
theorem zK(D:Df K mg "members" mj ["rows"] f fd)(M:WS mg)(WX:cu P w K mg base "has" qay 1 (cD K 2 mh)):cu P w K mg base "members" ["rows"] 2 (cD K 1 pN):=by show D.gR (jt D.F pP 9 λbP A outer s H E Ox hr ts q hG=>?_);have nd:=pP.nd;have np:∀{i:Nat},bj #[H,[],Ox] i:=i_;show#[_,(ak (aK (rk (dD (ts:=["row"]) 9 24 (cP 24 M.range (ν (Dp (ae 0)))) (λ_ _ _ _ _ _=>(aw (i:=1) qS 9 7 np)) (λ_ _ _ _ _ _=>(g8 (d_ (aO WX hr (aa (ai 0) (aa (ai 1) aj)))))) (λ_ _ _ _ _ _=>(ai 1)))))),λ_=>?_];let(x,rfl,hb,hq):=hG;show#[9,(),(),?_,?_];rw[g_];calc bG ();show i9 (λt=>match t with | .int i=>ib x i.toNat|_=>false) (λt=>t) (λt ht k r h=>?_) ?_;let(i,hi):=JA.mp ht;let(_,rfl):=hJ hi;have e:0+i=(i:Int):=Ea _;rw[e] at h ⊢;calc#[9,x,i,9,h];change q (.fr (.lst (((rangeT 0 (Builtin.Int.intBits x)).filter λt=>match t with | .int i=>ib x i.toNat|_=>false).map (λt=>t))));rw[Ry];calc hq
abbrev zL:ω:=["key"]
def mW:aI zL ["key"] (aq j4):=L2.gO
def xI(D:Df K mg "class_of" j4 ["key"] f fd)(zM:cu P w K mg base "is_field" qax 2 (cD K 1 Nm.Gx)):cu P w K mg base "class_of" ["key"] 03 (cD K 1 mw):=by
 show D.gR (jt D.F mW 9 λbP A outer s H E Ox hr ts q hG=>?_);have nd:=mW.nd;show#[_,(ak (aK (rk (NF (d_ (aO zM hr (aa (ai 0) aj))) (VE.vp (ai 0)) au)))),λ_=>?_];let(t,rfl,ht,hq):=hG;show#[9,t,9,ht,?_];obtain⟨x,rfl,_⟩|⟨i,rfl⟩:=ht
 have hq:q (.vw (.str (if nN.ff x=true then x else "#"))):=hq;change if nN.ff x=true then _ else _
 by_cases z:nN.ff x=true;rw[ι z] at hq ⊢;calc hq;rw[θ z] at hq ⊢;calc hq;calc hq
abbrev RA:ω:=qaz
def BF:aI RA qaz (aq pM):=L2.gO
def Mp(D:Dc K mg "Sets" "Sets.__init__" pM qaz cq f fd)(M:Tg K cq):zu P w K mg base "Sets" cq qaz 1 2 (HG cq):=by
 show D.gR (fnI D.F BF 9 λbP A outer s H E as Ox hr us q hl hG=>?_);have nd:=BF.nd;have cR:=M;show#[_,(ag (hV 0 cR.cl cR.uO (ai 1))
  (ak (hV 0 cR.cl cR.n_ (ai 2)))),?_]
 let(t1,t2,rfl,hq):=hG;calc#[9,by decide,9,by change 1<1000;decide,hq]
abbrev uP:ω:=["sets","rows","kind","told","row"]
def jN:aI uP qaA (aq h_):=L2.gO
def qT(D:Df K mg "read_cells" h_ qaA f fd)(M:Tg K cq)(mx:cu P w K mg base "members" ["rows"] 2 (cD K 1 pN)):cu P w K mg base "read_cells" qaA 03 (cD K 03 (Og cq)):=by
 show D.gR (jt D.F jN 9 λbP A outer s H E Ox hr ts q hG=>?_);have nd:=jN.nd;have hu:=bA.dI hr;have np:∀{i:Nat},bj #[H,[],Ox] i:=i_;have cR:=M;have gP:=ir hu;show#[_,(ag (ay (i:=03) nd 9 7 (rk af) np)
  (ag (cg lu 9 (eA (υ (aO mx hr (aa (ai 1) aj)))) (aw (i:=04) nd 9 7 np)
   (ak (Fx (i:=03) nd 9 7 (ν (eC gP (ν (dG cR.cl cR.n_ (ae 0))) (υ (cn (aa (ai 04) (aa (ai 2) aj)))) (υ af) #[9,9,9,9])) Pw AN np)))
  (ak (aK (rk (VE.vp (ai 03))))))),λ_=>?_]
 let(a1,a2,E,F,x,c,rfl,hb,hq):=hG;show#[9,x,9,hb,de (λn ρ=>E2 λv b4=>ρ=[aL (pO cq a1 a2 E F),aL (.int x),aL (.str c),aL (.int v),b4]/\v=((mem x).take n).foldl (λt (j:Nat)=>bitOr t (bo F (j,c))) 0) #[_,none,9,9] ?_ ?_];rintro n j ρ hj ⟨v,b4,rfl,hv⟩;show#[9,_,9,bG 4,?_];change yV (.int v) ((cC (bZ F) (cp F) (kK (j,c))).getD (.int 0)) (λr=>E2 λv b4=>[aL (pO cq a1 a2 E F),aL (.int x),aL (.str c),aL r.t,aL (.int j)]=[aL (pO cq a1 a2 E F),aL (.int x),aL (.str c),aL (.int v),b4]/\v=((mem x).take (n+1)).foldl (λt (j:Nat)=>bitOr t (bo F (j,c))) 0);rw[eI];show#[_,_,9,?_];rw[TN,hj,SF,<- hv];rfl;rintro ρ ⟨_,b4,rfl,rfl⟩;rw[OL];calc hq
abbrev r_:ω:=["held"]
def pQ:aI r_ ["held"] (aq mq):=L2.gO
def jO:(r_++(["key","told"]:ω)).Nodup:=by decide +kernel
theorem zN(D:Df K mg "list_of" mq ["held"] f fd)(M:WS mg):cu P w K mg base "list_of" ["held"] 1 (cD K 1 BE):=by
 show D.gR (jt D.F pQ 9 λbP A outer s H E Ox hr ts q hG=>?_);have nd:=pQ.nd;have hu:=bA.dI hr;have np:∀{i:Nat},bj #[H,[],Ox] i:=i_;show#[_,(ak (aK (rk (aT (TP.kX false) (TP.mR false) 24 M.sorted i6 (aH (ν (dD (ts:=["key","told"]) 9 24 (Hb (ai 0)) (λ_ _ _ _ _ _=>(cK (n:=2) 9 (aD (aw (i:=1) jO 9 7 np) (aD (aw (i:=2) jO 9 7 np) bR)))) (λ_ _ _ _ _ _=>(g8 (fU hu (ae 2) 3))) (λ_ _ _ _ _ _=>(υ (aU (aa (υ (ar (ae 1) 3)) (aa (υ (ar (ae 1) 3)) (aa (ai 2) aj)))))))) aM))))),λ_=>?_];let(E,o,rfl,hlen,hq):=hG;have ez:((bZ E).zip (cp E)).map YU=E.map λe=>.tup [El (kK e.1),.int e.2]:=by unfold bZ cp;rw[List.zip_map',qv];rfl
 show#[9,by unfold bZ cp;rw[bL,bL],?_];rw[ez];show#[by rw[bL,π];lia,dq (u:=j8) (p:=λe=>!decide (e.2=0)) (λ_ _ _ _ _=>trivial) (λe he k s hk=>?_) ?_];show#[9,9,?_];change if (!decide (e.2=0))=true then _ else _
 by_cases z:(!decide (e.2=0))=true;rw[ι z] at hk ⊢;calc#[_,ah 9,_,ah 9,bG 4,hk];rw[θ z] at hk ⊢;calc hk;have hl:=TF (λe:Ent=>!decide (e.2=0)) E;show#[_,9,by rw[bL];lia,λt ht=>?_,λzs p=>?_];let(e,_,rfl):=gy.mp ht;calc#[_,_,_,9,_,9];let(bs,p1,rfl):=gL p;calc hq bs p1
abbrev uQ:ω:=["layout","names","place","row","home","start","given","told","name","operand"]
def jP:aI uQ qaB (aq ic):=L2.gO
theorem qU(D:Df K mg "call_wants" ic qaB f fd)(M:WS mg)(M1:QV K aR):cu P w K mg base "call_wants" qaB 1 (cD K 03 (HH aR)):=by
 show D.gR (jt D.F jP 9 λbP A outer s H E Ox hr ts q hG=>?_);have nd:=jP.nd;have hu:=bA.dI hr;have np:∀{i:Nat},bj #[H,[],Ox] i:=i_;have aC:=M1;have gP:=ir hu;show#[_,(ag (ay (i:=03) nd 9 7 (rk (ar (ν (dG aC.cl aC.dU (ae 0))) (ae 2))) np)
  (ag (ay (i:=04) nd 9 7 (rk (ar (ν (dG aC.cl aC.je (ae 0))) (ae 2))) np)
  (ag (ay (i:=05) nd 9 7 (rk (QP gP (ν (dG aC.cl aC.ur (ae 0))) (ν (ar (ae 03) 3)))) np)
  (ag (ay (i:=06) nd 9 7 (rk (ar (ν (ar (ν (dG aC.cl aC.dU (ae 0))) (ν (ar (ν (dG aC.cl aC.GK (ae 0))) (ae 05))))) 3)) np)
  (ag (cf (i:=07) nd 9 7 (rk (bz (aa (υ (aU (aa (ai 1) (aa 40 (aa (υ (eC gP (ae 1) (υ (cn (aa (ai 05) (aa (ai 06) aj)))) (υ af) #[9,9,9,9])) aj))))) aj))) np)
  (fW.weak (u:=(WV aR q)) (ag (cg lu 9 (F4 24 M.zip (υ (ar (ν (ar (ν (dG aC.cl aC.dU (ae 0))) (ae 05))) 3)) (υ (ar (ae 03) 3))) (cK (n:=2) 9 (aD (aw (i:=08) nd 9 7 np) (aD (aw (i:=09) nd 9 7 np) bR)))
   (ak (bq (cN 07 m4 m5 aW aQ (aa (υ (aU (aa (ai 1) (aa (υ (cn (aa (ai 05) (aa (ai 08) aj)))) (aa (υ (eC gP (ae 1) (υ (cn (aa (ai 04) (aa (ai 09) aj)))) (υ af) #[9,9,9,9])) aj))))) aj)))))
  (ak (aK (eQ 07 np)))) ?w1)))))),λ_=>?main]
 case w1=>
  rintro d ρ ⟨rs,a1,E,i,x,g,as,h,st,ps,o,f',rfl,h2,ha,hq,fin⟩;show#[9,_,9,_,eB h2,_,aaN,_,aaO,?_];change kx (tV (ps.map T.str) (as.map qr)) _ _ _ _;rw[zip_map];show de (λn ρ=>E3 λts b8 b9=>ρ=[aL (iB aR rs),aL (.pin a1 (.dt (bZ E) (cp E))),aL (.int (i:Int)),aL (aV (.call x g as)),aL (.int (h:Int)),aL (.int (st:Int)),aL (qr o),some (.lst ts,true),b8,b9]/\ts=wN a1 E (nk h x,gr E st o)::((ps.zip as).take n).map λz=>wN a1 E (nk st z.1,gr E h z.2)) #[_,none,none,9,9] ?_ ?_;rintro n z ρ hz ⟨ts,b8,b9,rfl,BG⟩;have hn:=(dy.mp hz).1;have hs:27<sizeLine:=by
   rw[BG,vI,bL,Np,π];rw[B9] at hn
   lia
  have es:ts++[wN a1 E (nk st z.1,gr E h z.2)]=wN a1 E (nk h x,gr E st o)::((ps.zip as).take (n+1)).map λz=>wN a1 E (nk st z.1,gr E h z.2):=by rw[BG,TN,hz,qo];rfl
  let(z1,z2):=z;have fin2:∀v:T,v=.int (gr E h z2)->E3 λgQ b8 b9=>[aL (iB aR rs),aL (T.pin a1 (.dt (bZ E) (cp E))),aL (.int (i:Int)),aL (aV (.call x g as)),aL (.int (h:Int)),aL (.int (st:Int)),aL (qr o),some (.lst (ts++[.tup [.pin a1 (.dt (bZ E) (cp E)),.kt (kK (nk st z1)),v]]),true),aL (.str z1),aL (qr z2)]=[aL (iB aR rs),aL (.pin a1 (.dt (bZ E) (cp E))),aL (.int (i:Int)),aL (aV (.call x g as)),aL (.int (h:Int)),aL (.int (st:Int)),aL (qr o),some (.lst gQ,true),b8,b9]/\gQ=wN a1 E (nk h x,gr E st o)::((ps.zip as).take (n+1)).map λz=>wN a1 E (nk st z.1,gr E h z.2):=λv e=>by subst e;exact#[_,_,_,9,es]
  show#[9,9,bG 4,?_];cases z2 with
  |nm y=>calc#[bG 4,bG 4,hs,fin2 _ (eI ((h:Int),y) E)]
  |nu m=>exact#[bG 4,bG 4,hs,fin2 _ (by rw[k5];rfl)]
  rintro ρ ⟨ts,b8,b9,rfl,rfl⟩;rw[OL];exact fin _ _ hq
 case main=>
  let(rs,a1,E,i,x,g,as,h,st,ps,o,rfl,cj,ha,hh,hf,hq):=hG;let(f',e,h1,h2,h3,h4):=BB hf;have WY:i<6:=(dy.mp cj).1;have EC:st<6:=(dy.mp h2).1;have hdg:jx ((bb rs 6).map λp=>(Sum.inr p.1:Key)) ((bb rs 6).map λp=>T.int (p.2:Int)) (Sum.inr g)\.int (st:Int):=by rw[Gz,h1];rfl
  show#[9,_,9,_,eB cj,9,_,9,.int (h:Int),(o5 WY).trans (by rw[hh];rfl),9,_,9,_,aaN,_,hdg,9,_,9,9,_,9,.int (e:Int),(LG EC).trans (by rw[h3];rfl),_,eB h4,_,aaM,_,aaM,bG 4,?_];cases o with
  |nm y=>show#[bG 4,bG 4,bG 4,?_];change WV aR q _ [aL (iB aR rs),aL (.pin a1 (.dt (bZ E) (cp E))),aL (.int (i:Int)),aL (aV (.call x g as)),aL (.int (h:Int)),aL (.int (st:Int)),aL (qr (.nm y)),some (.lst [.tup [.pin a1 (.dt (bZ E) (cp E)),.kt (kK (nk h x)),(cC (bZ E) (cp E) (kK (nk st y))).getD (.int 0)]],true),none,none];rw[eI];calc#[rs,a1,E,i,x,g,as,h,st,ps,.nm y,f',9,h2,ha,hq,λ_ _ h=>h]
  |nu n=>show#[bG 4,bG 4,bG 4,?_];rw[k5];calc#[rs,a1,E,i,x,g,as,h,st,ps,.nu n,f',9,h2,ha,hq,λ_ _ h=>h]
abbrev BH:ω:=["layout","sets","place","row","home","names","given"]
def xJ:aI BH qaC (aq uN):=L2.gO
def xK:(BH++(["one"]:ω)).Nodup:=by decide +kernel
theorem HL(D:Df K mg "wants" uN qaC f fd)(M:QV K aR)(M1:Tg K cq)(uR:cu P w K mg base "read_cells" qaA 03 (cD K 03 (Og cq)))(pR:cu P w K mg base "class_of" ["key"] 03 (cD K 1 mw))(mx:cu P w K mg base "members" ["rows"] 2 (cD K 1 pN))(uS:cu P w K mg base "call_wants" qaB 1 (cD K 03 (HH aR))):cu P w K mg base "wants" qaC 04 (cD K 03 (zJ aR cq)):=by
 show D.gR (jt D.F xJ 9 λbP A outer s H E Ox hr ts q hG=>?_);have nd:=xJ.nd;have hu:=bA.dI hr;have np:∀{i:Nat},bj #[H,[],Ox] i:=i_;have aC:=M;have cR:=M1;have gP:=ir hu;show#[_,(ag (ay (i:=03) nd 9 (.inr 9) (rk (ar (ν (dG aC.cl aC.dU (ae 0))) (ae 2))) np)
  (ag (ay (i:=04) nd 9 7 (rk (ar (ν (dG aC.cl aC.je (ae 0))) (ae 2))) np)
  (ag (ay (i:=05) nd 9 7 (rk (dG cR.cl cR.uO (ae 1))) np)
  (ag (a_ (bt hu (ν (ar (ae 03) 3)) (ν au))
   (ak (aK (rk (bz (aa (υ (aU (aa (ai 05) (aa 40 (aa (υ (oF 3 (ae 2))) aj))))) aj)))))
   aJ)
  (ag (a_ (bt hu (ν (ar (ae 03) 3)) (ν au))
   (ak (aK (rk (bz (aa (υ (aU (aa (ai 05) (aa 40 (aa (υ (eC gP (ae 05) 40 (υ af) #[9,9,9,9])) aj))))) aj)))))
   aJ)
  (ag (a_ (bt hu (ν (ar (ae 03) 3)) (ν au))
   (ak (aK (rk (bz (aa (υ (aU (aa (ai 05) (aa 40 (aa (υ (aO uR hr (aa (ai 1) (aa (υ (eC gP (ae 05) 40 (υ af) #[9,9,9,9])) (aa (υ (aO pR hr (aa (υ (ar (ae 03) 3)) aj))) aj))))) aj))))) aj)))))
   aJ)
  (ag (a_ (bt hu (ν (ar (ae 03) 3)) (ν au))
   (ag (ay (i:=06) nd 9 (.inr 9) (rk (eC gP (ae 05) 40 (υ af) #[9,9,9,9])) np)
   (ak (aK (rk (dD (ts:=["one"]) 9 24 (eA (υ (aO mx hr (aa (υ (eC gP (ae 05) 40 (υ af) #[9,9,9,9])) aj)))) (λ_ _ _ _ _ _=>(aw (i:=07) xK 9 7 np)) (λ_ _ _ _ _ _=>kz) (λ_ _ _ _ _ _=>(υ (aU (aa (υ (dG cR.cl cR.n_ (ae 1))) (aa (υ (cn (aa (ai 07) (aa (υ (aO pR hr (aa (υ (ar (ae 03) 3)) aj))) aj)))) (aa (ai 06) aj)))))))))))
   aJ)
  (ag (a_ (bt hu (ν (ar (ae 03) 3)) (ν au))
   (ak (aK (rk (aO uS hr (aa (ai 0) (aa (ai 05) (aa (ai 2) aj)))))))
   aJ)
  (ak (aK (rk (bz aj)))))))))))),λ_=>?_]
 let(rs,a1,a2,E,F,i,r,h,rfl,cj,bC,hkr,hh,hi,YZ,hq):=hG;have WY:i<6:=(dy.mp cj).1;show#[9,_,9,_,eB cj,9,_,9,.int (h:Int),(o5 WY).trans (by rw[hh];rfl),9,_,9,?_];have sh:(0:Int)<=(i:Int)/\(i:Int)<=1000000/\(1:Int).natAbs<2 ^ 64:=#[(),(),by decide];have hq0:=hq;have hq:=λz=>by rw[w_eq rs E F i h z] at hq;exact hq
 cases r with
 |new x=>
  replace hq:=hq 9
  calc#[_,aaL,_,aaM,bG 4,sh,bG 4,bG 4,hq]
 |put x o=>
  replace hq:=hq 9
  show#[_,aaL,_,aaL,_,aaM,bG 4,_,aaN,?_];cases o with
  |nm y=>show#[bG 4,bG 4,bG 4,?_];change q (.fr (.lst [.tup [.pin a1 (.dt (bZ E) (cp E)),.kt (kK ((h:Int),x)),(cC (bZ E) (cp E) (kK ((h:Int),y))).getD (.int 0)]]));rw[eI];calc hq
  |nu n=>show#[bG 4,bG 4,bG 4,?_];rw[k5];calc hq
 |get x y k=>
  replace hq:=hq 9
  show#[_,aaL,_,aaL,_,aaL,_,aaM,bG 4,?_];show#[_,aaN,bG 4,_,aaO,9,_,9,hkr,9,a1,a2,E,F,bo E ((h:Int),y),k6 k,?_,YZ _,bG 4,bG 4,hq];change [pO cq a1 a2 E F,(cC (bZ E) (cp E) (kK ((h:Int),y))).getD (.int 0),.str (HF (nU k))]=_;rw[eI,HJ]
 |set y k a=>
  replace hq:=hq 9
  show#[_,aaL,_,aaL,_,aaL,_,aaL,_,aaO,?_];have fin:∀g:T,g=.int (gr E h a)->du (hName 07) KY (fT (U4 (fS (fT (V_ cq "cells" (fR 1))) (fS (fT (Oa (fS (jq 07) (fS (fT (tI 1 (fS (fT (f2 (fR 03) (fT (fC (.int 2))) Yw)) tu) mw)) tu)))) (fS (jq 06) tu))))) [aL (iB aR rs),aL (pO cq a1 a2 E F),aL (.int (i:Int)),aL (aV (.set y k a)),aL (.int (h:Int)),aL (.pin a1 (.dt (bZ E) (cp E))),aL g,none] (BD (mem (bo E ((h:Int),y)))) λus=>q (.fr (.lst us)):=λg eg=>by subst eg;show h9 (f:=λ(j:Nat)=>T.int (j:Int)) (λj hj r hr=>?_) (by have NU:=hq;unfold wOf at NU;rw[qv] at NU;calc NU);show#[9,_,9,_,aaN,9,_,9,hkr,?_];show#[bG 4,bG 4,?_];change r (.tup [.pin a2 (.dt (bZ F) (cp F)),.kt [.inl (j:Int),.inr (HF (nU k))],.int (gr E h a)]);rw[HJ];exact hr
  have Gy:(BD (mem (bo E ((h:Int),y)))).length<=sizeLine:=by rw[bL];have h1:=TF (ib (bo E ((h:Int),y))) (List.range (Builtin.Int.intBits (bo E ((h:Int),y))));rw[rh] at h1;have:=YZ ((h:Int),y);exact bG (by change (List.filter _ _).length<=_;lia)
  have e1:[(cC (bZ E) (cp E) (kK ((h:Int),y))).getD (.int 0)]=[.int (bo E ((h:Int),y))]:=by rw[eI]
  cases a with
  |nm z=>calc#[bG 4,9,_,aaM,bG 4,9,bo E ((h:Int),y),e1,YZ _,Gy,fin _ (eI ((h:Int),z) E)]
  |nu n=>calc#[bG 4,9,_,aaM,bG 4,9,bo E ((h:Int),y),e1,YZ _,Gy,fin ((cC (bZ E) (cp E) [.inl (h:Int),.inl n]).getD (.int 0)) (by rw[k5];rfl)]
 |call x g as=>let(ha,(st,ps,o),hf):=bC;rw[w_call hf] at hq0;show#[_,aaL,_,aaL,_,aaL,_,aaL,_,aaL,9,rs,a1,E,i,x,g,as,h,st,ps,o,9,cj,ha,hh,hf,?_];rw[fO,qv] at hq0;calc hq0
 |_=>calc#[_,aaL,_,aaL,_,aaL,_,aaL,_,aaL,e_ _,hq 9]
end
end eJ
namespace VT
open PySem PySem.Spec PyProof.Rows L2
section
variable{A:zm}
def At.frame{t:T}(here:∀b∈A,∃u,H b\u/\nA u=true)(fr:∀b o,H b\o->b∉A->H' b\o)(h:At K H A t v):At K H' A t v:=by
 have rd:∀{a:Addr}{u:HO},a∉A->Rd H a u->Rd H' a u:=λn q=>q.elim (λz=>.inl (fr _ _ z n)) λ#[o,z]=>.inr #[o,fr _ _ z n];show At.map (H:=H) (H':=H') (λa vs q=>q.elim (λz=>.inl #[rd z.2 z.1,z.2]) .inr) (λa vs q=>q.elim (λz=>.inl (rd (λm=>?_) z)) .inr) (λa u q=>#[fr _ _ q.1 q.2,q.2]) (λa vs q=>fr _ _ q λm=>by let(u,e,mu):=here a m;rw[e] at q;cases q;cases mu) h
 let(u,e,mu):=here a m;obtain z|⟨o,z⟩:=z
 rw[e] at z;cases z;cases mu;rw[e] at z;cases z;cases mu
end
def WZ:S2:=#[[],[],[],[]]
def gMk(i j:Nat)(Gg:T->S2->(S2->T->Prop)->Prop)(RB:Φ->(qam)->Prop):N4:=λ_ dp ρ=>i<ρ.length/\match ρ[j]? with
 |some (some (l,false))=>∃W:Nat->S2->Prop,(∃m,W m WZ)/\∀m s,W m s->Gg l s λs' t=>∃b,t=.bl b/\if b=true then ∃m',m'<m/\W m' s' else
  ∀o1 o2,RB [.df o1 s'.k1 s'.t1] λr1=>∃W0,r1=.fr (.lst W0)/\ki W0=true/\RB [.df o2 s'.k2 s'.t2] λr2=>∃W2,r2=.fr (.lst W2)/\ki W2=true/\dp [.lst W0,.lst W2]
 |_=>False
section
variable{Gg:T->S2->(S2->T->Prop)->Prop}{RB:Φ->(qam)->Prop}
def zO(K:qaf)(H:Hp):ax K #[H,[],[]] [] [] [] [] H:=#[9,9,λi e h=>by simp at h,Jm,λa h=>absurd h eG,λp hp=>absurd hp eG,λa h=>absurd h eG,λb o e _=>e,λp hp=>absurd hp eG]
def se{t:T}{q:Φ->Prop}{Q:VK}(a:At X.K H [] t v)(hG:RB [t] λr=>∃ts,r=.fr (.lst ts)/\ki ts=true/\q ts)(k:∀ts,q ts->ki ts=true->∀l vs H',aP H H'->H l=none->H' l\.lst vs->(∀A,aB X.K H' A ts vs)->Q (.ref l) H'):cD X.K 1 RB ([v]++[]) H Q E0 :=
 AZ (zO X.K H) (aB.cons a aB.nil) 9 hG λr #[ts,er,hi,hq] w H' sm z=>by subst er;let(l,rfl,_,(vs,e,av),n,_):=z;calc k ts hq hi l vs H' sm n e λA=>aB.rG hi av
def RC(hB:M.hb=true){s:S2}{H0:Hp}{Ox:zm}{o1 o2:Obj}{Jx Br:qak}{dp:Φ->Prop}(sd:SD K M s H)(l1:s.k1.length=Jx.length)(e1:H M.a1\.dT (s.k1.zip Jx))(q1:aB K H M.Ox s.t1 Jx)(l2:s.k2.length=Br.length)(e2:H M.a2\.dT (s.k2.zip Br))(q2:aB K H M.Ox s.t2 Br):∃H2,H2=upd (upd H M.a1 (.jS o1 (.dT (s.k1.zip Jx)))) M.a2 (.jS o2 (.dT (s.k2.zip Br))) /\
  At K H2 [] (.df o1 s.k1 s.t1) (.ref M.a1)/\At K H2 [] (.df o2 s.k2 s.t2) (.ref M.a2)/\H2 M.a\.ins M.C M.dx (fN.zip [.ref M.a1,.ref M.a2])/\∀b o,H b\o->b∉M.Ox->H2 b\o:=by
 have m1:=M.m1;have m2:=M.m2;have CB:upd H M.a1 (.jS o1 (.dT (s.k1.zip Jx))) M.a2\.dT (s.k2.zip Br):=by rw[az (Ne.symm M.n3)];exact e2
 show#[_,9,?_,?_,?_,λb o e n=>?_];simp only[At];calc#[M.a1,Jx,9,l1,#[by rw[az M.n3,aG],λz=>nomatch z],((q1.wrote m1 e1 9).wrote m2 CB 9).br λb hb=>nomatch hb];simp only[At];calc#[M.a2,Br,9,l2,#[aG,λz=>nomatch z],((q2.wrote m1 e1 9).wrote m2 CB 9).br λb hb=>nomatch hb];rw[az M.n2,az M.n1];calc sd.ins hB;rw[az (λz=>n (by rw[z];calc m2)),az (λz=>n (by rw[z];calc m1))];calc e
structure Made(C:Addr)(H H3:Hp)(a dx p1 p2:Addr):Prop where
 same:aP H H3
 na:H a=none
 n1:H p1=none
 n2:H p2=none
 ne:p1≠p2
 ea:H3 a\.ins C dx (fN.zip [.ref p1,.ref p2])
 d1:H3 p1\.dT []
 d2:H3 p2\.dT []
def W3(C:Addr):TE:=λσ H Q=>∀a dx p1 p2 H3,Made C H H3 a dx p1 p2->Q (.ref a) H3
def Mq{xC:Str}{kC:Nat}{fI:Addr}{Oh:FuncData}{Oi:ω}{GI:Φ->(T->Prop)->Prop}{pC Oj BI pc:Pos}(MI:Mk X.K C fI)(FI:dA 39 X.w X.K X.mg X.base i8 kC fI Oh Oi (LD X.K C 2 GI))(W4:∀t1 t2 q,q (.ins C fN [t1,t2])->GI [t1,t2] q)(rI:bA (kC+1) X.A)(gI:Gl X xC)(mI:X.mg xC\.ref C)(bI:Binds X.K Oh Oi [])(W5:f9 xC:=by decide)(s1:starEach [.Dict [] [] Oj,.Dict [] [] BI] 19=(false,eval (.Dict [] [] Oj) 19)::starEach [.Dict [] [] BI] 19:=by rfl)(s2:starEach [.Dict [] [] BI] 19=(false,eval (.Dict [] [] BI) 19)::starEach [] 19:=by rfl)(s3:(backTo pc (starEach [.Dict [] [] BI] 19)).any (·.1)=false:=by rfl):PE X (.Call (.Name xC pC) [.Dict [] [] Oj,.Dict [] [] BI] [] pc) (W3 C) :=
 PE.weak (sS MI FI rI gI mI bI .nil jH (bw oX (bw oX cQ s2) s1) W5 s1 s3) λσ H Q h=>by
  intro p1 F3 p2 vM;have sa:aP H (upd H p1 (.dT [])):=aE F3;have sb:aP (upd H p1 (.dT [])) (upd (upd H p1 (.dT [])) p2 (.dT [])):=aE vM;have zP:p1≠p2:=λz=>by rw[<- z,aG] at vM;cases vM
  have RD:H p2=none:=by rw[az (Ne.symm zP)] at vM;exact vM
  have d1:=sb _ _ aG;have d2:upd (upd H p1 (.dT [])) p2 (.dT []) p2\.dT []:=aG;show uh (q:=λr=>r=.fr (.ins C fN [.pin p1 (.dt [] []),.pin p2 (.dt [] [])])) (zO X.K _) (aB.cons ?_ (aB.cons ?_ aB.nil)) 9 (W4 _ _ (λu=>Rt.fr u=.fr (.ins C fN [.pin p1 (.dt [] []),.pin p2 (.dt [] [])])) 9) (λr er v H3 sm z=>?_);calc#[9,#[p1,[],9,9,#[d1,λm=>nomatch m],aB.nil]];calc#[9,#[p2,[],9,9,#[d2,λm=>nomatch m],aB.nil]];subst er;let(a,rfl,_,(dx,vs,hl,ea,hv),n0,_):=z;let(_,_,rfl,h1,_,_,rfl,h2,rfl):=hv;let(rfl,_):=h1;let(rfl,_):=h2;show h a dx p1 p2 H3 #[(sa.trans sb).trans sm,?_,F3,RD,zP,ea,sm _ _ d1,sm _ _ d2];cases z:H a with
  |none=>rfl
  |some o=>have:=sb _ _ (sa _ _ z);rw[show upd (upd H p1 (.dT [])) p2 (.dT []) a=none from n0] at this;cases this
def zQ{xC xg xl:Str}{kC kg kl:Nat}{fI fg fl:Addr}{Oh W6 fdl:FuncData}{Oi W7 psl:ω}{GI:Φ->(T->Prop)->Prop}{px pC p1 Oj BI pc pg W8 Ol RE pw pp Om Jy W9 RF pl1 W_ Mr DD pt pr:Pos}{kt}(hP:Z.P=[])(S7:i≠j)(hN:X.N.Nodup)(hi:X.N[i]?\x)(hj:X.N[j]?\y)(hx:Loc 41 x)(vx:m8 41 x)(vy:m8 41 y)(hp:PassesOwn 22 X.A 19 X.xe)(MI:Mk X.K C fI)(FI:dA 39 X.w X.K X.mg X.base i8 kC fI Oh Oi (LD X.K C 2 GI))(W4:∀t1 t2 q,q (.ins C fN [t1,t2])->GI [t1,t2] q)(rI:bA (kC+1) X.A)(gI:Gl X xC)(mI:X.mg xC\.ref C)(bI:Binds X.K Oh Oi [])(Fg:dA 39 X.w X.K X.mg X.base i8 kg fg W6 W7 (Ob X.K C Gg))(rg:bA kg X.A)(gg:Gl X xg)(mg:X.mg xg\.ref fg)(kgk:W.keepIn X.K (.ref fg)=true)(bg:Binds X.K W6 W7 [])(Fl:dA 39 X.w X.K X.mg X.base i8 kl fl fdl psl (cD X.K 1 RB))(rl:bA kl X.A)(gl:Gl X xl)(ml:X.mg xl\.ref fl)(klk:W.keepIn X.K (.ref fl)=true)(bl:Binds X.K fdl psl [])(cl:EK X.K C)(n1:cF X.K C "names")(n2:cF X.K C "cells")(hd:f9 x:=by decide)(gv:q_ x:=by decide)(hd2:f9 y:=by decide)(xy:q_ y:=by decide)(W5:f9 xC:=by decide)(db2:f9 xg:=by decide)(db3:f9 xl:=by decide)(s1:starEach [.Dict [] [] Oj,.Dict [] [] BI] 19=(false,eval (.Dict [] [] Oj) 19)::starEach [.Dict [] [] BI] 19:=by rfl)(s2:starEach [.Dict [] [] BI] 19=(false,eval (.Dict [] [] BI) 19)::starEach [] 19:=by rfl)(s3:(backTo pc (starEach [.Dict [] [] BI] 19)).any (·.1)=false:=by rfl)(g1:starEach [.Name y W8,.Name x Ol] 19=(false,eval (.Name y W8) 19)::starEach [.Name x Ol] 19:=by rfl)(g2:starEach [.Name x Ol] 19=(false,eval (.Name x Ol) 19)::starEach [] 19:=by rfl)(g3:(backTo RE (starEach [.Name x Ol] 19)).any (·.1)=false:=by rfl)(he:∀whole,isTrue (.Call (.Name xg pg) [.Name y W8,.Name x Ol] [] RE) 19 whole=(do let v <- whole;standAt (Expr.pos (.Call (.Name xg pg) [.Name y W8,.Name x Ol] [] RE));holding [v] (truthy v)):=by intro _;rfl)(b1:attributeBase (.Name x Om) "names" 19 (eval (.Name x Om) 19)=eval (.Name x Om) 19:=by rfl)(b2:attributeBase (.Name x Jy) "cells" 19 (eval (.Name x Jy) 19)=eval (.Name x Jy) 19:=by rfl)(a1:starEach [.Attribute (.Name x Om) "names" W9] 19=(false,eval (.Attribute (.Name x Om) "names" W9) 19)::starEach [] 19:=by rfl)(a2:starEach [.Attribute (.Name x Jy) "cells" RF] 19=(false,eval (.Attribute (.Name x Jy) "cells" RF) 19)::starEach [] 19:=by rfl)(a3:(backTo Mr (starEach [] 19)).any (·.1)=false:=by rfl)(a4:(backTo DD (starEach [] 19)).any (·.1)=false:=by rfl)(t1:starEach [.Call (.Name xl pl1) [.Attribute (.Name x Om) "names" W9] [] Mr,.Call (.Name xl W_) [.Attribute (.Name x Jy) "cells" RF] [] DD] 19=(false,eval (.Call (.Name xl pl1) [.Attribute (.Name x Om) "names" W9] [] Mr) 19)::starEach [.Call (.Name xl W_) [.Attribute (.Name x Jy) "cells" RF] [] DD] 19:=by rfl)(t2:starEach [.Call (.Name xl W_) [.Attribute (.Name x Jy) "cells" RF] [] DD] 19=(false,eval (.Call (.Name xl W_) [.Attribute (.Name x Jy) "cells" RF] [] DD) 19)::starEach [] 19:=by rfl)(hs:swapsWith (.Call (.Name xC pC) [.Dict [] [] Oj,.Dict [] [] BI] [] pc) (some (.Name x px)) p1.line 19=pure false:=by rfl)(hf:X.fn x=true\/X.env.scope.names.lookup x\.local:=by first|calc .inl rfl|calc .inr rfl|assumption) :
  C4 X Z [.Assign [.Name x px] (.Call (.Name xC pC) [.Dict [] [] Oj,.Dict [] [] BI] [] pc) p1,.While (.Call (.Name xg pg) [.Name y W8,.Name x Ol] [] RE) [.Pass pp] [] pw,
   .Return (some (.Tuple [.Call (.Name xl pl1) [.Attribute (.Name x Om) "names" W9] [] Mr,.Call (.Name xl W_) [.Attribute (.Name x Jy) "cells" RF] [] DD] kt pt)) pr] (gMk i j Gg RB):=.mk λtm=>
 jF.km (iG (sQ hN hi hx (Mq MI FI W4 rI gI mI bI W5 s1 s2 s3) hs hf)
  (iG (vU hp (Ey (gX Fg rg gg mg kgk bg .nil jH (bw (cA hj vy hd2 xy) (bw (cA hi vx hd gv) cQ g2) g1) db2 g1 g3) he) (ka JR))
    (uC (uC (ka (yu (jT (bw (gX Fl rl gl ml klk bl .nil jH (bw (yE (cA hi vx hd gv) b1) cQ a1) db3 a1 a3) (bw (gX Fl rl gl ml klk bl .nil jH (bw (yE (cA hi vx hd gv) b2) cQ a2) db3 a2 a4) cQ t2) t1)))))))) λD σ H #[ρ,O,d,dp,I,q,F]=>by
  let(hil,q):=q;split at q
  rename_i l el
  let(W,w0,step):=q;intro a dx p1 p2 H3 #[sH,na,F3,RD,zP,ea,d1',d2']
  let M:MG:=#[a,dx,p1,p2,C,H3,(λz=>by rw[z,d1'] at ea;cases ea),(λz=>by rw[z,d2'] at ea;cases ea),zP,true]
  have nO:∀b∈M.Ox,H b=none:=λb hb=>by
   rcases M.mem hb with⟨_,rfl⟩|rfl|rfl
   calc na;calc F3;exact RD
  have W':=λb o e=>I.keep b o e (by rw[hP];calc λz=>nomatch z);have sd0:SD X.K M WZ H3:=#[λ_=>ea,#[[],9,d1',aB.nil],#[[],9,d2',aB.nil],λb o e _=>e];let(_,_,o1,o2,rfl,v0,rfl,av0):=I.sl j _ el;have at0:=(av0.more λb hb=>.inr (nO b hb)).same sH;have sj:(σ.set i (some (.ref a)))[j]?\some v0:=by rw[vG S7];exact o2
  have si:(σ.set i (some (.ref a)))[i]?\some (.ref a):=D8 (by rw[I.lσ];calc hil);show#[λm σ' H'=>σ'=σ.set i (some (.ref a))/\∃s,W m s/\SD X.K M s H'/\At X.K H' M.Ox l v0,?_,?_];let(m,hm):=w0;calc#[m,9,_,hm,sd0,at0];rintro m _ H4 ⟨rfl,s,hw,sd,at4⟩;show#[v0,sj,.ref a,si,#[M,s,l,v0,_,#[9,9],9,at4,#[sd.ins,sd.d1,sd.d2,λb o e _=>e],step m s hw,λs' t ht v H5 RG a5=>?_]];let(b,rfl,hb):=ht;show#[b,a5,?_];have Xa:SD X.K M s' H5:=#[RG.ins,RG.d1,RG.d2,λb o e n=>RG.fr b o (sd.fr b o e n) n];cases b with
  |true=>
    change if true=true then _ else _
    let(m',lt,hw'):=hb;calc#[λσ' H'=>σ'=σ.set i (some (.ref a))/\∃s,W m' s/\SD X.K M s H'/\At X.K H' M.Ox l v0,λσ' H' h=>#[m',lt,h],9,s',hw',Xa,at4.frame sd.here λb o e n=>RG.fr b o e n]
  |false=>
    change if false=true then _ else _
    let(Jx,l1,e1,q1):=Xa.d1;let(Br,l2,e2,q2):=Xa.d2;show#[p1,_,e1,λo1=>#[p2,_,(by rw[az (Ne.symm zP)];calc e2),λo2=>?_]];let(H6,eH,A1,A2,ea6,fr6):=RC (hB:=rfl) (H0:=H) (Ox:=[]) (dp:=dp) Xa l1 e1 q1 l2 e2 q2;have fr:=λb o e=>by
     have e':=W' b o e;have n:b∉M.Ox:=λz=>by rw[nO b z] at e';cases e'
     exact fr6 b o (Xa.fr b o (sH _ _ e') n) n
    rw[<- show _=_ from eH];show#[.ref a,si,a,C,dx,_,.ref p1,9,ea6,cl,n1,9,se A1 (hb o1 o2) λW0 h1 i1 b1 us1 H7 s7 n7 e7 at7=>#[.ref a,si,a,C,dx,_,.ref p2,9,s7 _ _ ea6,cl,n2,9,se (A2.same s7) h1 λW2 h2 i2 b2 us2 H8 s8 n8 e8 at8=>#[by rw[π];simp,λp hp=>?_]]];have sp:aP H8 (upd H8 p (.tup [.ref b1,.ref b2])):=aE hp;have ne:b1≠b2:=λz=>by rw[<- z,e7] at n8;cases n8
    show F.dp [.lst W0,.lst W2] h2 p [b1,b2] _ #[λb o e=>sp _ _ (s8 _ _ (s7 _ _ (fr b o e))),aG,?_,?_,?_];simp[ne];intro b YL;simp only[cY,eG,fv] at YL;cases z:Z.H0 b with
    |none=>rfl
    |some o=>
      exfalso;have e6:=fr b o z;obtain rfl|rfl:=YL
      rw[n7] at e6;cases e6;rw[s7 _ _ e6] at n8;cases n8
    show .cons #[us1,sp _ _ (s8 _ _ e7),((at7 _).same s8).same sp] (.cons #[us2,sp _ _ e8,(at8 _).same sp] .nil)
  calc q.elim
end
section
variable{st:Stmt}{g u:nI}{pos:Pos}
def S2.put2(s:S2)(k:List Key)(t:T):S2:={s with k2:=jy s.k2 k,t2:=iu s.k2 s.t2 k t}
def Oo(M:MG)(n m:Nat)(f:FE):nI:=λd ρ s=>f (ρ.map (mS M s)) λt=>mU t/\ρ[n]?\some (.ob M.a2,false)/\s.t2.length<16777216/\∃k,ρ[m]?\some (.kt k,false)/\d.nx ρ (s.put2 k t)
theorem DE{tm:qab}{s:S2}{H1:Hp}{A:zm}{D:Ends}{d:Hc}{t:T}{k:List Key}(S1:SG X.K M tm ρ s σ H1)(F:He X.K M tm d D)(Rf:mU t)(a:At X.K H' A t v)(hn:ρ[n]?\some (.ob M.a2,false))(hlen:s.t2.length<16777216)(hk:ρ[m]?\some (.kt k,false))(hq:d.nx ρ (s.put2 k t)) :
  Ex n σ H1 λx H2=>Ex m σ H2 λy H3=>∃a H4,x=.ref a/\qO H3 a y v H4/\D.nx σ H4:=by
 let(O1,rX,I1):=S1.env;let(_,_,_,z1,_,v1,rfl,b1):=I1.sl n _ hn;let(_,_,_,z2,_,v2,rfl,b2):=I1.sl m _ hk;subst b1;let(b,rfl,hb,_):=b2;let(vs,hl,h1,h2):=S1.sd.d2;have hz:(s.k2.zip vs).length<sizeLine:=by
  rw[π,B9,hl,Jn,h2.length]
  lia
 have pq:=xw s.k2 vs k v hl;show#[.ref M.a2,z1,.ref b,z2,M.a2,_,9,qO.t h1 hb hz,?_];rw[pq.1];have LZ:=M.m2;have wr:∀{t:T}{v':V},At X.K H1 M.Ox t v'->At X.K (upd H1 M.a2 (.dT ((jy s.k2 k).zip (iu s.k2 vs k v)))) M.Ox t v':=λq=>At.wrote LZ h1 9 q;have WI:∀{t:Φ}{v':qak},aB X.K H1 M.Ox t v'->aB X.K (upd H1 M.a2 (.dT ((jy s.k2 k).zip (iu s.k2 vs k v)))) M.Ox t v':=λq=>aB.wrote LZ h1 9 q;have na:=M.n2;show F.nx ρ (s.put2 k t) σ _ #[#[O1,rX,I1.lσ,I1.lO,λi e he=>?_,I1.nd,λb hb=>(by rw[rX] at hb;calc absurd hb eG),λp hp=>absurd hp eG,λb hb=>?_,λb o e _=>e,λp hp=>?_],?_,?_,?_,λb o e n=>(by rw[az (λz=>n (by rw[z];calc LZ))];calc S1.sd.fr b o e n)] hq;let(o,sv,g1,g2,g3):=I1.sl i e he;show#[o,sv,g1,g2,?_];rw[iw rX] at g3 ⊢;show g3.map (λt v z=>wr z) λb t' eo _=>?_;subst eo;have:=aF.mpr (eM g1);rw[rX] at this;calc absurd this eG;by_cases e:b=M.a2;rw[e,aG];simp;rw[az e];let(u,eu,_):=S1.sd.here b hb;rw[eu];simp;have:=I1.kj p hp;rw[iw rX] at this ⊢;calc wr this;exact λz=>by rw[az na];exact S1.sd.ins z
 let(Br,l2,e2,q2):=S1.sd.d1;calc#[Br,l2,by rw[az M.n3];calc e2,WI q2];calc#[_,pq.2,aG,WI (ph h2 (pD Rf a))]
def Ms(n m:Nat){f:FE}(hu:X.A.units+1<cLine)(he:∀H0 Ox,VE X #[H0,[],Ox] e f)(hN:X.N[n]?\x:=by rfl)(hv:m8 41 x:=by calc jvv 9)(hd:f9 x:=by decide)(gv:q_ x:=by decide)(Td:X.N[m]?\y:=by rfl)(Te:m8 41 y:=by calc jvv 9)(hd2:f9 y:=by decide)(xy:q_ y:=by decide)(hs:swapsWith e (some (.Subscript 52 (.Name y p2) dH)) pos.line 19=pure false:=by rfl):GS X M (.Assign [.Subscript 52 (.Name y p2) dH] e pos) (Oo M n m f):=.mk λtm ε s' σ H D J #[ρ,s,d,S,hg,F]=>by let(O2,yk,I2):=S.up;show n5 hu (cA hN hv hd gv) (cA Td Te hd2 xy) (he H [] tm) hs ε s' σ H D J #[_,O2,_,I2,hg,λt ht v H1 sm a=>?_];let(Rf,hn,hlen,k,hk,hq):=ht;calc DE (S.i0 sm) F Rf a hn hlen hk hq
def Xb(M:MG)(n m:Nat)(f:FE):nI:=λd ρ s=>N' M n m f d ρ s\/Oo M n m f d ρ s
def GS.or{g u:nI}{st:Stmt}(h1:GS X M st g)(h2:GS X M st u):GS X M st (λd ρ s=>g d ρ s\/u d ρ s):=.mk λtm ε s' σ H D J #[ρ,s,d,S,hg,F]=>by
 obtain hg|hg:=hg
 calc h1.h tm ε s' σ H D J #[ρ,s,d,S,hg,F];calc h2.h tm ε s' σ H D J #[ρ,s,d,S,hg,F]
def RH(n m:Nat){f:FE}(hu:X.A.units+1<cLine)(he:∀H0 Ox,VE X #[H0,[],Ox] e f)(hN:X.N[n]?\x:=by rfl)(hv:m8 41 x:=by calc jvv 9)(hd:f9 x:=by decide)(gv:q_ x:=by decide)(Td:X.N[m]?\y:=by rfl)(Te:m8 41 y:=by calc jvv 9)(hd2:f9 y:=by decide)(xy:q_ y:=by decide)(hs:swapsWith e (some (.Subscript 52 (.Name y p2) dH)) pos.line 19=pure false:=by rfl):GS X M (.Assign [.Subscript 52 (.Name y p2) dH] e pos) (Xb M n m f) :=
 GS.or (L_ n m hu he hN hv hd gv Td Te hd2 xy hs) (Ms n m hu he hN hv hd gv Td Te hd2 xy hs)
def adu(M:MG)(s:S2):mS M s (some (.ob M.a2,false))\(.dt s.k2 s.t2,false):=by change (if M.a2=M.a1 then _ else _)=_;rw[θ (Ne.symm M.n3),ι 9]
end
end VT
namespace eJ
open PySem L2 VT Gen K5 Lay BS ym MK
open PySem.Builtin (bitOr)
def sE(E F:List Ent):S2:=#[bZ E,cp E,bZ F,cp F]
def zR(C:Addr)(l:T)(s:S2)(q:S2->T->Prop):Prop:=E4 λ(rs:qal) (E F:List Ent) (N:List Mv)=>l=iB C rs/\s=sE E F/\(∀r∈rs,WU rs r/\WT r)/\6<=64/\N.length<=250000/\(∀m∈k7 rs,m∈N)/\Iv 6 N #[E,F,false]/\q (sE (bB rs E F 6).E (bB rs E F 6).F) (.bl (bB rs E F 6).b)
abbrev rho(M:MG)(C:Addr)(rs:qal)(b:Bool)(b3 b4 b5 b6 b7 b8:Option T):En:=[aL (iB C rs),aL (.ob M.a),aL (.bl b),mT b3,mT b4,mT b5,mT b6,mT b7,mT b8]
def HM(rs:qal)(i:Nat){t:T}(h:(cW (iA rs))[i]?\t):i<6/\t=.tup [.int (i:Int),oT (gx 28 i)]:=by unfold cW iA at h;rw[Sz,d4] at h;by_cases hi:i<6;rw[Nj hi] at h;cases h;calc#[hi,9];rw[Nk (by rw[rh];lia)] at h;cases h
def HN(rs:qal):(cW (iA rs)).length=6:=by unfold cW iA;simp
def Mt{d:Hc}{s:S2}{ts:Φ}{k:List Key}(h5:(ρ.map (mS M s))[n]?\some (.dt ks ts,false))(h6:(ρ.map (mS M s))[m]?\some (.kt k,false))(hq:mU ((cC ks ts k).getD (.int 0))/\d.nx (ρ.set i (some ((cC ks ts k).getD (.int 0),false))) s):Hf M i (fT (Hj (fR n) (jq m) (fT (fC (.int 0))))) d ρ s:=by unfold Hf fT Hj fR;rw[h5];change jq m _ _;unfold jq;rw[h6];calc hq
theorem HP{n2 n8:Nat}{d:Hc}{s s0:S2}(es:s0=s){ts:Φ}{k:List Key}{b:Bool}{v before:Int}(h2:(ρ.map (mS M s))[n2]?\some (.bl b,false))(h5:(ρ.map (mS M s))[n]?\some (.dt ks ts,false))(h6:(ρ.map (mS M s))[m]?\some (.kt k,false))(h8:(ρ.map (mS M s))[n8]?\some (.int before,false))(hg:cC ks ts k\.int v)(hq:mU (.bl (b || !decide (v=before)))/\d.nx (ρ.set i (some (.bl (b || !decide (v=before)),false))) s) :
  Hf M i (fT (PZ (fV (jq n2)) (f2 (fT (Hk (fR n) (jq m))) (fR n8) Kz))) d ρ s0:=by
 rw[es];unfold Hf fT PZ fV jq;rw[h2];cases b with
 |true=>calc hq
 |false=>change f2 _ _ _ _ _;unfold f2 Hk fR;dsimp only;rw[h5];change (match (ρ.map (mS M s))[m]? with|some (some (t,false))=>_|_=>False);rw[h6];show#[_,hg,?_];change (match (ρ.map (mS M s))[n8]? with|some (some (t,_))=>_|_=>False);rw[h8];calc hq
def HQ{g u:nI}{d:Hc}{s:S2}{t:T}(h:ρ[n]?\some (t,false))(ht:A3 t=false)(hg:g d ρ s):wIf (nB (f2 (fR n) (fT (fC .bK)) tR)) g u d ρ s:=by
 unfold wIf nB f2 fR;rw[h];change if (!A3 t)=true then g d ρ s else u d ρ s
 rw[ht];calc hg
def wO(M:MG)(p:Wt):T:=.tup [.ob (if p.1=true then M.a1 else M.a2),.kt (kK p.2.1),.int p.2.2]
theorem Oq(M:MG)(E F:List Ent):∀l:List Wt,Dx (l.map (wT M.a1 M.a2 E F))\l.map (wO M)
 |[]=>rfl
 |p::l=>by rw[fO,fO];let(b,k,v):=p;unfold Dx;rw[Oq M E F l];cases b<;>rfl
def RI(p:Tb)(w:Bool)(k:Int×Str)(v:Int):(if w=true then (sE p.E p.F).Dv (kK k) (.int v) else (sE p.E p.F).put2 (kK k) (.int v))=sE (p.put w k v).E (p.put w k v).F:=by
 cases w with
 |true=>change S2.Dv _ _ _=_;unfold S2.Dv sE Tb.put;dsimp only;rw[j1 p.E k v,dh];rfl
 |false=>change S2.put2 _ _ _=_;unfold S2.put2 sE Tb.put;dsimp only;rw[j1 p.F k v,dh];rfl
def dOf(p:Tb)(w:Bool):T:=if w=true then .dt (bZ p.E) (cp p.E) else .dt (bZ p.F) (cp p.F)
def Xc(M:MG)(p:Tb)(w:Bool):mS M (sE p.E p.F) (some (.ob (if w=true then M.a1 else M.a2),false))\(dOf p w,false):=by
 cases w with
 |true=>calc adm M _
 |false=>calc adu M _
def Xd{f:FE}{d:Hc}{p:Tb}{ub:Bool}{k:Int×Str}{v:Int}(hf:∀Q:T->Prop,Q (.int v)->f (ρ.map (mS M (sE p.E p.F))) Q)(h5:ρ[n]?\some (.ob (if ub=true then M.a1 else M.a2),false))(h6:ρ[m]?\some (.kt (kK k),false))(l1:p.E.length<16777216)(l2:p.F.length<16777216)(hq:d.nx ρ (sE (p.put ub k v).E (p.put ub k v).F)):Xb M n m f d ρ (sE p.E p.F):=by
 rw[<- RI] at hq;cases ub with
 |true=>calc .inl (hf _ #[.inl #[_,9],h5,by change (cp p.E).length<_;unfold cp;rw[bL];calc l1,kK k,h6,hq])
 |false=>calc .inr (hf _ #[.inl #[_,9],h5,by change (cp p.F).length<_;unfold cp;rw[bL];calc l2,kK k,h6,hq])
def adv(p:Tb)(ub:Bool):∃EE:List Ent,dOf p ub=.dt (bZ EE) (cp EE)/\(∀k,p.get ub k=bo EE k)/\∀k v,dOf (p.put ub k v) ub=.dt (bZ (dm EE k v)) (cp (dm EE k v)):=by
 cases ub with
 |true=>calc#[p.E,9,λ_=>rfl,λ_ _=>rfl]
 |false=>calc#[p.F,9,λ_=>rfl,λ_ _=>rfl]
section
variable{aR cq:Addr}
abbrev Mu:ω:=["layout","sets","lacking","place","home","held","key","wanted","before"]
def xM:aI Mu qaD (aq uM):=L2.gO
theorem HR(D:Df K mg "grown" uM qaD f fd)(aC:QV K aR)(Mg:WS mg)(Mw:cu P w K mg base "wants" qaC 04 (cD K 03 (zJ aR cq))):cu P w K mg base "grown" qaD (04+1) (Ob K cq (zR aR)):=by
 show D.gR (fnG D.F xM 9 5 λbP A outer s H E M hC hB hr l s0 q hG=>?_);have nd:=xM.nd;have hu:=bA.dI hr;have gP:=ir hu;subst hC;show#[_,(k0 (xx λ_ _=>ay (i:=2) nd 9 7 (rk wj) i_)
  (k0 (Rg lu 9 (λ_ _=>fY 24 Mg.enumerate (υ (dG aC.cl aC.je (ae 0)))) (λ_ _=>cK (n:=2) 9 (aD (aw (i:=03) nd 9 7 i_) (aD (aw (i:=04) nd 9 7 i_) bR)))
   (n9 (WH (λ_ _=>FQ (ae 04) (ν iL))
    (n9 (Ma lu 9 (λ_ _=>υ (aO Mw hr (aa (ai 0) (aa (ai 1) (aa (ai 03) aj))))) (λ_ _=>cK (n:=03) 9 (aD (aw (i:=05) nd 9 7 i_) (aD (aw (i:=06) nd 9 7 i_) (aD (aw (i:=07) nd 9 7 i_) bR))))
     (k0 (Hg (i:=08) nd 9 7 (λ_ _=>υ (eC gP (ae 05) (ai 06) (υ af) #[9,9,9,9])))
     (k0 (RH 05 06 gP (λ_ _=>υ (lV (ae 08) (ae 07))))
     (n9 (Hg (i:=2) nd 9 7 (λ_ _=>υ (U3 (VE.vp (ai 2)) (Fh (U7 hu (ν (Bu gP (ae 05) (ai 06))) (ae 08)))))))))))
    L9)))
  (n9 (xx λ_ _=>aK (rk (VE.vp (ai 2))))))),?_]
 let(rs,E0,F0,N,rfl,rfl,bC,hn,Gy,hN,I0,hq):=hG;show#[9,9,_,9,?_];show#[λi ρ s=>E6 λb3 b4 b5 b6 b7 b8=>ρ=rho M aR rs (bB rs E0 F0 i).b b3 b4 b5 b6 b7 b8/\s=sE (bB rs E0 F0 i).E (bB rs E0 F0 i).F,#[none,none,none,none,none,none,9,9],?_,?_];rintro i t ρ s ht ⟨b3,b4,b5,b6,b7,b8,rfl,rfl⟩;let(hi,rfl):=HM rs i ht;obtain⟨r,cj⟩:∃r,rs[i]?\r:=#[_,f_ hi];have I:=(k8 hN I0 i ()).1;have gs:=gM rs E0 F0 i;generalize hp:bB rs E0 F0 i=p at I gs ⊢;show#[9,9,(by change jB [aL (iB aR rs),aL (.ob M.a),aL (.bl p.b),aL (.int (i:Int)),aL (oT _),mT b5,mT b6,mT b7,mT b8]=true;simp only[zC,zB,pB]),?_];cases hh:gx (bE rs) i with
 |none=>
  have wn:wA rs p.E p.F i=[]:=by unfold wA Em;rw[cj,hh];rfl
  have gs:bB rs E0 F0 (i+1)=p:=by rw[gs];unfold YX;rw[wn];rfl
  calc#[some (.int (i:Int)),some .bK,b5,b6,b7,b8,by rw[gs];rfl,by rw[gs]]
 |some h=>
  have wa:wA rs p.E p.F i=(vN rs i h r).flatMap (wM p.E p.F):=by unfold wA Em;rw[cj,hh]
  have gs:bB rs E0 F0 (i+1)=((vN rs i h r).flatMap (wM p.E p.F)).foldl jD p:=by rw[gs];unfold YX;rw[wa]
  show HQ (t:=.int (h:Int)) 9 9 ?_;change Hi M _ _ _ _ [aL (iB aR rs),aL (.ob M.a),aL (.bl p.b),aL (.int (i:Int)),aL (.int (h:Int)),mT b5,mT b6,mT b7,mT b8] (sE p.E p.F);unfold Hi;change (fT (tI 03 (fS (jq 0) (fS (jq 1) (fS (jq 03) tu))) (zJ aR M.C))) [some (iB aR rs,false),mS M (sE p.E p.F) (some (.ob M.a,false)),some (.bl p.b,false),some (.int (i:Int),false),some (.int (h:Int),false),mS M (sE p.E p.F) (mT b5),mS M (sE p.E p.F) (mT b6),mS M (sE p.E p.F) (mT b7),mS M (sE p.E p.F) (mT b8)] _;rw[adl _ _ hB];have hro:=bC r (eM cj);show#[9,rs,M.a1,M.a2,p.E,p.F,i,r,h,9,cj,hro.1,hro.2,hh,(),λk=>jR (bits_le (I.bl true k)) hn,?_];have hwk:∀w∈(vN rs i h r).flatMap (wM p.E p.F),w.2.1∈ix 6 N w.1/\below 6 w.2.2:=λw hw=>(Hv hN I hi (by rw[wa];calc hw)).choose_spec.2.2;generalize (vN rs i h r).flatMap (wM p.E p.F)=L at gs hwk;show#[L.map (wO M),Oq M p.E p.F L,λj ρ s=>E4 λb5 b6 b7 b8=>ρ=rho M aR rs ((L.take j).foldl jD p).b (some (.int (i:Int))) (some (.int (h:Int))) b5 b6 b7 b8/\s=sE ((L.take j).foldl jD p).E ((L.take j).foldl jD p).F,#[b5,b6,b7,b8,9,9],?_,?_];rintro j t ρ s hj ⟨b5,b6,b7,b8,rfl,rfl⟩;rw[d4] at hj;let(u,hw,rfl):=Sy.mp hj;have es:(L.take (j+1)).foldl jD p=jD ((L.take j).foldl jD p) u:=by rw[TN,hw,SF];rfl
  have Ij:Iv 6 N ((L.take j).foldl jD p):=(uG I λv hv=>hwk v (List.mem_of_mem_take hv)).1;have l1:=Ij.Rm;have l2:=Ij.Ro;have l3:N.length * (6+1)<=250000 * 65:=Nat.mul_le_mul Gy ();generalize (L.take j).foldl jD p=pj at es Ij l1 l2 ⊢;let(ub,uk,uv):=u;let(EE,hd,hg,adw):=adv pj ub;show#[9,9,(by change jB [aL (iB aR rs),aL (.ob M.a),aL (.bl pj.b),aL (.int (i:Int)),aL (.int (h:Int)),aL (.ob _),aL (.kt (kK uk)),aL (.int uv),mT b8]=true;simp only[zC,zB,pB]),?_];show Mt (ks:=bZ EE) (ts:=cp EE) (k:=kK uk) (by change some (mS M (sE pj.E pj.F) (some (.ob (if ub=true then M.a1 else M.a2),false)))=_;rw[Xc,hd]) 9 ?_;rw[eI,<- hg];show#[.inl #[_,9],Xd (v:=bitOr (pj.get ub uk) uv) (k:=uk) (ub:=ub) (λQ hQ=>hQ) 9 9 () () ?_];show HP (M:=M) (i:=2) (n:=05) (m:=06) (n2:=2) (n8:=08) (ρ:=[some (iB aR rs,false),some (.ob M.a,false),some (.bl pj.b,false),some (.int (i:Int),false),some (.int (h:Int),false),some (.ob (if ub=true then M.a1 else M.a2),false),some (.kt (kK uk),false),some (.int uv,false),some (.int (pj.get ub uk),false)]) 9 (ks:=bZ (dm EE uk (bitOr (pj.get ub uk) uv))) (ts:=cp (dm EE uk (bitOr (pj.get ub uk) uv))) (k:=kK uk) (b:=pj.b) (v:=bitOr (pj.get ub uk) uv) (before:=pj.get ub uk) 9 (by change some (mS M (sE (pj.put ub uk (bitOr (pj.get ub uk) uv)).E (pj.put ub uk (bitOr (pj.get ub uk) uv)).F) (some (.ob (if ub=true then M.a1 else M.a2),false)))=_;rw[Xc,adw]) 9 9 (Mf uk _ EE) ?_;calc#[.inr #[_,9],some (.ob (if ub=true then M.a1 else M.a2)),some (.kt (kK uk)),some (.int uv),some (.int (pj.get ub uk)),by rw[es];rfl,by rw[es];rfl];rintro ρ s ⟨b5',b6',b7',b8',rfl,rfl⟩;rw[bL,OL];exact#[_,_,_,_,_,_,by rw[gs],by rw[gs]]
 rintro ρ s ⟨b3,b4,b5,b6,b7,b8,rfl,rfl⟩;rw[HN] at *;show#[(by change jB [aL (iB aR rs),aL (.ob M.a),aL (.bl _),mT b3,mT b4,mT b5,mT b6,mT b7,mT b8]=true;simp only[zC,zB,pB]),hq]
end
def BJ(ts:Φ)(q:Φ->Prop):Prop:=∃rs:qal,ts=[.lst 42]/\N6 rs/\6<=64/\(k7 rs).length<=400/\(∀r∈rs,WU rs r/\WT r) /\
 ∀m,(∀j<m,(j3 rs (j+1)).b=true)->(j3 rs (m+1)).b=false->∀bs cs:List Ent,bs.Perm (HI (j3 rs (m+1)).E)->cs.Perm (HI (j3 rs (m+1)).F)->q [.lst (bs.map j8),.lst (cs.map j8)]
theorem uT:∀bs:List Ent,ki (bs.map j8)=true
 |[]=>rfl
 |b::bs=>by rw[fO,ki,uT bs];rfl
section
variable{aR cq:Addr}
abbrev HS:ω:=["program","layout","sets"]
def sf:aI HS qav (aq pK):=L2.gO
theorem DF(D:Df K mg "makers" pK qav f fd)(M:QV K aR)(M1:Tg K cq)(pS:zu P w K mg base "Layout" aR qaw 2 1 (uu aR))(zS:zu P w K mg base "Sets" cq qaz 1 2 (HG cq))(uU:cu P w K mg base "grown" qaD 05 (Ob K cq (zR aR)))(DG:cu P w K mg base "list_of" ["held"] 1 (cD K 1 BE)):cu P w K mg base "makers" qav 06 (QE K 1 BJ):=by
 let(HU,DH,pT,pU,pV,pW):=pS;let(RJ,Mx,zU,zV,zW,zX):=zS;let(My,HV,uV,uW,uX,uY):=uU;let(Ti,RK,DI,DJ,DK,DM):=DG;show D.gR (fnD D.F sf 9 5 λbP A outer s H E Ox hr ts q hG=>?_);have nd:=sf.nd;have np:∀{i:Nat},bj #[H,[],Ox] i:=i_;show#[_,fz (ay (i:=1) nd 9 7 (rk (Bg pT pW 29 24 pU pV (aa (ai 0) aj))) np)
  (zQ (i:=2) (j:=1) 9 5 nd 9 9 7 7 7 lu zU zX (λt1 t2 q hq=>#[t1,t2,9,hq]) 29 24 zV zW uY 29 24 uV uW uX DM 29 24 DI DJ DK M1.cl M1.uO M1.n_),λ_=>?_]
 let(rs,rfl,W,hn,Gy,bC,hq):=hG;show#[9,rs,9,W,(),?_];show#[by change 2<03;decide,?_];show#[λm s=>∃j,s=sE (j3 rs j).E (j3 rs j).F/\(∀i<j,(j3 rs (i+1)).b=true)/\m=mu 6 (k7 rs) (j3 rs j),#[_,0,9,λi hi=>absurd hi (TV i),9],?_];rintro m s ⟨j,rfl,hb,rfl⟩;have I:=(xE rs j).1;have I':=(xE rs (j+1)).1;have l1:=I'.Rm;have l2:=I'.Ro;have l3:(k7 rs).length * (6+1)<=400 * 65:=Nat.mul_le_mul Gy ();show#[rs,(j3 rs j).E,(j3 rs j).F,k7 rs,9,9,bC,hn,(),λ_ h=>h,I.bool false,_,9,?_];split
 rename_i z
 have z:(j3 rs (j+1)).b=true:=z;have gn:=(k8 (λ_ h=>h) (b:=(j3 rs j).b) I 6 (cv _)).2;exact#[_,WK gn.1 (gn.2 z),j+1,9,λi hi=>by by_cases e:i=j;rw[e];calc z;calc hb i (),9]
 rename_i z
 have z:(j3 rs (j+1)).b=false:=by
  cases h:(j3 rs (j+1)).b with
  |false=>rfl
  |true=>exact absurd h z
 intro o1 o2;show#[(j3 rs (j+1)).E,o1,9,(),λbs p=>#[_,9,uT bs,?_]];show#[(j3 rs (j+1)).F,o2,9,(),λcs p2=>#[_,9,uT cs,?_]];calc hq j hb z bs cs p p2
end
end eJ
namespace DU
open PySem PySem.Spec PyProof.Rows
theorem pX:entryFor table "dict.update.loop"\Builtin.«dict.update.loop»:=entryFor_of_tree (by kernel_rfl)
def ie:plainId "dict.update.loop"=true:=by decide +kernel
section
variable{K:Type}[DecidableEq K]
def Eo(ks:Nat->K)(mX:Nat->Addr)(vs:Nat->Value):Nat->List (K×Addr×Value)
 |0=>[]
 |i+1=>storedH (Eo ks mX vs i) (ks i) (mX i) (vs i)
theorem uZ(ks:Nat->K)(mX:Nat->Addr)(vs:Nat->Value):∀i,∀x∈Eo ks mX vs i,∃j,j<i/\x.1=ks j/\x.2.1=mX j
 |0,x,h=>nomatch h
 |i+1,x,h=>by
  have ih:=uZ ks mX vs i;simp only[Eo,storedH] at h;split at h;let(y,hy,rfl):=gy.mp h;let(j,h1,h2,h3):=ih y hy;unfold putAt;split;calc#[j,(),h2,h3];calc#[j,(),h2,h3];rcases gc.mp h with z|z
  let(j,h1,h2):=ih x z;calc#[j,(),h2];rw[fP.mp z];calc#[i,(),9,9]
theorem u7(ks:Nat->K)(mX:Nat->Addr)(vs:Nat->Value):∀i,(Eo ks mX vs i).length<=i
 |0=>cv _
 |i+1=>by have ih:=u7 ks mX vs i;simp only[Eo,storedH];split;rw[bL];lia;rw[lq,X6];lia
end
section
variable{R:Result->Shared->Prop}{I:Addr}{wr:zm}{G:Array GenState->Array GenState->Prop}{P:Nat->Value->Prop}{St:Nat->Shared->Prop}
variable{K:Type}[DecidableEq K]{knd:PySem.HeapKind prog w K}
def xN{S:Addr}{xs:List (K×Addr×Value)}(d:h.DictOfH knd S xs)(e:∀o,h.get? S\o->h'.get? S\o)(ik:∀x∈xs,knd.is h' x.1 x.2.1):h'.DictOfH knd S xs:=by let(o,es,ep,h1,h2,h3,h4,_,h6):=d;calc#[o,es,ep,e o h1,h2,h3,h4,ik,h6]
theorem zY(W:WalksS prog w A.in1 I fp wr G n P St)(S:Addr)(Y4:S∉fp)(HW:knd.room A.in1)(ks:Nat->K)(mX bs:Nat->Addr)(vs:Nat->Value)(hP:∀i v,P i v->v=.ref (bs i))(hn:n<=sizeLine)(res:Value)(Ok:Heap->Prop)(HX:∀h,Ok h->∀i,i<n->∃o c,h.get? (bs i)\o/\o.cls=.type "tuple"/\o.data=.seq ([.ref (mX i),vs i].toArray) c)(jm:∀h,Ok h->∀i,i<n->knd.is h (ks i) (mX i))(HY:∀h h',Ok h->(∀b o,b∉S::wr->h.get? b\o->h'.get? b\o)->Ok h') :
  ∀(k i:Nat)(s:Shared)(tok:Tok),n-i=k->i<=n->St i s->Ok 50->s.heap.DictOfH knd S (Eo ks mX vs i) ->
   (∀s',Moved (S::wr) G s s'->s'.heap.DictOfH knd S (Eo ks mX vs n)->R (.ok (.ret res)) s') ->
   codeAny 14 A (.builtin "dict.update.loop" #[[.ref S,.ref I,.int (i:Int) tok,res],[]]) R s:=by
 have hSw:S∉wr:=λh=>Y4 (W.sub _ h);have y9:∀b∈wr,b∈S::wr:=λb hb=>gT _ hb;intro k;induction k with
 |zero=>
   intro i s tok hk hi EC bC hS hR;have WY:i=n:=by lia
   subst WY;show aas pX ?_;rw[X_ ie _];change wpAny _ A.in1 (pyNext (.ref I) >>= _) _ _ s;show ζ (W.done s _ _ EC λs' hm=>?_);change wpAny _ A.in1 (Builtin.Dict.addKeywords S [] >>= _) _ _ s';show ζ (ζ (η (η ?_)));calc η (hR s' (hm.mono y9) (xN hS (λo e=>hm.heap S o hSw e) λx hx=>by let(j,h1,h2,h3):=uZ ks mX vs i x hx;rw[h2,h3];calc jm _ (HY _ _ bC λb o hb e=>hm.heap b o (λz=>hb (y9 b z)) e) j h1))
 |succ k ih=>
   intro i s tok hk hi EC bC hS hR;have c8:i<n:=by lia
   show aas pX ?_;rw[X_ ie _];change wpAny _ A.in1 (pyNext (.ref I) >>= _) _ _ s;show ζ (W.item i s _ _ c8 EC λv s' hPv adx hm=>?_);cases hP i v hPv;have Cz:Ok s'.heap:=HY _ _ bC λb o hb e=>hm.heap b o (λz=>hb (y9 b z)) e;have Mz:s'.heap.DictOfH knd S (Eo ks mX vs i):=xN hS (λo e=>hm.heap S o hSw e) λx hx=>by let(j,h1,h2,h3):=uZ ks mX vs i x hx;rw[h2,h3];exact jm _ Cz j ()
   let(o,c,ho,OY,ady):=HX _ Cz i c8;change wpAny _ A.in1 (holding [.ref (bs i)] _ >>= _) _ _ s';show ζ (v9 ?_);show ζ (wpAny_tryCatch ?_);unfold Builtin.Dict.pairItems;show ζ (aam (T:="tuple") #[o,ho,OY] ?_);have h1:((Value.type "tuple"==Value.type "list") || (Value.type "tuple"==Value.type "tuple"))=true:=by decide
   rw[ι h1];show ζ (aad ho ady (η ?_));change wpAny _ A.in1 (holding [.ref (mX i),vs i] (dictSet S (.ref (mX i)) (vs i))) _ _ s';show v9 ?_;show wpAny_dictSet_heap (hsz:=by have:=u7 ks mX vs i;lia) HW (jm _ Cz i c8) Mz λh' hd hsb=>?_;have kp:∀b o,b≠S->s'.heap.get? b\o->h'.get? b\o:=λb o hb e=>by rw[hsb.2 b hb];exact e
   show η #[aaI ie _,?_];show ih (i+1) _ _ () c8 (W.frame _ s' _ _ adx (Nat.le_add_right _ _) λb hb o e=>kp b o (λz=>Y4 (z▸hb)) e) (HY _ _ Cz λb o hb e=>kp b o (λz=>hb (z▸fM)) e) hd λSU adz adA=>?_;calc hR SU (Moved.trans W.gtrans ((hm.mono y9).then_heap (Nat.le_add_right _ _) λb o hb e=>kp b o (λz=>hb (z▸fM)) e) adz) adA
end
section
theorem MA:typeLookup (.type "list") (Str.ofString "__getattribute__")=pure (some (.builtin "list.__getattribute__")):=by rw[typeLookup_type];kernel_rfl
theorem DN:typeLookup (.type "list") (Str.ofString "keys")=pure none:=by rw[typeLookup_type];kernel_rfl
theorem DO:typeLookup (.type "list") (Str.ofString "__getattr__")=pure none:=by rw[typeLookup_type];kernel_rfl
def R0(s:Shared)(a:Addr)(r:Result)(s':Shared):Prop:=E3 λ(h':Heap) (tk:Nat) (e:Addr)=>r=.error (.ref e)/\s'={s with heap:=h',toks:=tk}/\s.heap.NewAttrErr h' e (.ref a) (Str.ofString "keys")
theorem xO:isSubtype (.type "AttributeError") (.type "AttributeError")=pure true:=by rw[isSubtype_type];kernel_rfl
def DP{xs:Array Value}{k:Nat}{Q:(Option Value)->Shared->Prop}(ho:s.heap.get? a\o)(hc:o.cls=.type "list")(hdt:o.data=.seq xs k)(hd:o.dict=none)(hh:A.handled=none)(h:∀(h':Heap) (tk:Nat),(∀b o,s.heap.get? b\o->h'.get? b\o)->Q none {s with heap:=h',toks:=tk}) :
  wpAny 14 A (getAttr? (.ref a) (Str.ofString "keys")) Q E s:=by
 unfold getAttr? mkText getAttrBy? getAttrBy
 wp_walk
 rw[hc];show aaA MA ?_;change wpAny _ A (getAttrByItsOwn _ _ _ _ _ _) _ _ _;unfold getAttrByItsOwn hookBefore callGetattribute
 wp_walk
 show aaA (Ze.bind _) ?_;change wpAny _ A (call (.builtin "list.__getattribute__") [.ref a,.str (Str.ofString "keys") s.toks]) _ _ _;show wpAny_call (aaq (codeAny_call_builtin (R:=R0 s a) Ze.plain PySem.F.entry_list_ga (Ze.check _ _ _ _ _ _ _ _ #[o,ho,hc] (PySem.F.args_list_getattribute_2 _ _) ?_)) λr s' hr=>?_);let(adB,Xe,Xf,Ct):=o;cases hc;cases hdt;cases hd;show meets_getattribute_miss_list a xs k Ct (Str.ofString "keys") s.toks DN 23 (by rw[π];decide +kernel) prog w A (R0 s a) _ ?_;calc#[ho,hh,λh' tk e hx=>#[h',tk,e,9,9,hx]];let(h',tk,e,rfl,rfl,hx):=hr;let(t,u,he):=hx.there;change wpAny _ A (getattributeRaised _ _ _ _ _ _ _) _ _ _;have hT:Shared.TypeIs {s with heap:=h',toks:=tk} (.ref e) "AttributeError":=#[_,he,9];unfold getattributeRaised;show ζ (aaz (T:="AttributeError") (b:=true) hT xO ?_);unfold hookBehind;show ζ (aaA DO ?_);have y9:=xO;unfold hookOrError attributeErrorLeaves
 wp_walk
 calc h h' tk hx.keeps
end
section
variable{K:Type}[DecidableEq K]{knd:PySem.HeapKind prog w K}
abbrev mY:Obj:={cls:=.type "dict",data:=.dict ([].toArray)}
def zZ(hg:h.get? a\mY):h.DictOfH knd a []:=#[_,([].toArray),_,hg,#[9,9,9],9,9,λ_ hx=>(nomatch hx),.nil]
theorem nJ{l:Addr}{items:Array Value}{nl:Nat}{sl:Array (Option Value)}(ks:Nat->K)(mX bs:Nat->Addr)(vs:Nat->Value)(hh:A.handled=none)(HW:knd.room A.in1.in1)(hl:s.heap.get? l=some {cls:=.type "list",dict:=none,data:=.seq items nl,slots:=sl})(hi:∀(i:Nat) (v:Value),items[i]?\v->v=.ref (bs i))(hn:items.size<=sizeLine)(Ok:Heap->Prop)(bC:Ok 50)(HX:∀h,Ok h->∀i,i<items.size->∃o c,h.get? (bs i)\o/\o.cls=.type "tuple"/\o.data=.seq ([.ref (mX i),vs i].toArray) c)(jm:∀h,Ok h->∀i,i<items.size->knd.is h (ks i) (mX i))(HY:∀h h',Ok h->(∀b o,b<8->h.get? b\o->h'.get? b\o)->Ok h')(h:∀(h':Heap) (tk:Nat),h'.DictOfH knd 8 (Eo ks mX vs items.size)->(∀b o,b<8->s.heap.get? b\o->h'.get? b\o)->8<h'.objs.size->Q 32 {s with heap:=h',toks:=tk}) :
  wpAny 14 A (call (.type "dict") [.ref l]) Q E s:=by
 let(c,tl,adW):=JE.mro;have adR:=JE.made;have y9:=JE.sub;show wpAny_call (codeAny_of_tree ?_);change wpAny _ _ (callAny (.type "dict") _) _ _ _;show η #[Code.quiet_builtin _ 23,aas PySem.F.entry_type_call ?_];rw[Around.under_plain (weight_type_call_type "dict" [.ref l] []) 9];have h1:=JE.notType;have h2:=JE.canCreate;have hct:=F.kt_typeCall_dict_1 (.ref l)
 repeat (any_goals (first|assumption|wp_step))
 show aaq (kt_code_dict_new (.ref l) (E:=E) (Q₁:=λobj s₁=>obj=.ref 8/\s₁={s with heap:=s.heap.push mY}) #[9,9]) λr s₁ hr=>?_;cases r with
 |error e=>calc hr
 |ok fl=>
   cases fl with
   |ret obj=>
     let(rfl,rfl):=hr;have hS:(s.heap.push mY).get? 8\mY:=gU _ 9;have hT:Shared.TypeIs {s with heap:=s.heap.push mY} 32 "dict":=#[_,hS,9];have hli:=JE.init.lookup;have UZ:=JE.init.bind 32
     repeat (any_goals (first|assumption|wp_step))
     show aaq (codeAny_call_builtin (R:=wants (λr s₂=>r=.none/\∃h' tk,s₂={s with heap:=h',toks:=tk} /\
       h'.DictOfH knd 8 (Eo ks mX vs items.size) /\
       (∀b o,b<8->s.heap.get? b\o->h'.get? b\o)) E) JE.init.plain PySem.F.entry_dict_init (JE.init.check _ _ _ _ _ _ _ _ hT (PySem.F.args_dict_init_2 _ _) ?_)) λr₂ s₂ hr₂=>?_
     . unfold Builtin.«dict.__init__» Builtin.Dict.selfAndRest Builtin.Dict.notOrdered;unfold Builtin.Dict.updateCommon Builtin.Dict.updateFrom;have Xg:(s.heap.push mY).get? l=some {cls:=.type "list",dict:=none,data:=.seq items nl,slots:=sl}:=c9 _ hl;have hTl:Shared.TypeIs {s with heap:=s.heap.push mY} (.ref l) "list":=#[_,Xg,9];generalize hPI:pyIter=PI;generalize hGA:getAttr?=GA;rw[ι 5];show ζ (ζ (ζ (aam hT ?_)));rw[θ 5];show η (ζ (η (η ?_)));show ζ (aam hTl ?_);rw[ι 5];subst hGA;have hh2:A.in1.in1.handled=none:=by simp[hh]
       show ζ (DP Xg 9 9 9 hh2 λh3 tk3 k3=>?_);rw[ι (show (none:Option Value).isNone=true from 9)];show ζ (aah ?_);subst hPI;have hl3:h3.get? l=some {cls:=.type "list",dict:=none,data:=.seq items nl,slots:=sl}:=k3 _ _ Xg;have Xh:h3.get? 8\mY:=k3 _ _ hS;have hlI:h3.IsList l items:=#[_,hl3,9,nl,9];have hlS:l<8:=dz hl;have hSz:8<h3.objs.size:=dz Xh;show ζ (aav hlI ?_);show η #[aaI ie _,?_];have adC:l≠h3.objs.size:=gf (SQ hlS hSz);have Y4:8∉[h3.objs.size,l]:=by simp only[cY,fP,eG,fv,not_or];exact#[gf hSz,Cb hlS]
       have up:∀b o,b<8->s.heap.get? b\o->(h3.push {cls:=.type "list_iterator",data:=.fields ([.ref l,.int 0 0].toArray)}).get? b\o:=λb o hb e=>c9 _ (k3 _ _ (c9 _ e));have Xi:∀b,b<8->b∉[8,h3.objs.size]:=λb hb=>by simp only[cY,fP,eG,fv,not_or];exact#[gf hb,gf (SQ hb hSz)]
       show zY (A:=A.in1) ((Walks.list hh2 _ l adC items).toS) 8 Y4 HW ks mX bs vs hi hn .none Ok HX jm (λg g' hg k=>HY g g' hg λb o hb e=>k b o ?_ e) (items.size-0) 0 _ _ () (e_ _) #[#[_,gU _ 9,9,9],(hlI.push _)] (HY _ _ bC up) (zZ (c9 _ Xh)) ?hR;exact Xi b hb
       case hR=>
        intro s' hm Mz;let(h',g',d',tk',os'):=s';have eg:g'=s.gens:=hm.gens;have ed:d'=s.drawn:=hm.drawn;have eo:os'=s.os:=hm.os;subst eg;subst ed;subst eo;show#[9,h',tk',9,Mz,λb o hb e=>?_];exact hm.heap b o (Xi b hb) (up b o hb e)
     . cases r₂ with
       |error e=>calc hr₂
       |ok fl₂=>
         cases fl₂ with
         |ret r=>
           let(rfl,h',tk,rfl,Mz,Lg):=hr₂
           repeat (any_goals (first|assumption|wp_step))
           show h _ _ Mz Lg ?_;let(o,_,_,ho,_):=Mz;calc dz ho
         |_=>calc hr₂.elim
   |_=>calc hr.elim
end
end DU
namespace L2
open PySem PySem.Spec PyProof.Rows
abbrev RL:=Addr×Addr×List Key×V
def putN(es:List RL):List (List Key×V):=es.foldl (λm e=>putK m e.2.2.1 e.2.2.2) []
theorem my(hc:X.calm=true)(hu:X.A.units+10<cLine):cV X (.type "dict") (λxs H Q=>∃(p:Addr)(es:List RL),xs=[.ref p]/\fQ X.K H p (es.map λe=>V.ref e.1) /\
  (∀e∈es,dJ X.K H e.1 [.ref e.2.1,e.2.2.2]/\H e.2.1\.tup (e.2.2.1.map kV))/\∀a,H a=none->Q (.ref a) (upd H a (.dT (putN es)))):=by
 intro ε s σ H xs us Q I r h;let(p,es,rfl,hp,he,q):=h;let(u,rfl,ru):=vals1 r;cases ru;let(aN,rv,(o0,n,e0,c1,c2,c3),z):=I.list hp;let(adB,Xe,Xf,Ct):=o0;cases c1;cases c2;cases c3;have hz:es.length<=sizeLine:=by rw[bL] at z;exact z
 have ei:aN=es.map λe=>Value.ref e.1:=by
  clear e0 hp he q z hz;revert aN;induction es with
  |nil=>intro aN rv;cases rv;rfl
  |cons e es ih=>
    intro aN rv;cases rv with
    |cons r0 rr=>cases r0;rw[ih _ rr];rfl
 subst ei;have vex:∀i:Nat,∃u:Value,∀e,es[i]?\e->RelV e.2.2.2 u/\∃o c,s.heap.get? e.1\o/\o.cls=.type "tuple"/\o.data=.seq ([.ref e.2.1,u].toArray) c:=λi=>by
  cases h1:es[i]? with
  |none=>calc#[.none,λe z=>nomatch z]
  |some e=>
    let(ht,_):=he e (eM h1);let(jr,r2,(o,g1,g2,c,g3),_):=I.tuple ht;cases r2 with
    |cons ra rb=>
      cases rb with
      |cons rc rd=>cases rd;cases ra;exact#[_,λe' z=>by cases z;calc#[rc,o,c,g1,g2,g3]]
 let(vs,Y5):=Classical.axiomOfChoice vex
 let d0:RL:=(0,0,[],.bK)
 have gD:∀{i:Nat}{e:RL},es[i]?\e->es.getD i d0=e:=λ{i e} h1=>by rw[Sw,h1];rfl
 have gS:∀{i:Nat},i<es.length->∃e,es[i]?\e:=λh1=>#[_,f_ h1];have sz:(es.map λe=>Value.ref e.1).toArray.size=es.length:=by simp
 show DU.nJ (knd:=tupleKind (bM 39 X.w)) (λi=>(es.getD i d0).2.2.1) (λi=>(es.getD i d0).2.1) (λi=>(es.getD i d0).1) vs (I.ok.hd hc) (aau (by change X.A.units+1+1<cLine;lia)) e0 (λi v h1=>?_) (by rw[sz];calc hz) (λh=>∀b o,b<8->s.heap.get? b\o->h.get? b\o) (λ_ _ _ e=>e) (λh ok i h1=>?_) (λh ok i h1=>?_) (λg g' ok k b o hb e=>k b o hb (ok b o hb e)) (λh' tk hd hk c8=>?_);rw[List.getElem?_toArray,d4] at h1;cases h2:es[i]? with
 |none=>rw[h2] at h1;cases h1
 |some e=>rw[h2] at h1;cases h1;change _=Value.ref (es.getD i d0).1;rw[gD h2]
 rw[sz] at h1;let(e,h2):=gS h1;let(_,o,c,g1,g2,g3):=Y5 i e h2;rw[gD h2];calc#[o,c,ok _ _ (dz g1) g1,g2,g3];rw[sz] at h1;let(e,h2):=gS h1;rw[gD h2];let(o,a2,n2,g1,g2):=oW I.bC (he e (eM h2)).2;calc#[o,a2,n2,ok _ _ (dz g1) g1,g2];have kt:∀i,i<=es.length->KT H (putN (es.take i)) (DU.Eo (λi=>(es.getD i d0).2.2.1) (λi=>(es.getD i d0).2.1) vs i):=by
  intro i;induction i with
  |zero=>intro _;calc .nil
  |succ i ih=>
    intro h1;let(e,h2):=gS (i:=i) ();have e1:putN (es.take (i+1))=putK (putN (es.take i)) e.2.2.1 e.2.2.2:=by unfold putN;rw[List.take_succ,h2,SF];rfl
    rw[e1];have:=(ih ()).put e.2.2.1 (he e (eM h2)).2 (Y5 i e h2).1;simp only[DU.Eo];rw[gD h2];exact this
 have kt':=kt es.length (cv _);rw[OL] at kt';rw[sz] at hd;have hlen:(putN es).length<=sizeLine:=by rw[JG kt'];exact jR (DU.u7 _ _ _ _) hz
 let(o,JN,ep,g1,g2,g3,g4,g5,g6):=hd;show#[.ref 8,_,I.laid (o:=.dT (putN es)) (λb o e=>hk b o (dz e) e) (cv _) #[hlen,?_,_,kt'.keeps λb ys hb=>?_,o,JN,ep,g1,g2,g3,g4,g6],9,q _ I.fresh];calc aaa.mpr (Ne.symm (gf I.big));rw[az (λz=>by rw[z,I.fresh] at hb;cases hb)];calc hb
end L2
namespace VT
open PySem PySem.Spec PyProof.Rows L2
def boot_dict:bootBuiltins "dict"\.type "dict":=by decide +kernel
def dN{α:Type}(ps:List (List Key×α)):List (List Key)×List α:=ps.foldl (λm p=>(jy m.1 p.1,iu m.1 m.2 p.1 p.2)) ([],[])
def e2(e:RL):List Key×V:=e.2.2
theorem HZ:∀(es:List RL)(m:List (List Key)×qak),m.1.length=m.2.length ->
  es.foldl (λm e=>L2.putK m e.2.2.1 e.2.2.2) (m.1.zip m.2)=((es.map e2).foldl (λm p=>(jy m.1 p.1,iu m.1 m.2 p.1 p.2)) m).1.zip ((es.map e2).foldl (λm p=>(jy m.1 p.1,iu m.1 m.2 p.1 p.2)) m).2/\((es.map e2).foldl (λm p=>(jy m.1 p.1,iu m.1 m.2 p.1 p.2)) m).1.length=((es.map e2).foldl (λm p=>(jy m.1 p.1,iu m.1 m.2 p.1 p.2)) m).2.length
 |[],m,h=>#[9,h]
 |e::es,m,h=>by have q:=xw m.1 m.2 e.2.2.1 e.2.2.2 h;rw[JF,fO,JF,q.1];calc HZ es (jy m.1 e.2.2.1,iu m.1 m.2 e.2.2.1 e.2.2.2) q.2
section
variable{A:zm}
theorem Ot:∀(ps:List (List Key×T))(es:List (List Key×V))(m:List (List Key)×Φ)(m':List (List Key)×qak),ps.map (·.1)=es.map (·.1)->aB K H A (ps.map (·.2)) (es.map (·.2))->m.1=m'.1->aB K H A m.2 m'.2 ->
  (ps.foldl (λm p=>(jy m.1 p.1,iu m.1 m.2 p.1 p.2)) m).1=(es.foldl (λm p=>(jy m.1 p.1,iu m.1 m.2 p.1 p.2)) m').1/\aB K H A (ps.foldl (λm p=>(jy m.1 p.1,iu m.1 m.2 p.1 p.2)) m).2 (es.foldl (λm p=>(jy m.1 p.1,iu m.1 m.2 p.1 p.2)) m').2
 |[],[],_,_,_,_,h1,h2=>#[h1,h2]
 |p::ps,e::es,m,m',hk,hv,h1,h2=>by rw[fO,fO] at hk;rw[fO,fO] at hv;simp only[aB] at hv;let(v,r,er,q1,q2):=hv;cases er;let(k1,k2):=List.cons.inj hk;rw[JF,JF];show Ot ps es _ _ k2 q2 ?_ ?_;change jy m.1 p.1=jy m'.1 e.1;rw[h1,k1];change aB K H A (iu m.1 m.2 p.1 p.2) (iu m'.1 m'.2 e.1 e.2);rw[h1,k1];calc ph h2 q1
 |[],_::_,_,_,hk,_,_,_=>by simp at hk
 |_::_,[],_,_,hk,_,_,_=>by simp at hk
theorem pairs_at:∀(ps:List (List Key×T))(vs:qak),aB K H A (ps.map λp=>T.tup [.kt p.1,p.2]) vs ->
  ∃es:List RL,vs=es.map (λe=>V.ref e.1)/\(∀e∈es,dJ K H e.1 [.ref e.2.1,e.2.2.2]/\H e.2.1\.tup (e.2.2.1.map kV))/\ps.map (·.1)=(es.map e2).map (·.1)/\aB K H A (ps.map (·.2)) ((es.map e2).map (·.2))
 |[],vs,h=>by simp only[SN,aB] at h;subst h;calc#[[],9,λe he=>(nomatch he),9,aB.nil]
 |p::ps,vs,h=>by
   rw[fO] at h;simp only[aB] at h;let(v,r,rfl,q1,q2):=h;let(es,rfl,h1,h2,h3):=pairs_at ps r q2;simp only[At] at q1;let(b,us,rfl,sq,al):=q1;simp only[aB,At] at al;let(v1,r1,rfl,(kb,rfl,dk),v2,r2,rfl,a2,rfl):=al;show#[(b,kb,p.1,v2)::es,9,λe he=>?_,?_,?_];rcases cY.mp he with rfl|he
   calc#[sq,dk.1];calc h1 e he;rw[fO,fO,fO,h2];rfl;calc aB.cons a2 h3
end
section
variable{a:Expr}{p1 zt:Pos}
def MB(fa:FE):FP:=λρ Q=>fa ρ λx=>∃ps:List (List Key×T),x=.lst (ps.map λp=>T.tup [.kt p.1,p.2])/\Q (.fr (.dt (dN ps).1 (dN ps).2))
def DQ(hc:X.calm=true)(hu:X.A.units+10<cLine)(hg:Gl X "dict")(hm:X.mg "dict"=none)(ha:VE X Z a fa)(he:starEach [a] 19=(false,eval a 19)::starEach [] 19:=by rfl)(jn:(backTo zt (starEach [] 19)).any (·.1)=false:=by rfl) :
  VP X Z (.Call (.Name "dict" p1) [a] [] zt) (MB fa):=.mk λtm=>
 PE.weak (rC (my hc hu) hg hm boot_dict (bw (ha tm) cQ he) 5 5 he jn) λσ H Q #[ρ,O,q,I,hf,k] =>
  #[ρ,O,_,I,hf,λx hx v H1 s1 a1=>by let(ps,rfl,hq):=hx;simp only[At] at a1;let(p,us,rfl,sq,al):=a1;let(es,rfl,h1,h2,h3):=pairs_at ps us al;show#[p,es,9,sq.imp (λz=>z.1) id,h1,λb hb=>?_];show k _ hq _ _ (s1.trans (aE hb)) ?_;have q1:=HZ es ([],[]) 9;have q2:=Ot ps (es.map e2) ([],[]) ([],[]) h2 h3 9 aB.nil;let(n1,n2,n3):=(I.same s1).fresh hb;have e1:(dN ps).1=(dN (es.map e2)).1:=q2.1;show#[b,9,(I.same s1).new hb 9,#[(dN (es.map e2)).2,by rw[e1];calc q1.2,?_,(q2.2.more λc hc=>(cO c hc).imp id λe=>by rw[e];calc hb).same (aE hb)],n3,n2];rw[aG,e1];calc Ω (λz=>some (HO.dT z)) q1.1]
end
end VT
namespace eJ
open PySem L2 VT Gen K5 Lay BS ym MK
structure MgD(mg:qae):Prop where
 dict:mg "dict"=none
def dkE(E:List Ent):T:=.dt (dN (E.map λe:Ent=>(kK e.1,T.int e.2))).1 (dN (E.map λe:Ent=>(kK e.1,T.int e.2))).2
def BK(ts:Φ)(q:qam):Prop:=∃E:List Ent,ts=[.lst (E.map j8)]/\E.length<=1000000/\q (.fr (dkE E))
section
abbrev sg:ω:=["parts"]
def pY:aI sg ["parts"] (aq mn):=L2.gO
def qV:(sg++(["part"]:ω)).Nodup:=by decide +kernel
def z0(D:Df K mg "dict_of" mn ["parts"] f fd)(M:MgD mg):cu P w K mg base "dict_of" ["parts"] 1 (cD K 1 BK):=by show D.gR (jt D.F pY 9 λbP A outer s H E Ox hr ts q hG=>?_);have nd:=pY.nd;have hu:=bA.dI hr;have np:∀{i:Nat},bj #[H,[],Ox] i:=i_;show#[_,(ak (aK (rk (DQ 9 (Yc (Nat.add_le_add_left 5 _) hu) 24 M.dict (υ (dD (ts:=["part"]) 9 24 (eA (ai 0)) (λ_ _ _ _ _ _=>(aw (i:=1) qV 9 7 np)) (λ_ _ _ _ _ _=>kz) (λ_ _ _ _ _ _=>(υ (aU (aa (υ (cn (aa (υ (ar (ae 1) 3)) (aa (υ (ar (ae 1) 3)) aj)))) (aa (υ (ar (ae 1) 3)) aj))))))))))),λ_=>?_];let(E,rfl,hl,hq):=hG;show#[9,?_];change (E.map j8).length<=sizeLine/\du _ _ _ _ (E.map j8) _;show#[by rw[bL,π];lia,h9 (u:=λe:Ent=>T.tup [.kt (kK e.1),.int e.2]) (λe _ r hr=>?_) ?_];calc#[_,aaL,_,aaM,by change 2<=sizeLine;rw[π];decide,_,aaN,by change 2<=sizeLine;rw[π];decide,hr];calc#[E.map λe:Ent=>(kK e.1,T.int e.2),by rw[qv];rfl,hq]
end
end eJ
namespace VT
open PySem PySem.Spec PyProof.Rows L2
def adD(fL:FE)(f1 f2:FP)(Gg:T->S2->(S2->T->Prop)->Prop):FP:=λρ Q=>jB ρ=true/\fL ρ λl=>f1 ρ λr1=>match r1 with
 |.fr (.dt k1 t1)=>ki t1=true/\f2 ρ λr2=>match r2 with
  |.fr (.dt k2 t2)=>ki t2=true/\Gg l #[k1,t1,k2,t2] λ_ t=>rG t=true/\Q (.vw t)
  |_=>False
 |_=>False
section
variable{Gg:T->S2->(S2->T->Prop)->Prop}
def BL{f:FP}(h:∀H0 Ox,VP X #[H0,[],Ox] e f)(Ox:zm)(tm:qab):PE X e (λσ H Q=>lP X #[H,[],Ox] tm f σ H Q):=λε s σ H Q I q=>(h H Ox tm) ε s σ H Q I q
def RM{fL:FE}{f1 f2:FP}{xC xg:Str}{kC kg:Nat}{fI fg:Addr}{Oh W6:FuncData}{Oi W7:ω}{GI:Φ->(T->Prop)->Prop}{pC pc pg RE:Pos}{eL e1 e2:Expr}(MI:Mk X.K C fI)(FI:dA 39 X.w X.K X.mg X.base i8 kC fI Oh Oi (LD X.K C 2 GI))(W4:∀t1 t2 q,q (.ins C fN [t1,t2])->GI [t1,t2] q)(rI:bA (kC+1) X.A)(gI:Gl X xC)(mI:X.mg xC\.ref C)(bI:Binds X.K Oh Oi [])(Fg:dA 39 X.w X.K X.mg X.base i8 kg fg W6 W7 (Ob X.K C Gg))(rg:bA kg X.A)(gg:Gl X xg)(mg:X.mg xg\.ref fg)(kgk:W.keepIn X.K (.ref fg)=true)(bg:Binds X.K W6 W7 [])(hL:VE X Z eL fL)(h1:∀H0 Ox,VP X #[H0,[],Ox] e1 f1)(h2:∀H0 Ox,VP X #[H0,[],Ox] e2 f2)(W5:f9 xC:=by decide)(db2:f9 xg:=by decide)(s1:starEach [e1,e2] 19=(false,eval e1 19)::starEach [e2] 19:=by rfl)(s2:starEach [e2] 19=(false,eval e2 19)::starEach [] 19:=by rfl)(s3:(backTo pc (starEach [e2] 19)).any (·.1)=false:=by rfl)(g1:starEach [eL,.Call (.Name xC pC) [e1,e2] [] pc] 19=(false,eval eL 19)::starEach [.Call (.Name xC pC) [e1,e2] [] pc] 19:=by rfl)(g2:starEach [.Call (.Name xC pC) [e1,e2] [] pc] 19=(false,eval (.Call (.Name xC pC) [e1,e2] [] pc) 19)::starEach [] 19:=by rfl)(g3:(backTo RE (starEach [.Call (.Name xC pC) [e1,e2] [] pc] 19)).any (·.1)=false:=by rfl) :
  VP X Z (.Call (.Name xg pg) [eL,.Call (.Name xC pC) [e1,e2] [] pc] [] RE) (adD fL f1 f2 Gg):=.mk λtm=>
 PE.weak (gX Fg rg gg mg kgk bg .nil jH (bw (hL tm) (bw (sS MI FI rI gI mI bI .nil jH (bw (BL h1 Z.Ox tm) (bw (BL h2 Z.Ox tm) cQ s2) s1) W5 s1 s3) cQ g2) g1) db2 g1 g3) λσ H Q #[ρ,O,q,I,hf,k]=>by
  let(hv,hf):=hf;have hr:=n6 I hv;show#[ρ,O,_,I,hf,λl hl v0 H1 sm1 a1=>?_];have I1:=I.same sm1;show#[ρ,O,_,I1.now hr,hl,λr1 rX v1 H2 Xj R1=>?_];split at rX
  rename_i k1 t1
  let(i1,rX):=rX;let(p1,rfl,_,(Jx,l1,e1,q1),n1,_):=R1;have I2:=I1.same Xj;show#[ρ,O,_,I2.now hr,rX,λr2 yk v2 H3 Tj R2=>?_];split at yk
  rename_i k2 t2
  let(i2,hG):=yk;let(p2,rfl,_,(Br,l2,e2,q2),n2,_):=R2;have n1:H1 p1=none:=n1;have n2:H2 p2=none:=n2;have S6:=Tj _ _ e1;have zP:p1≠p2:=λz=>by rw[<- z,e1] at n2;cases n2
  change ∀x dx,H3 x=none->H3 dx=none->dx≠x->LD X.K C 2 GI (V.ref x::([.ref p1,.ref p2]++[])) (upd (upd H3 dx (.own x)) x (.ins C dx [])) (λv H2=>v=.bK/\Ob X.K C Gg ([v0,.ref x]++[]) H2 Q E0) E0;show uh (Q:=λu H2=>Ob X.K C Gg ([v0,u]++[]) H2 Q E0) (q:=λr=>r=.fr (.ins C fN [.pin p1 (.dt k1 t1),.pin p2 (.dt k2 t2)])) (zO X.K _) (aB.cons ?_ (aB.cons ?_ aB.nil)) 9 (W4 _ _ (λu=>Rt.fr u=.fr (.ins C fN [.pin p1 (.dt k1 t1),.pin p2 (.dt k2 t2)])) 9) (λr er v H4 Tn z=>?_);calc#[9,#[p1,Jx,9,l1,#[S6,λm=>nomatch m],(q1.same Tj).br λb hb=>nomatch hb]];calc#[9,#[p2,Br,9,l2,#[e2,λm=>nomatch m],q2.br λb hb=>nomatch hb]];subst er;let(a,rfl,_,(dx,vs,hl,ea,Y5),n0,_):=z;let(_,_,rfl,z1,_,_,rfl,z2,rfl):=Y5;let(rfl,_):=z1;let(rfl,_):=z2;have n0:H3 a=none:=n0
  let M:MG:=#[a,dx,p1,p2,C,H4,(λz=>by rw[z,S6] at n0;cases n0),(λz=>by rw[z,e2] at n0;cases n0),zP,true]
  have no:∀b∈M.Ox,∀o,H1 b\o->False:=λb hb o e=>by
   rcases M.mem hb with⟨_,rfl⟩|rfl|rfl
   have:=Tj _ _ (Xj _ _ e);rw[show H3 M.a=none from n0] at this;cases this;rw[show H1 M.a1=none from n1] at e;cases e;have:=Xj _ _ e;rw[show H2 M.a2=none from n2] at this;cases this
  have bK:∀b∈M.Ox,H1 b=none:=λb hb=>by
   cases z:H1 b with
   |none=>rfl
   |some o=>exact (no b hb o z).elim
  show#[M,#[k1,t1,k2,t2],l,v0,_,#[9,9],9,(((a1.more λb hb=>.inr (bK b hb)).same Xj).same Tj).same Tn,#[λ_=>ea,#[Jx,l1,Tn _ _ S6,aB.rG i1 ((q1.same Tj).same Tn)],#[Br,l2,Tn _ _ e2,aB.rG i2 (q2.same Tn)],λb o e _=>e],hG,λs' t ht v H5 RG a5=>?_];have sm:aP H H5:=λb o e=>RG.fr b o (Tn _ _ (Tj _ _ (Xj _ _ (sm1 _ _ e)))) λz=>no b z o (sm1 _ _ e);calc k (.vw t) ht.2 v H5 sm #[I.same sm,At.rG ht.1 a5];calc yk.elim;calc rX.elim
end
end VT
namespace eJ
open PySem L2 VT Gen K5 Lay BS ym MK
theorem H_:∀(E A:List Ent),((A++E).map (·.1)).Nodup->(E.map λe:Ent=>(kK e.1,T.int e.2)).foldl (λm p=>(jy m.1 p.1,iu m.1 m.2 p.1 p.2)) (bZ A,cp A)=(bZ (A++E),cp (A++E))
 |[],A,_=>by rw[As];rfl
 |e::E,A,h=>by
  have hn:gK A e.1=false:=by
   cases z:gK A e.1 with
   |false=>rfl
   |true=>let(x,hx,ex):=Nq.mp z;rw[qo,List.nodup_append] at h;exact absurd (ψ ex) (h.2.2 _ (List.mem_map_of_mem hx) _ fM)
  have hp:dm A e.1 e.2=A++[e]:=by unfold dm;rw[hn];rfl
  rw[fO,JF];change List.foldl _ (jy (bZ A) (kK e.1),iu (bZ A) (cp A) (kK e.1) (.int e.2)) _=_;rw[j1 A e.1 e.2,dh,hp,H_ E (A++[e]) (by rw[vH];calc h),vH];rfl
def Ou{E:List Ent}(h:(E.map (·.1)).Nodup):dkE E=.dt (bZ E) (cp E):=by unfold dkE dN;rw[show (([],[]):List (List Key)×Φ)=(bZ [],cp []) from 9,H_ E [] h];rfl
def Ia(E:List Ent):ki (cp E)=true:=by
 unfold cp;induction E with
 |nil=>rfl
 |cons e E ih=>rw[fO,ki,ih];rfl
def u9(ts:Φ)(q:qam):Prop:=E4 λ(rs:qal) (E F:List Ent) (N:List Mv)=>ts=[.lst 42,.tup [.lst (E.map j8),.lst (F.map j8)]]/\N6 rs/\6<=64/\(∀r∈rs,WU rs r/\WT r)/\E.length<=100000/\F.length<=100000/\N.length<=250000/\(∀m∈k7 rs,m∈N)/\Iv 6 N #[E,F,false]/\q (.vw (.bl (!(bB rs E F 6).b)))
section
variable{aR cq:Addr}
abbrev Ib:ω:=qaE
def so:aI Ib qaE (aq pL):=L2.gO
theorem DR(D:Df K mg "closed" pL qaE f fd)(M:QV K aR)(M1:Tg K cq)(pS:zu P w K mg base "Layout" aR qaw 2 1 (uu aR))(zS:zu P w K mg base "Sets" cq qaz 1 2 (HG cq))(uU:cu P w K mg base "grown" qaD 05 (Ob K cq (zR aR)))(DS:cu P w K mg base "dict_of" ["parts"] 1 (cD K 1 BK)):cu P w K mg base "closed" qaE 06 (cD K 2 u9):=by
 let(HU,DH,pT,pU,pV,pW):=pS;let(RJ,Mx,zU,zV,zW,zX):=zS;let(My,HV,uV,uW,uX,uY):=uU;let(To,RN,sr,su,sx,sy):=DS;show D.gR (jt D.F so 9 λbP A outer s H E Ox hr ts q hG=>?_);have nd:=so.nd;show#[_,(ak (aK (rk (P0 (RM zU zX (λt1 t2 q hq=>#[t1,t2,9,hq]) 29 24 zV zW uY 29 24 uV uW uX
  (υ (Bg pT pW 29 24 pU pV (aa (ai 0) aj)))
  (λ_ _=>cy sy 29 24 sr su sx (aa (υ (ar (ae 1) 3)) aj))
  (λ_ _=>cy sy 29 24 sr su sx (aa (υ (ar (ae 1) 3)) aj))))))),λ_=>?_]
 let(rs,E,F,N,rfl,W,hn,bC,l1,l2,hl,hN,I,hq):=hG;show#[9,9,rs,9,W,(),_,aaL,9,E,9,(),?_];rw[Ou I.nE];show#[Ia E,_,aaM,9,F,9,(),?_];rw[Ou I.nF];calc#[Ia F,rs,E,F,N,9,9,bC,hn,hl,hN,I,9,hq]
end
end eJ
namespace MK
open PySem L2 VT Gen BS K5 ym Lay
open nN (cS ff)
def Xk:Ky->Prop
 |.fld x=>cS x=true
 |.op (.nm y)=>cS y=true
 |.op (.nu _)=>True
def MC(h:cS x=true):k6 (.fld x)=(".":String)++x:=by unfold k6 nU;dsimp only;rw[nN.CH h,ι 9]
def RO(h:cS y=true):k6 (.op (.nm y))=("#":String):=by unfold k6 nU qr;dsimp only;rw[nN.qD h,θ jk]
def kO:Rw->Prop
 |.get _ _ k=>Xk k
 |.set _ k _=>Xk k
 |_=>True
def inR(ys:ω)(pl:Plan):Rw->Prop
 |.get _ _ k=>wH ys k
 |.set _ k _=>wH ys k
 |.call _ f as=>∃ps,(f,ps)∈pl/\as.length=ps.length
 |_=>True
def Ic{bN body}(h:Body ys pl bN body):∀r∈body,inR ys pl r:=by
 induction h with
 |nil=>intro r hr;cases hr
 |step _ h2 ih=>
  intro r hr;rcases gc.mp hr with hr|hr
  exact ih r hr
  . obtain⟨o,ho,rfl,_⟩|⟨o,ho,rfl,_⟩|⟨y,hy,rfl,_⟩|⟨s0,_,rfl,_⟩|⟨s0,x,_,rfl,_⟩|⟨r',cj,rfl,_⟩:=h2
    all_goals simp only[cY,eG,fv] at hr
    subst hr;trivial;subst hr;trivial;obtain rfl|rfl:=hr<;>trivial
    subst hr;trivial;subst hr;trivial;subst hr;cases r<;>first|trivial|calc cj.2.2|calc cj.2.1
def ME(h:Pre ys pl n rs):(∀r∈rs,inR ys pl r)/\∀k<n,∀f ps,pl[k]?\(f,ps)->Rw.df f ps∈rs:=by
 induction h with
 |zero=>calc#[λr hr=>(nomatch hr),λk hk=>absurd hk (TV k)]
 |@succ k rs f ps bN body o sk _ hk hb ho hs ih=>
  show#[λr hr=>?_,λj hj f' WQ e=>?_];rcases List.mem_append.mp hr with hr|hr
  calc ih.1 r hr;rcases List.mem_cons.mp hr with rfl|hr
  trivial;rcases gc.mp hr with hr|hr
  have:=Ic hb r hr;cases r with
  |call x g as=>let(ps,h1,h2):=this;calc#[ps,X8 h1,h2]
  |_=>exact this
  rcases gc.mp hr with hr|hr
  rw[(List.mem_replicate.mp hr).2];trivial;rcases cY.mp hr with rfl|hr
  trivial;obtain rfl|rfl:=hs
  cases hr;rw[fP.mp hr];trivial;by_cases z:j=k;subst z;rw[hk] at e;cases e;calc iC _ fM;calc il _ (ih.2 j () f' WQ e)
structure Pg(rs:qal):Prop where
 B:Bl rs
 le:6<=60
 ky:∀r∈rs,kO r
 cl:∀x g as,Rw.call x g as∈rs->as.length<=04/\∃a,fnOf rs g\a
def RP(h:Pre ys pl pl.length rs)(le:6<=60)(hn:∀y∈ys,cS y=true)(p4:∀p∈pl,p.2.length<=04):Pg rs:=by
 have B:Bl rs:=#[V2 (QI h),Lo h];let(h1,h2):=ME h;have kk:∀k,wH ys k->Xk k:=λk hk=>by
  cases k with
  |fld x=>calc hn x hk
  |op o=>cases o with
   |nm y=>calc hn y hk
   |nu _=>trivial
 show#[B,le,λr hr=>?_,λx g as hr=>?_];have:=h1 r hr;cases r with
 |get x y k=>calc kk k this
 |set y k o=>calc kk k this
 |_=>trivial
 let(ps,a,b):=h1 _ hr;let(k,hk):=List.getElem?_of_mem a;let(i,hi):=List.getElem?_of_mem (h2 k (dy.mp hk).1 g ps hk);calc#[by rw[b];calc p4 _ a,EM B hi]
def Pg.len(p:Pg rs):(k7 rs).length<=300/\∀n≤60,(yn rs n).length<=300:=by
 let(h1,h2):=Ru (rs:=rs) λr hr x g as e=>by subst e;exact (p.cl x g as hr).1
 have:=p.le;calc#[(),λn hn=>by have:=h2 n;lia]
end MK
namespace Gen
open PySem L2 VT
def brk(st:ω):qal->Nat->Option Nat
 |[],i=>if st=[] then none else some i
 |r::rs,i=>if gp st (wd r)=true then brk (lr st (wd r)) rs (i+1) else some i
theorem sA{rs:qal}{f:Str}{j:Nat}:∀n,qN (bb rs n) f\j->∀k<j,∀ps,rs[k]?≠some (.df f ps)
 |0,h=>nomatch h
 |n+1,h=>by
  have old:qN (bb rs n) f\j->∀k<j,∀ps,rs[k]?≠some (.df f ps):=sA n;simp only[bb] at h;split at h
  rename_i r hr
  cases r with
  |df g ps=>
   simp only[Gf] at h;split at h;exact old h
   rename_i hn
   rw[nW] at h;split at h
   rename_i i hi
   cases h;exact old hi
   rename_i ZX
   simp only[qN] at h;split at h
   rename_i e
   cases h;intro k hk qs hq;let(j2,hj2):=l9 hq _ hk;rw[ZX] at hj2;cases hj2;cases h
  |_=>exact old h
  calc old h
end Gen
namespace eF
open PySem L2 VT Gen
open nN (bH)
def top(i:Nat):Stmt:=PySem.Challenge.pw_slicewise_k24_closed_tables.main.body.getD i (.Pass #[0,0,0,0])
abbrev mz:Stmt:=top 027
abbrev u_:Stmt:=top 028
abbrev mB:Stmt:=top 029
abbrev Ie:Stmt:=top 30
abbrev s_call:Stmt:=top 31
abbrev pZ:Stmt:=top 032
abbrev Ig:Stmt:=top 33
abbrev z6:Stmt:=top 034
abbrev mC:Stmt:=top 035
structure RQ(mg:qae):Prop where
 len:mg "len"=none
 range:mg "range"=none
 tuple:mg "tuple"=none
 sum:mg "sum"=none
def Ov(ts:Φ)(q:qam):Prop:=E2 λ(ns:qan) (j:Nat)=>ts=[.lst (ns.map .int),.int (j:Int)]/\q (.vw (.int (ns.getD j 0)))
def Ih(ts:Φ)(q:qam):Prop:=E2 λ(c:Int) (m:Nat)=>ts=[.int c,.int (m:Int)]/\2<=m/\m<=20/\q (.fr (.lst ((c6 c m).map .str)))
section
abbrev DT:ω:=qaF
def p6:aI DT qaF (aq mz):=L2.gO
def z7(D:Df K mg "_law_cell_at" mz qaF f fd)(M:RQ mg):cu P w K mg base "_law_cell_at" qaF 1 (cD K 2 Ov):=by
 show D.gR (jt D.F p6 9 λbP A outer s H E Ox hr ts q hG=>?_);have nd:=p6.nd;show#[_,(ag (a_ (ku (ae 1) (ν (aT aX aY 24 M.len lx (aH (ae 0) aM))))
    (ak (aK (rk (ar (ae 0) (ae 1)))))
    aJ)
   (ak (aK (rk af)))),λ_=>?_]
 let(ns,j,rfl,hq):=hG;show ny (λh=>?_) (λh=>?_);have h':=ψ h;rw[bL] at h';have hj:j<ns.length:=by lia
 show#[.int (ns.getD j 0),ah ?_,hq];rw[d4,f_ hj,List.getD,f_ hj];rfl;have h':¬ (j<((ns.map T.int).length:Int)):=λz=>h (ο z);rw[bL] at h';have e:ns.getD j 0=0:=by rw[List.getD,Nk ()];rfl
 rw[e] at hq;calc hq
abbrev MJ:ω:=["_law_cell","_law_many","_law_letters","_law_size","_law_at","_law_words_here","_law_k","_law_word","_law_j","_law_number"]
def xP:aI MJ qaG (aq u_):=L2.gO
def Ii(D:Df K mg "_law_words" u_ qaG f fd)(M:RQ mg):cu P w K mg base "_law_words" qaG 1 (cD K 2 Ih):=by
 show D.gR (jt D.F xP 9 λbP A outer s H E Ox hr ts q hG=>?_);have nd:=xP.nd;have hu:=bA.dI hr;have np:∀{i:Nat},bj #[H,[],Ox] i:=i_;show#[_,(ag (ay (i:=2) nd 9 7 (rk au) np)
  (ag (ay (i:=0) nd 9 7 (rk (aS (ae 0) (ν (jY 3 3)))) np)
  (ag (ay (i:=03) nd 9 7 (rk (bQ 3 (ν (aS (ae 0) 3)))) np)
  (ag (ay (i:=04) nd 9 7 (rk (aS (ν (ba (ae 0) 3)) (ae 03))) np)
  (ag (cf (i:=05) nd 9 7 (rk (bz aj)) np)
  (ag (cg lu 9 (cP 24 M.range (ae 1)) (aw (i:=06) nd 9 7 np)
   (ag (ay (i:=07) nd 9 7 (rk au) np)
   (ag (cg lu 9 (cP 24 M.range (ae 03)) (aw (i:=08) nd 9 7 np)
    (ag (ay (i:=09) nd 9 7 (rk (bQ (ν (ba (ν (ba (ae 0) 3)) (ν (bQ (ae 08) 3)))) (ν (eh (ae 08) (ae 08))))) np)
    (ag (a_ (bt hu (ae 08) (ae 04))
     (ak (Fx (i:=09) nd 9 7 (ae 06) JZ Ft np))
     aJ)
    (ak (ay (i:=07) nd 9 7 (rk (bQ (ae 07) (ν (ar (ae 2) (ν (aS (ae 09) 3)))))) np)))))
   (ak (bq (cN 05 m4 m5 aW aQ (aa (ai 07) aj)))))))
  (ag (a_ (bt hu (ν (aS (ν (ba (ae 0) 3)) 3)) 3)
   (ak (dh 05 (υ (bQ (ν (ar (ae 05) 3)) (ν (ar (ae 2) (ν (aS (ν (ba (ae 0) 3)) 3)))))) 3))
   aJ)
  (ak (aK (eQ 05 np)))))))))),λ_=>?_]
 let(c,m,rfl,hm2,adX,hq):=hG;have e12:=VF;have hz:1+c % 10 ^ (12:Int).toNat % 07=(jL c:Int):=by rw[e12];exact (N0 c).symm
 show#[#[by decide,by decide,by decide],5,5,#[by decide,by decide],(by rw[hz];lia),e_ _,(),(),di (λk ρ=>E4 λkv wv jv nv=>ρ=[aL (.int (yj c)),aL (.int m),aL (.str bH),aL (.int (jL c:Int)),aL (.int (F6 c:Int)),some (.lst (((List.range k).map λk=>cc c k (jL c)).map .str),true),kv,wv,jv,nv]) #[none,none,none,none,?_] ?_ ?_];have ha:c % 10 ^ (12:Int).toNat / 07 % (1+c % 10 ^ (12:Int).toNat % 07)=(F6 c:Int):=by rw[hz,e12];exact (N1 c).symm
 rw[ha,hz,e12];rfl;rintro k ρ hk ⟨kv,wv,jv,nv,rfl⟩;show#[(),(),di (λj ρ=>E2 λjv nv=>ρ=[aL (.int (yj c)),aL (.int m),aL (.str bH),aL (.int (jL c:Int)),aL (.int (F6 c:Int)),some (.lst (((List.range k).map λk=>cc c k (jL c)).map .str),true),aL (.int (0+k)),aL (.str (cc c k j)),jv,nv]) #[_,_,9] ?_ ?_];rintro j ρ hj ⟨jv,nv,rfl⟩;show#[#[by decide,by decide],#[(),()],.inl #[(),()],?_];have last:∀n:Int,n=tY c k j->∃c',iJ bH.cps.toList (n % 26)\c'/\(cc c k j).length+(Str.mk ([c'].toArray)).length<=sizeLine/\(cc c k j++#[([c'].toArray)])=cc c k (j+1):=by
  rintro n rfl;show#[_,rK _,?_,(zd c k j).symm];rw[eZ,π];change j+1<=16777216
  lia
 show cU (λh=>?_) (λh=>?_);have hja:j=F6 c:=by have h:=h;lia
 let(c',h1,h2,h3):=last (yj c / 49 / (0+j+1)+(0+j) * (0+j)+(0+(k:Int))) (by unfold tY;rw[ι hja];simp only[Ea]);calc#[by decide,gm,c',h1,h2,_,_,by rw[<- h3];rfl];have hja:¬ j=F6 c:=λz=>h ();let(c',h1,h2,h3):=last (yj c / 49 / (0+(j:Int)+1)+(0+(j:Int)) * (0+(j:Int))) (by unfold tY;rw[θ hja];simp only[Ea,Int.add_zero]);calc#[by decide,gm,c',h1,h2,_,_,by rw[<- h3];rfl];rintro ρ ⟨jv,nv,rfl⟩;show#[?_,aL (.int (0+(k:Int))),aL (.str (cc c k (jL c))),jv,nv,?_];rw[bL,bL,rh,π];lia;rw[TU,qo,qo];rfl;rintro ρ ⟨kv,wv,jv,nv,rfl⟩;show#[#[by decide,by decide],5,cU (λh=>?_) (λh=>?_)];have hc:=h;have e0:iJ (((List.range m).map λk=>cc c k (jL c)).map T.str) 0\T.str (cc c 0 (jL c)):=by show ah (j:=0) ?_;rw[d4,d4,Nj ()];rfl
 show#[_,e0,#[by decide,by decide],5,gm,_,rK _,?_,1,?_,?_];rw[eZ,π];change jL c+1<=16777216
 lia
 unfold yh;rw[ι 5,ι (by rw[bL,bL,rh];lia)];rfl;have e:(c6 c m).map T.str=(((List.range m).map λk=>cc c k (jL c)).map T.str).set 1 (T.str (cc c 0 (jL c)++#[([gE (yj c / 147)].toArray)])):=by unfold c6;rw[ι hc,List.map_set]
 rw[e] at hq;calc hq;have hc:=h;have e:(c6 c m).map T.str=(((List.range m).map λk=>cc c k (jL c)).map T.str):=by unfold c6;rw[θ hc]
 rw[e] at hq;calc hq
end
def gN(ts:Φ)(q:qam):Prop:=E2 λ(n:Int) (ys:ω)=>ts=[.int n,.lst (ys.map .str)]/\ys.length=06/\0<=n/\n<2147483648/\∀o,dw ys o->q (.vw (qr o))
def Xl(ts:Φ)(q:qam):Prop:=E2 λ(n:Int) (ys:ω)=>ts=[.int n,.lst (ys.map .str)]/\ys.length=06/\(∀y∈ys,y.length<=100)/\0<=n/\n<2147483648/\∀k,wH ys k->q (.vw (nU k))
def Ow(ts:Φ)(q:qam):Prop:=E4 λ(n:Int) (x:Str) (ys:ω) (pl:Plan)=>ts=[.int n,.str x,.lst (ys.map .str),.lst (pl.map bU)]/\ys.length=06/\pl≠[]/\pl.length<=03/\(∀p∈pl,p.2.length<=04)/\x∈ys/\0<=n/\n<2147483648 /\
 ∀f as,gF ys pl (.call x f as)->q (.vw (aV (.call x f as)))
structure Given(ys:ω)(pl:Plan):Prop where
 y6:ys.length=06
 sm:∀y∈ys,y.length<=100
 p3:pl.length<=03
 p4:∀p∈pl,p.2.length<=04
def BM(ts:Φ)(q:qam):Prop:=E3 λ(n:Int) (ys:ω) (pl:Plan)=>ts=[.int n,.lst (ys.map .str),.lst (pl.map bU)]/\Given ys pl/\0<=n/\n<2147483648/\∀r,gF ys pl r->q (.vw (aV r))
section
abbrev DV:ω:=qaH
def p7:aI DV qaH (aq mB):=L2.gO
def z8(D:Df K mg "_law_operand" mB qaH f fd):cu P w K mg base "_law_operand" qaH 1 (cD K 2 gN):=by
 show D.gR (jt D.F p7 9 λbP A outer s H E Ox hr ts q hG=>?_);have nd:=p7.nd;have hu:=bA.dI hr;show#[_,(ag (a_ (AQ (ν (aS (ae 0) 3)) 3)
    (ak (aK (rk (ar (ae 1) (ν (aS (ν (ba (ae 0) 3)) 3))))))
    aJ)
   (ag (a_ (bt hu (ν (aS (ae 0) 3)) 3)
     (ak (aK (rk (jX (ν (aS (ν (bQ (ν (eh (ν (eh (ae 0) 3)) (ν (jY 3 3)))) (ae 0))) (ν (eh 3 (ν (jY 3 3)))))) (ν (jY 3 3))))))
     aJ)
   (ak (aK (rk (jX (ν (aS (ν (ba (ae 0) 3)) 3)) 3)))))),λ_=>?_]
 let(n,ys,rfl,z9,QT,Q3,hq):=hG;show#[5,cU (λ_=>?_) (λ_=>?_)];let(y,hy,e):=kH z9 (m:=04) 5 5;calc#[#[by decide,by decide],5,_,e,hq (.nm y) hy];show#[5,cU (λ_=>?_) (λ_=>?_)];show#[.inr #[by decide,by decide],#[by decide,by decide,by decide],.inl #[(),()],#[by decide,by decide,by decide],.inl #[by decide,by decide],5,#[by decide,by decide,by decide],hq (.nu _) ?_];rw[VH];calc#[(),()];calc#[#[by decide,by decide],5,hq (.nu _) #[(),()]]
abbrev Xm:ω:=qaH
def Ik:aI Xm qaH (aq Ie):=L2.gO
def RS(D:Df K mg "_law_key" Ie qaH f fd)(c1:cu P w K mg base "_law_operand" qaH 1 (cD K 2 gN)):cu P w K mg base "_law_key" qaH 2 (cD K 2 Xl):=by
 let(jj,ig,bV,bW,bX,bY):=c1;show D.gR (jt D.F Ik 9 λbP A outer s H E Ox hr ts q hG=>?_);have nd:=Ik.nd;have hu:=bA.dI hr;show#[_,(ag (a_ (bt hu (ν (aS (ae 0) 3)) 3)
    (ak (aK (rk (bQ (ν au) (ν (ar (ae 1) (ν (aS (ν (ba (ae 0) 3)) 3))))))))
    aJ)
   (ak (aK (rk (cy bY 29 24 bV bW bX (aa (υ (ba (ae 0) 3)) (aa (ai 1) aj))))))),λ_=>?_]
 let(n,ys,rfl,z9,hsm,QT,Q3,hq):=hG;show#[5,cU (λ_=>?_) (λ_=>?_)];let(y,hy,e):=kH z9 (m:=2) 5 5;show#[#[by decide,by decide],5,_,e,?_,hq (.fld y) hy];rw[ada,π];have:=hsm y hy
 lia
 calc#[#[by decide,by decide],9,_,ys,9,z9,(),(),λo ho=>hq (.op o) ho]
abbrev RT:ω:=["_law_number","_law_name","_law_words_here","_law_later","_law_other","_law_parameters","_law_operands","_law_k"]
def BO:aI RT qaI (aq s_call):=L2.gO
def MM(D:Df K mg "_law_call" s_call qaI f fd)(M:RQ mg)(c1:cu P w K mg base "_law_operand" qaH 1 (cD K 2 gN)) :
  cu P w K mg base "_law_call" qaI 2 (cD K 04 Ow):=by
 let(jj,ig,bV,bW,bX,bY):=c1;show D.gR (jt D.F BO 9 λbP A outer s H E Ox hr ts q hG=>?_);have nd:=BO.nd;have np:∀{i:Nat},bj #[H,[],Ox] i:=i_;show#[_,(ag (tD (υ (ar (ae 03) (ν (aS (ae 0) (ν (aT aX aY 24 M.len lx (aH (ae 03) aM))))))) (cK (n:=2) 9 (aD (aw (i:=04) nd 9 7 np) (aD (aw (i:=05) nd 9 7 np) bR))))
   (ag (cf (i:=06) nd 9 7 (rk (bz aj)) np)
   (ag (cg lu 9 (cP 24 M.range (ν (aT aX aY 24 M.len lx (aH (ae 05) aM)))) (aw (i:=07) nd 9 7 np)
     (ak (bq (cN 06 m4 m5 aW aQ (aa (υ (cy bY 29 24 bV bW bX (aa (υ (ba (ae 0) (ν (bQ (ν (aT aX aY 24 M.len lx (aH (ae 03) aM))) (ae 07))))) (aa (ai 2) aj)))) aj)))))
   (ak (aK (rk (aU (aa (υ au) (aa (ai 1) (aa (ai 04) (aa (υ (c0 jG mM 24 M.tuple A5 (aH (ae 06) aM))) aj))))))))))),λ_=>?_]
 let(n,x,ys,pl,rfl,z9,eY,hp3,hp4,hx,QT,Q3,hq):=hG;have ads:0<pl.length:=by cases pl with|nil=>exact absurd 9 eY|cons a r=>simp
 have eL:((pl.map bU).length:Int)=pl.length:=by rw[bL]
 have h0:0<=n % ((pl.map bU).length:Int):=qu n ();have h1:n % ((pl.map bU).length:Int)<pl.length:=by rw[eL];exact ye n ()
 let(j,hj):=nM h0;have QU:j<pl.length:=by lia
 obtain⟨p,hp⟩:∃p:Str×ω,p=pl[j]:=#[_,9];let(fn,ps):=p;have Xn:(fn,ps)∈pl:=by rw[hp];exact B8 QU
 have hps:ps.length<=04:=hp4 _ Xn;show#[(),bU (fn,ps),?_,9,?_];rw[hj];show ah ?_;rw[d4,f_ QU,<- hp];rfl;show#[9,e_ _,(),by change ((ps.map T.str).length:Int)<2 ^ 62;rw[bL];lia,?_];show di (λk ρ=>E3 λkv os as=>ρ=[aL (.int n),aL (.str x),aL (.lst (ys.map .str)),aL (.lst (pl.map bU)),aL (.str fn),aL (.tup (ps.map .str)),some (.lst os,true),kv]/\os=as.map qr/\as.length=k/\∀a∈as,dw ys a)
  #[none,[],[],9,9,9,λ_ z=>nomatch z] ?_ ?_
 rintro k ρ hk ⟨kv,_,as,rfl,rfl,rfl,yP⟩;have Lg:as.length<ps.length:=by rw[bL,j6] at hk;exact hk
 show#[#[(),()],9,_,ys,9,z9,?_,?_,λo ho=>#[?_,_,_,as++[o],9,?_,by simp,λa ha=>?_]];calc Int.ediv_nonneg QT ();calc Int.lt_of_le_of_lt (Int.ediv_le_self _ QT) Q3;rw[bL,π];lia;rw[qo];rfl;rcases gc.mp ha with z|z
 calc yP a z;rw[fP.mp z];calc ho;rintro ρ ⟨kv,_,as,rfl,rfl,hlen,yP⟩;show#[by change 04<=sizeLine;rw[π];decide,hq fn as #[hx,#[ps,Xn,?_],yP]];rw[hlen,bL];rfl
end
def fits(h:n<=1001):n<sizeLine:=by rw[π];lia
def bG(h:n<=08):n<=sizeLine:=small ()
def l_(q:qam)(n:Int)(ys:ω)(pl:Plan)(y z:Str):FS:=λd ρ=>(∃wv,ρ=[aL (.int n),aL (.lst (ys.map .str)),aL (.lst (pl.map bU)),aL (.int (n % 13)),aL (.str y),aL (.str z),aL (.int (n / 208)),wv])/\∀ρ r,q r->d.rt ρ r
def Xo:GT:=λts q=>E5 λ(rs:qal) (bN:ω) (c:Int) (ys:ω) (pl:Plan)=>ts=[.lst 42,.lst (bN.map .str),.int c,.lst (ys.map .str),.lst (pl.map bU)]/\Given ys pl/\6<=1000/\bN.length<=1000 /\
 ∀new dj,l7 ys pl bN new dj->q [.lst ((rs++new).map aV),.lst (dj.map .str)] (.vw .bK)
section
abbrev Il:ω:=["_law_number","_law_words_here","_law_later","_law_kind","_law_name","_law_other","_law_rest","_law_word"]
def sC:aI Il qaJ (aq pZ):=L2.gO
theorem DW(D:Df K mg "_law_simple" pZ qaJ f fd)(c1:cu P w K mg base "_law_operand" qaH 1 (cD K 2 gN))(c2:cu P w K mg base "_law_key" qaH 2 (cD K 2 Xl))(c3:cu P w K mg base "_law_call" qaI 2 (cD K 04 Ow)) :
  cu P w K mg base "_law_simple" qaJ 03 (cD K 03 BM):=by
 let(jj,ig,bV,bW,bX,bY):=c1;let(adS,adE,Oy,Oz,OA,OB):=c2;let(adF,Y6,RU,RW,RX,RY):=c3;show D.gR (jt D.F sC 9 λbP A outer s H E Ox hr ts q hG=>?_);have nd:=sC.nd;have hu:=bA.dI hr;have np:∀{i:Nat},bj #[H,[],Ox] i:=i_;let(n,ys,pl,rfl,G,QT,Q3,hq):=hG;let(y,hy,ey):=kH G.y6 (m:=04) 5 5;let(z,hz,ez):=kH G.y6 (m:=04) 5 5;show#[_,(ag (ay (i:=03) nd 9 7 (rk (aS (ae 0) 3)) np)
   (ag (ay (i:=04) nd 9 7 (rk (ar (ae 1) (ν (aS (ν (ba (ae 0) 3)) 3)))) np)
   (ag (ay (i:=05) nd 9 7 (rk (ar (ae 1) (ν (aS (ν (ba (ae 0) 3)) 3)))) np)
   (ag (ay (i:=06) nd 9 7 (rk (ba (ae 0) 3)) np)
   (ag (a_ (ku (ae 03) 3)
     (ak (aK (rk (aU (aa (υ au) (aa (ai 04) (aa (υ (cy bY 29 24 bV bW bX (aa (ai 06) (aa (ai 1) aj)))) aj)))))))
     aJ)
   (ag (a_ (ku (ae 03) 3)
     (ag (ay (i:=07) nd 9 7 (rk (ar (ν (bz (aa (υ au) (aa (υ au) (aa (υ au) (aa (υ au) (aa (υ au) (aa (υ au) (aa (υ au) aj))))))))) (ν (aS (ae 06) 3)))) np)
     (ak (aK (rk (aU (aa (υ au) (aa (ai 04) (aa (υ (cy bY 29 24 bV bW bX (aa (υ (ba (ae 06) 3)) (aa (ai 1) aj)))) (aa (ai 07) (aa (υ (cy bY 29 24 bV bW bX (aa (υ (ba (ae 06) 3)) (aa (ai 1) aj)))) aj))))))))))
     aJ)
   (ag (a_ (bt hu (ae 03) 3)
     (ak (aK (rk (aU (aa (υ au) (aa (ai 04) aj))))))
     aJ)
   (ag (a_ (ku (ae 03) 3)
     (ak (aK (rk (aU (aa (υ au) (aa (ai 04) (aa (ai 05) (aa (υ (cy OB 29 24 Oy Oz OA (aa (ai 06) (aa (ai 1) aj)))) aj))))))))
     aJ)
   (ag (a_ (ku (ae 03) 3)
     (ak (aK (rk (aU (aa (υ au) (aa (ai 05) (aa (υ (cy OB 29 24 Oy Oz OA (aa (ai 06) (aa (ai 1) aj)))) (aa (υ (cy bY 29 24 bV bW bX (aa (υ (ba (ae 06) 3)) (aa (ai 1) aj)))) aj))))))))
     aJ)
   (ag (a_ (VW.vc (c5 (bt hu (ae 03) 3) (cH (fU hu (ae 2) (ν (bz aj))))))
     (ak (aK (rk (cy RY 29 24 RU RW RX (aa (ai 06) (aa (ai 04) (aa (ai 1) (aa (ai 2) aj))))))))
     aJ)
   (fW.weak (u:=(l_ q n ys pl y z)) (ag (a_ (VW.vc (c5 (bt hu (ae 03) 3) (cH (bt hu (ν (aS (ae 06) 3)) 3))))
     (ak (aK (rk (aU (aa (υ au) (aa (υ (ar (ae 1) (ν (bQ 3 (ν (aS (ν (ba (ae 06) 3)) 3)))))) aj))))))
     aJ)
   (ag (a_ (VW.vc (c5 (bt hu (ae 03) 3) (cH (bt hu (ν (aS (ae 06) 3)) 3))))
     (ak (aK (rk (aU (aa (υ au) aj)))))
     aJ)
   (ak (aK (rk (aU (aa (υ au) (aa (ai 04) (aa (ai 05) aj))))))))) ?w_cutS))))))))))),λ_=>?_]
 case w_cutS=>
  rintro d ρ ⟨⟨wv,rfl⟩,kk⟩;show cU (λ_=>?_) (λ_=>?_);show#[5,cU (λ_=>?_) (λ_=>?_)];let(x,hx,ex):=zh G.y6 (n / 208 / 03);calc#[#[by decide,by decide],5,_,ex,bG 4,kk _ _ (hq (.fail x) hx)];calc cU (λ_=>#[5,cU (λ_=>#[bG 4,kk _ _ (hq .skip trivial)]) (λ_=>#[bG 4,kk _ _ (hq (.put y (.nm z)) #[hy,hz])])]) (λ_=>#[bG 4,kk _ _ (hq (.put y (.nm z)) #[hy,hz])]);exact iP 9 (cU (λ_=>#[5,cU (λ_=>#[bG 4,kk _ _ (hq .skip trivial)]) (λ_=>#[bG 4,kk _ _ (hq (.put y (.nm z)) #[hy,hz])])]) (λ_=>iP 9 #[bG 4,kk _ _ (hq (.put y (.nm z)) #[hy,hz])]))
 have m0:0<=n / 208:=by lia
 have m1:n / 208<2147483648:=by lia
 have dv:∀e:Int,0<e->0<=n / 208 / e/\n / 208 / e<2147483648:=λe he=>#[Int.ediv_nonneg m0 (),Int.lt_of_le_of_lt (Int.ediv_le_self _ m0) m1];show#[5,#[by decide,by decide],5,_,ey,#[by decide,by decide],5,_,ez,#[by decide,by decide],cU (λ_=>?_) (λ_=>?_)];calc#[9,_,ys,9,G.y6,m0,m1,λo ho=>#[bG 4,hq (.put y o) #[hy,ho]]];show cU (λ_=>?_) (λ_=>?_);let(op,YY,eop):=VM (n / 208);calc#[bG 4,5,_,eop,#[by decide,by decide],9,_,ys,9,G.y6,(dv 07 5).1,(dv 07 5).2,λo ho=>#[#[by decide,by decide],9,_,ys,9,G.y6,(dv 420 5).1,(dv 420 5).2,λo2 yg=>#[bG 4,hq (.CV y o op o2) #[hy,ho,YY,yg]]]];show cU (λ_=>#[bG 4,hq (.new y) hy]) (λ_=>cU (λ_=>?_) (λ_=>?_));calc#[9,_,ys,9,G.y6,G.sm,m0,m1,λk hk=>#[bG 4,hq (.get y z k) #[hy,hz,hk]]];show cU (λ_=>?_) (λ_=>?_);calc#[9,_,ys,9,G.y6,G.sm,m0,m1,λk hk=>#[#[by decide,by decide],9,_,ys,9,G.y6,(dv 90 5).1,(dv 90 5).2,λo ho=>#[bG 4,hq (.set z k o) #[hz,hk,ho]]]];show cU (λ_=>#[e_ _,wI pl,9,CW pl,?_]) (λ_=>iP 9 #[#[_,9],λ_ _ h=>h]);cases pl with
 |nil=>calc iP 9 #[#[_,9],λ_ _ h=>h]
 |cons p pl=>calc oN 9 #[9,_,y,ys,p::pl,9,G.y6,by simp,G.p3,G.p4,hy,m0,m1,λfn as hs=>hq _ hs]
end
def Im(q:Φ->qam)(rs:qal)(bN:ω)(c n mv:Int)(ys:ω)(pl:Plan):FS:=λd ρ=>(∃nv,ρ=[some (.lst 42,true),some (.lst (bN.map .str),true),aL (.int c),aL (.lst (ys.map .str)),aL (.lst (pl.map bU)),aL (.int n),aL (.int mv),nv]) /\
 ∀ρ,q (kA [true,true,false,false,false] ρ) (.vw .bK)->d.nx ρ
def p8(l:ω):plainT (.lst (l.map .str))=true:=by simp only[plainT];calc cL (λ_=>by simp[plainT]) l
def xQ(l:ω):dep (.lst (l.map .str))<=100:=by have:=dF (f:=T.str) (n:=0) (λ_=>by simp[dep]) l;simp only[dep];lia
section
abbrev Xp:ω:=["_law_rows","_law_stack","_law_cell","_law_words_here","_law_later","_law_number","_law_move","_law_name"]
def Io:aI Xp qaK (aq Ig):=L2.gO
def RZ(D:Df K mg "_law_lay" Ig qaK f fd)(M:RQ mg)(c1:cu P w K mg base "_law_operand" qaH 1 (cD K 2 gN))(c2:cu P w K mg base "_law_simple" qaJ 03 (cD K 03 BM)) :
  cu P w K mg base "_law_lay" qaK 04 (tG K [true,true,false,false,false] Xo):=by
 let(jj,ig,bV,bW,bX,bY):=c1;let(Xq,Tp,Ip,Iq,Ir,Iu):=c2;show D.gR (YC D.F Io 9 λbP A outer s H E as Ox hr ts q hl hG=>?_);have nd:=Io.nd;have hu:=bA.dI hr;let(rs,bN,c,ys,pl,rfl,G,rX,hs1,hq):=hG;have n0:0<=c / 08 * 48271 % 2147483647:=qu _ 5;have n2:c / 08 * 48271 % 2147483647<2147483648:=by lia
 have d3:0<=c / 08 * 48271 % 2147483647 / 03/\c / 08 * 48271 % 2147483647 / 03<2147483648:=#[(),()];have DX:(rs.map aV).length<sizeLine:=by rw[bL];exact fits ()
 have Xr:(bN.map T.str).length<sizeLine:=by rw[bL];exact fits ()
 have one:=λ{r dj} h=>by have:=hq [r] dj h;rw[qo] at this;exact this
 have push:∀x:Str,(bN++[x]).map T.str=bN.map T.str++[T.str x]:=λx=>by rw[qo];rfl
 show#[_,(ag (ay (i:=05) nd 9 7 (rk (aS (ν (eh (ν (ba (ae 2) 3)) 3)) 3)) (jK 5))
   (ag (ay (i:=06) nd 9 7 (rk (aS (ae 2) 3)) (jK 5))
   (fW.weak (u:=(Im q rs bN c (c / 08 * 48271 % 2147483647) (c % 08) ys pl)) (ak (a_ (VW.vc (c5 (bt hu (ae 06) 3) (cH (ku (ν (aT aX aY 24 M.len lx (aH (ae 1) aM))) 3))))
     (ag (bq (cN 0 m4 m5 aW aQ (aa (υ (aU (aa (υ au) (aa (υ (cy bY 29 24 bV bW bX (aa (ai 05) (aa (ai 03) aj)))) aj)))) aj)))
     (ak (bq (cN 1 m4 m5 aW aQ (aa (υ au) aj)))))
     (fW.weak (u:=(Im q rs bN c (c / 08 * 48271 % 2147483647) (c % 08) ys pl)) (ak (a_ (VW.vc (c5 (bt hu (ae 06) 3) (cH (ku (ν (aT aX aY 24 M.len lx (aH (ae 1) aM))) 3))))
       (ag (bq (cN 1 m4 m5 aW aQ (aa (υ au) aj)))
       (ak (a_ (bt hu (ν (aS (ae 05) 3)) 3)
         (ak (bq (cN 0 m4 m5 aW aQ (aa (υ (aU (aa (υ au) (aa (υ (cy bY 29 24 bV bW bX (aa (υ (ba (ae 05) 3)) (aa (ai 03) aj)))) aj)))) aj))))
         (ag (ay (i:=07) nd 9 7 (rk (ar (ae 03) (ν (aS (ν (ba (ae 05) 3)) 3)))) (jK 5))
         (ag (bq (cN 0 m4 m5 aW aQ (aa (υ (aU (aa (υ au) (aa (ai 07) aj)))) aj)))
         (ak (bq (cN 0 m4 m5 aW aQ (aa (υ (aU (aa (υ au) (aa (ai 07) (aa (ai 07) (aa (υ au) (aa (υ af) aj))))))) aj)))))))))
       (fW.weak (u:=(Im q rs bN c (c / 08 * 48271 % 2147483647) (c % 08) ys pl)) (ak (a_ (VW.vc (c5 (bt hu (ae 06) 3) (c5 (fU hu (ae 1) (ν (bz aj))) (cH (bt hu (ν (ar (ae 1) (ν (oG 3)))) (ν au))))))
         (ag (bq (cN 0 m4 m5 aW aQ (aa (υ (aU (aa (υ au) aj))) aj)))
         (ak (dh 1 (υ au) (ν (oG 3)))))
         (fW.weak (u:=(Im q rs bN c (c / 08 * 48271 % 2147483647) (c % 08) ys pl)) (ak (a_ (VW.vc (c5 (bt hu (ae 06) 3) (cH (fU hu (ae 1) (ν (bz aj))))))
           (ag (bq (cN 0 m4 m5 aW aQ (aa (υ (aU (aa (υ au) aj))) aj)))
           (ak (bq (Fy 1 PySem.F.slot_list_pop PySem.F.type_list_pop EX AV))))
           (fW.weak (u:=(Im q rs bN c (c / 08 * 48271 % 2147483647) (c % 08) ys pl)) (ak (bq (cN 0 m4 m5 aW aQ (aa (υ (cy Iu 29 24 Ip Iq Ir (aa (ai 05) (aa (ai 03) (aa (ai 04) aj))))) aj)))) ?w5))) ?w4))) ?w3))) ?w2))) ?w1))),?_]
 case w5=>
  rintro d ρ ⟨⟨nv,rfl⟩,kk⟩;exact#[9,_,ys,pl,9,G,n0,n2,λr hs=>#[DX,kk _ (one (.inr (.inr (.inr (.inr (.inr #[r,hs,9,9]))))))]]
 case w4=>
  rintro d ρ ⟨⟨nv,rfl⟩,kk⟩;show cU (λ_=>#[e_ _,p8 bN,9,xQ bN,?_]) (λ_=>iP 9 #[#[nv,9],kk]);rcases List.eq_nil_or_concat bN with e|⟨s0,x,e⟩
  subst e;calc iP 9 #[#[nv,9],kk];have en:eqT (.lst (bN.map .str)) (.lst [])=false:=by rw[e];cases s0<;>simp[eqT,gj]
  show oN (by change (!eqT (.lst (bN.map .str)) (.lst []))=true;rw[en];rfl) #[bG 4,DX,9,T.str x,?_,?_];rw[e];simp;have e2:(bN.map T.str).dropLast=s0.map T.str:=by rw[e];simp
  show kk _ ?_;rw[e2];exact one (.inr (.inr (.inr (.inr (.inl #[s0,x,by rw[e,List.concat_eq_append],9,9])))))
 case w3=>
  rintro d ρ ⟨⟨nv,rfl⟩,kk⟩;show cU (λ_=>#[e_ _,p8 bN,9,xQ bN,?_]) (λ_=>iP 9 #[#[nv,9],kk]);rcases List.eq_nil_or_concat bN with e|⟨s0,x,e⟩
  subst e;calc iP 9 (iP 9 #[#[nv,9],kk]);have en:eqT (.lst (bN.map .str)) (.lst [])=false:=by rw[e];cases s0<;>simp[eqT,gj]
  have ex:iJ (bN.map T.str) (-1)\T.str x:=by rw[e,List.concat_eq_append,qo];exact ow _ _
  show oN (by change (!eqT (.lst (bN.map .str)) (.lst []))=true;rw[en];rfl) #[_,ex,cU (λhx=>?_) (λ_=>#[#[nv,9],kk])];have S0:=hx;subst S0;have Xg:(bN.map T.str).length=s0.length+1:=by rw[e];simp
  show#[bG 4,DX,s0.length,?_,kk _ ?_];unfold yh;rw[Xg,θ 5,ι ()]
  congr 1
  lia
  have e2:(bN.map T.str).set s0.length (T.str "else")=(s0++([("else":Str)]:ω)).map T.str:=by rw[e];simp
  change q [.lst (rs.map aV++[aV .zg]),.lst ((bN.map T.str).set s0.length (T.str "else"))] _;rw[e2];exact one (.inr (.inr (.inr (.inl #[s0,by rw[e];simp,9,9]))))
 case w2=>
  rintro d ρ ⟨⟨nv,rfl⟩,kk⟩;show cU (λ_=>cU (λ_=>#[Xr,5,cU (λ_=>?_) (λ_=>?_)]) (λ_=>#[#[nv,9],kk])) (λ_=>iP 9 #[#[nv,9],kk]);show#[#[by decide,by decide],9,_,ys,9,G.y6,d3.1,d3.2,λo ho=>#[bG 4,DX,kk _ ?_]];have:=one (.inr (.inl #[o,ho,9,9]));rw[push] at this;calc this;let(y,hy,ey):=kH G.y6 (m:=04) 5 5;show#[#[by decide,by decide],5,_,ey,bG 4,DX,bG 4,?_,kk _ ?_];rw[lq,bL];calc fits (by simp;lia);have:=hq [.A6 (.nm y),.CV y (.nm y) "minus" (.nu 1)] _ (.inr (.inr (.inl #[y,hy,9,9])));rw[push,qo] at this;rw[vH];exact this
 case w1=>
  rintro d ρ ⟨⟨nv,rfl⟩,kk⟩;show cU (λ_=>cU (λ_=>#[9,_,ys,9,G.y6,n0,n2,λo ho=>#[bG 4,DX,Xr,kk _ ?_]]) (λ_=>#[#[nv,9],kk])) (λ_=>iP 9 #[#[nv,9],kk]);have:=one (.inl #[o,ho,9,9]);rw[push] at this;exact this
 calc#[#[by decide,by decide],.inr #[by decide,by decide],5,5,#[none,9],λ_ h=>h]
end
def OC(ts:Φ)(q:qam):Prop:=E2 λ(c:Int) (ys:ω)=>ts=[.int c,.lst (ys.map .str)]/\ys.length=06/\∀pl,oQ ys pl->1<=pl.length->pl.length<=03->q (.fr (.lst (pl.map bU)))
section
abbrev Iw:ω:=["_law_cell","_law_words_here","_law_number","_law_plan_here","_law_k","_law_parameters"]
def BP:aI Iw qaL (aq z6):=L2.gO
def z_:(Iw++(["_law_j"]:ω)).Nodup:=by decide +kernel
def MN(D:Df K mg "_law_plan" z6 qaL f fd)(M:RQ mg):cu P w K mg base "_law_plan" qaL 1 (cD K 2 OC):=by
 show D.gR (jt D.F BP 9 λbP A outer s H E Ox hr ts q hG=>?_);have nd:=BP.nd;have np:∀{i:Nat},bj #[H,[],Ox] i:=i_;show#[_,(ag (ay (i:=2) nd 9 (.inr 9) (rk (aS (ae 0) (ν (jY 3 3)))) np)
  (ag (cf (i:=03) nd 9 7 (rk (bz aj)) np)
  (ag (cg lu 9 (cP 24 M.range (ν (bQ 3 (ν (aS (ae 2) 3))))) (aw (i:=04) nd 9 7 np)
   (ag (ay (i:=2) nd 9 (.inr 9) (rk (aS (ν (bQ (ν (bQ (ν (eh (ae 2) (ae 2))) (ν (eh 3 (ae 2))))) (ae 04))) 3)) np)
   (ag (KZ (i:=05) (ts:=["_law_j"]) nd 9 7 9 24 (cP 24 M.range (ν (aS (ae 2) 3))) (λ_ _ _ _ _ _=>(aw (i:=06) z_ 9 7 np)) (λ_ _ _ _ _ _=>kz) (λ_ _ _ _ _ _=>(υ (ar (ae 1) (ν (aS (ν (bQ (ν (ba (ae 2) 3)) (ae 06))) 3))))) np)
   (ak (bq (cN 03 m4 m5 aW aQ (aa (υ (aU (aa (υ (ar (ae 1) (ae 04))) (aa (υ (c0 jG mM 24 M.tuple A5 (aH (ae 05) aM))) aj)))) aj)))))))
  (ak (aK (eQ 03 np)))))),λ_=>?_]
 let(c,ys,rfl,z9,hq):=hG;show#[#[by decide,by decide,by decide],(by change (0:Int)<10 ^ (09:Int).toNat;decide),e_ _,(by change (0:Int)<03;decide),?_];have m0:0<=c % (10:Int) ^ (09:Int).toNat:=qu _ 5;have m1:c % (10:Int) ^ (09:Int).toNat<1000000000:=by rw[VJ];exact ye _ 5
 have t0:0<=c % (10:Int) ^ (09:Int).toNat % 03:=qu _ 5;have t1:c % (10:Int) ^ (09:Int).toNat % 03<03:=ye _ 5;show#[(by change -(2 ^ 62:Int)<=1+c % 10 ^ (09:Int).toNat % 03;lia),(by change 1+c % 10 ^ (09:Int).toNat % 03<(2 ^ 62:Int);lia),?_];show di (λk ρ=>E5 λn kv pv ts pl=>ρ=[aL (.int c),aL (.lst (ys.map .str)),aL (.int n),some (.lst ts,true),kv,pv]/\ts=pl.map bU/\0<=n/\n<2147483648/\pl.length=k/\oQ ys pl)
  #[_,none,none,_,[],9,9,m0,(),9,λk f ps e=>by simp at e] ?_ ?_
 rintro k ρ hk ⟨n,kv,pv,_,pl,rfl,rfl,p0,p1,rfl,bC⟩;have hk3:pl.length<03:=by lia
 show#[.inl #[(),()],.inl #[by decide,by decide],(by change (0:Int)<2147483647;decide),9,(by change (0:Int)<03;decide),?_];have g0:0<=(n * n+48271 * n+(0+(pl.length:Int))) % 2147483647:=qu _ 5;have g1:(n * n+48271 * n+(0+(pl.length:Int))) % 2147483647<2147483647:=ye _ 5;have u0:0<=(n * n+48271 * n+(0+(pl.length:Int))) % 2147483647 % 03:=qu _ 5;have u1:(n * n+48271 * n+(0+(pl.length:Int))) % 2147483647 % 03<03:=ye _ 5;show#[(by change -(2 ^ 62:Int)<=(n * n+48271 * n+(0+(pl.length:Int))) % 2147483647 % 03;lia),(by change (n * n+48271 * n+(0+(pl.length:Int))) % 2147483647 % 03<(2 ^ 62:Int);lia),?_];show#[by rw[g_];calc small (by change ((n * n+48271 * n+(0+(pl.length:Int))) % 2147483647 % 03).toNat<=1000;lia),?_];show i9 (λ_=>true) (λt=>match t with | .int j=>.str (ys.getD (((n * n+48271 * n+(0+(pl.length:Int))) % 2147483647 / 03+j) % 04).toNat Str.empty)|_=>.bK) ?_ ?_;intro t ht _ r hr;let(i,hi,e):=List.mem_iff_getElem.mp ht;let(_,rfl):=hJ (by rw[f_ hi,e]:(rangeT _ _)[i]?\t);rw[ι 9] at hr;calc#[#[by decide,by decide],(by change (0:Int)<04;decide),_,F7 z9 _,hr];generalize hn':(n * n+48271 * n+(0+(pl.length:Int))) % 2147483647=n' at g0 g1 u0 u1;have hkl:pl.length<ys.length:=by lia
 have ek:iJ (ys.map T.str) (0+(pl.length:Int))\T.str ys[pl.length]:=by rw[Ea];show ah ?_;rw[d4,f_ hkl];rfl
 have eps:(((rangeT 0 (n' % 03).toNat).filter λ_=>true).map λt=>match t with | .int j=>T.str (ys.getD ((n' / 03+j) % 04).toNat Str.empty)|_=>.bK)=((List.range (n' % 03).toNat).map λj=>ys.getD ((n' / 03+((j:Nat):Int)) % 04).toNat Str.empty).map T.str:=by unfold rangeT;rw[List.filter_eq_self.mpr (λ_ _=>rfl),qv,qv];apply Es;intro j _;change T.str (ys.getD ((n' / 03+(0+(j:Int))) % 04).toNat Str.empty)=T.str (ys.getD ((n' / 03+(j:Int)) % 04).toNat Str.empty);rw[Ea]
 rw[eps];show#[_,ek,bG 4,by rw[bL];calc fits (),n',_,_,_,pl++[(ys[pl.length],(List.range (n' % 03).toNat).map λj=>ys.getD ((n' / 03+((j:Nat):Int)) % 04).toNat Str.empty)],9,?_,g0,(),by simp,?_];rw[qo];rfl;intro k' f' WQ e;by_cases c8:k'<pl.length;rw[nL c8] at e;calc bC k' f' WQ e;by_cases he:k'=pl.length;subst he;rw[sM (cv _),Nat.sub_self] at e;simp only[X3,Option.some.injEq,Prod.mk.injEq] at e;let(e1,e2):=e;subst e1 e2;calc#[f_ hkl,n' / 03,(n' % 03).toNat,(),9];rw[Nk (by simp;lia)] at e;cases e;rintro ρ ⟨n,kv,pv,_,pl,rfl,rfl,p0,p1,hlen,bC⟩;calc hq pl bC () ()
end
def xR(ts:Φ)(q:qam):Prop:=E3 λ(ns:qan) (ys:ω) (pl:Plan)=>ts=[.lst (ns.map .int),.lst (ys.map .str),.lst (pl.map bU)]/\ns.length<=63/\Given ys pl/\1<=pl.length /\
 ∀rs,Pre ys pl pl.length rs->6<=60->q (.fr (.lst 42))
def BQ(f:α->T)(ns:List α)(lo hi:Option Int):∃ms:List α,qG (ns.map f) lo hi=ms.map f/\ms.length<=ns.length:=by
 unfold qG;rw[bL,<- List.map_drop,<- List.map_take];show#[_,9,?_];rw[Np,TQ]
 lia
def Iy(f:α->T)(ts:List α)(k:Nat)(h:k<=27):qG (ts.map f) (some (k:Int)) none=(ts.drop k).map f:=by unfold qG;rw[bL,HT.Kh,HT.EN,Nat.min_eq_left h,<- List.map_drop,<- List.map_take,Sx (by rw[TQ];lia)]
theorem ints_map:∀ms:qan,intsOf (ms.map T.int)\ms
 |[]=>rfl
 |m::ms=>by simp only[fO,intsOf,ints_map ms];rfl
section
abbrev dU:ω:=["_law_cells","_law_words_here","_law_plan_here","_law_rows","_law_k","_law_stack","_law_start","_law_stop","_law_share","_law_cell","_law_word"]
def p9:aI dU qaM (aq mC):=L2.gO
def Aa(D:Df K mg "_law_program" mC qaM f fd)(M:RQ mg)(c1:cu P w K mg base "_law_operand" qaH 1 (cD K 2 gN))(c2:cu P w K mg base "_law_lay" qaK 04 (tG K [true,true,false,false,false] Xo)) :
  cu P w K mg base "_law_program" qaM 05 (cD K 03 xR):=by
 let(jj,ig,bV,bW,bX,bY):=c1;let(adT,adG,Xs,Xu,Xv,Xw):=c2;show D.gR (jt D.F p9 9 λbP A outer s H E Ox hr ts q hG=>?_);have nd:=p9.nd;have hu:=bA.dI hr;have np:∀{i:Nat},bj #[H,[],Ox] i:=i_;have npf:∀{is:qao},∀i∈is,bj #[H,[],Ox] i:=λi _=>i_;let(ns,ys,pl,rfl,Z6,G,F3,hq):=hG;show#[_,(ag (cf (i:=03) nd 9 7 (rk (bz aj)) np)
   (ag (cg lu 9 (cP 24 M.range (ν (aT aX aY 24 M.len lx (aH (ae 2) aM)))) (aw (i:=04) nd 9 7 np)
     (ag (bq (cN 03 m4 m5 aW aQ (aa (υ (aU (aa (υ au) (aa (υ (ar (ν (ar (ae 2) (ae 04))) 3)) (aa (υ (ar (ν (ar (ae 2) (ae 04))) 3)) aj))))) aj)))
     (ag (cf (i:=05) nd 9 7 (rk (bz aj)) np)
     (ag (ay (i:=06) nd 9 7 (rk (ba (ν (eh (ae 04) (ν (aT aX aY 24 M.len lx (aH (ae 0) aM))))) (ν (aT aX aY 24 M.len lx (aH (ae 2) aM))))) np)
     (ag (ay (i:=07) nd 9 7 (rk (ba (ν (eh (ν (bQ (ae 04) 3)) (ν (aT aX aY 24 M.len lx (aH (ae 0) aM))))) (ν (aT aX aY 24 M.len lx (aH (ae 2) aM))))) np)
     (ag (ay (i:=08) nd 9 7 (rk (iM (ae 0) (g7 (ae 06)) (g7 (ae 07)))) np)
     (ag (cg lu 9 (eA (ai 08)) (aw (i:=09) nd 9 7 np)
       (ak (a_ (ku (ν (bQ (ν (aT aX aY 24 M.len lx (aH (ae 03) aM))) (ν (aT aX aY 24 M.len lx (aH (ae 05) aM))))) (ν (jX 3 (ν (eh 3 (ν (jX (ν (jX (ν (aT aX aY 24 M.len lx (aH (ae 2) aM))) 3)) (ae 04))))))))
         (ak (bq (wz Xw 29 24 Xs Xu Xv (nR 03 (nR 05 (fm (ai 09) (fm (ai 1) (fm (υ (iM (ae 2) (g7 (ν (bQ (ae 04) 3))) tw)) A0))))))))
         aJ)))
     (KU [05] (ag (cg lu 9 (eA (ai 05)) (aw (i:=10) nd 9 7 np)
       (ak (bq (cN 03 m4 m5 aW aQ (aa (υ (aU (aa (υ au) aj))) aj)))))
     (ag (bq (cN 03 m4 m5 aW aQ (aa (υ (aU (aa (υ au) (aa (υ (cy bY 29 24 bV bW bX (aa (υ (aS (ν (aT (qC 9) CO 24 M.sum Vp (aH (ae 08) aM))) (ν (jY 3 3)))) (aa (ai 1) aj)))) aj)))) aj)))
     (ak (a_ (VW.vc (c5 (bt hu (ν (aS (ae 04) 3)) 3) (cH (bt hu (ν (aS (ν (aT aX aY 24 M.len lx (aH (ae 08) aM))) 3)) 3))))
       (ak (bq (cN 03 m4 m5 aW aQ (aa (υ (aU (aa (υ au) aj))) aj))))
       aJ)))) npf))))))))
   (ak (aK (eQ 03 np))))),λ_=>?_]
 have hp3:=G.p3;have eT:((pl.map bU).length)=pl.length:=bL _;show#[e_ _,(),(),?_];show di (λk ρ=>E9 λkv a5 a6 a7 a8 a9 a10 rt rs=>ρ=[aL (.lst (ns.map .int)),aL (.lst (ys.map .str)),aL (.lst (pl.map bU)),some (.lst rt,true),kv,a5,a6,a7,a8,a9,a10]/\rt=rs.map aV/\Pre ys pl k rs/\6+03 * (pl.length-k)<=60)
  #[none,none,none,none,none,none,none,_,[],9,9,.zero,by simp;lia] ?_ ?_
 rintro k ρ hk ⟨kv,a5,a6,a7,a8,a9,a10,_,rs,rfl,rfl,lQ,hlen⟩;rw[eT,j6] at hk;obtain⟨p,hp⟩:∃p:Str×ω,p=pl[k]:=#[_,9];let(fn,vK):=p;have hpk:pl[k]?\(fn,vK):=by rw[f_ hk,hp]
 have et:iJ (pl.map bU) (0+(k:Int))\bU (fn,vK):=by rw[Ea];show ah ?_;rw[d4,hpk];rfl
 have hk3:k<03:=by lia
 have adH:(rs.map aV).length<sizeLine:=by rw[bL];exact fits ()
 show#[_,et,_,aaL,_,et,_,aaM,bG 4,adH,e_ _,.inl #[(),()],#[(),()],
  .inl #[(),()],#[(),()],?_]
 let(ms,ems,hms):=BQ T.int ns (some ((0+(k:Int)) * ((ns.map T.int).length:Int) / ((pl.map bU).length:Int))) (some ((0+(k:Int)+1) * ((ns.map T.int).length:Int) / ((pl.map bU).length:Int)));change kx (qG (ns.map T.int) (some ((0+(k:Int)) * ((ns.map T.int).length:Int) / ((pl.map bU).length:Int))) (some ((0+(k:Int)+1) * ((ns.map T.int).length:Int) / ((pl.map bU).length:Int)))) _ _ _ _;rw[ems];show de (λi ρ=>E8 λb6 b7 b9 fK rt st body bN=>ρ=[aL (.lst (ns.map .int)),aL (.lst (ys.map .str)),aL (.lst (pl.map bU)),some (.lst rt,true),aL (.int (0+(k:Int))),some (.lst st,true),b6,b7,aL (.lst (ms.map .int)),b9,fK]/\rt=(rs++[Rw.df fn vK]++body).map aV/\st=bN.map .str/\Body ys (pl.drop (k+1)) bN body/\6+1+body.length+bN.length+03 * (pl.length-1-k)<=58)
  #[_,_,_,_,_,_,[],[],9,by simp;rfl,9,.nil,by simp;lia] ?_ ?_
 rintro i z ρ hi ⟨b6,b7,b9,fK,_,_,body,bN,rfl,rfl,rfl,hB,hb⟩;show#[.inl #[by decide,by decide],cU (λh=>?_) (λ_=>#[b6,b7,_,fK,_,_,body,bN,9,9,9,hB,hb])];have hg:=h;have adI:qG (pl.map bU) (some (0+(k:Int)+1)) none=(pl.drop (k+1)).map bU:=by
  have:(0+(k:Int)+1)=((k+1:Nat):Int):=by lia
  rw[this];exact Iy bU pl (k+1) hk
 have Iz:(rs++[Rw.df fn vK]++body).length=6+1+body.length:=by simp only[lq,X6]
 rw[bL,bL,eT,Iz] at hg;show#[rs++[Rw.df fn vK]++body,bN,z,ys,pl.drop (k+1),?_,#[G.y6,G.sm,by rw[TQ];lia,λp hp=>G.p4 p (X8 hp)],by rw[Iz];lia,(),λnw dj Xx=>?_];rw[<- adI];rfl;have hlr:=Lf Xx;show#[b6,b7,_,fK,_,_,body++nw,dj,9,?_,9,.step hB Xx,by rw[lq];lia];rw[vH];rintro ρ ⟨b6,b7,b9,fK,_,_,body,bN,rfl,rfl,rfl,hB,hb⟩;have Iz:(rs++[Rw.df fn vK]++body).length=6+1+body.length:=by simp only[lq,X6]
 show de (f:=T.str) (xs:=bN) (λi ρ=>E2 λfK rt=>ρ=[aL (.lst (ns.map .int)),aL (.lst (ys.map .str)),aL (.lst (pl.map bU)),some (.lst rt,true),aL (.int (0+(k:Int))),aL (.lst (bN.map .str)),b6,b7,aL (.lst (ms.map .int)),b9,fK]/\rt=(rs++[Rw.df fn vK]++body++List.replicate i Rw.fin).map aV)
  #[fK,_,9,by simp] ?_ ?_
 rintro i x ρ hi ⟨c10,_,rfl,rfl⟩;have Yu:i<bN.length:=(dy.mp hi).1;show#[bG 4,by rw[bL,lq,Iz,OI];calc fits (),_,_,9,?_];rw[List.replicate_succ',<- vH,qo (l₂:=[Rw.fin])];rfl;rintro ρ ⟨c10,_,rfl,rfl⟩;have adJ:(rs++[Rw.df fn vK]++body++List.replicate bN.length Rw.fin).length=6+1+body.length+bN.length:=by rw[lq,Iz,OI]
 have v0:0<=ms.sum % 10 ^ (06:Int).toNat:=by rw[VL];exact qu _ 5
 have v1:ms.sum % 10 ^ (06:Int).toNat<2147483648:=by rw[VL];have:=ye ms.sum (show (0:Int)<1000000 by decide);lia
 show#[ms,ints_map ms,#[by decide,by decide,by decide],5,9,_,ys,9,G.y6,v0,v1,λo ho=>#[bG 4,by rw[bL,adJ];calc fits (),(by change (0:Int)<2;decide),?_]];have fin:∀sk:qal,(sk=[]\/sk=[Rw.skip])->Pre ys pl (k+1) (rs++(Rw.df fn vK::(body++(List.replicate bN.length Rw.fin++(Rw.give o::sk)))))/\(rs++(Rw.df fn vK::(body++(List.replicate bN.length Rw.fin++(Rw.give o::sk))))).length+03 * (pl.length-(k+1))<=60:=λsk YO=>by
  show#[.succ lQ hpk hB ho YO,?_];have:sk.length<=1:=by obtain rfl|rfl:=YO<;>simp
  simp only[lq,vI,OI]
  lia
 have e0:(rs++[Rw.df fn vK]++body++List.replicate bN.length Rw.fin).map aV++[aV (Rw.give o)]=(rs++(Rw.df fn vK::(body++(List.replicate bN.length Rw.fin++(Rw.give o::[]))))).map aV:=by simp[vH]
 have e1:(rs++[Rw.df fn vK]++body++List.replicate bN.length Rw.fin).map aV++[aV (Rw.give o)]++[aV Rw.skip]=(rs++(Rw.df fn vK::(body++(List.replicate bN.length Rw.fin++(Rw.give o::[Rw.skip]))))).map aV:=by simp[vH]
 show cU (λ_=>?_) (λ_=>iP 9 #[_,_,_,_,_,_,_,_,_,9,e0,fin [] 7]);show#[(by change (0:Int)<2;decide),cU (λ_=>?_) (λ_=>#[_,_,_,_,_,_,_,_,_,9,e0,fin [] 7])];show#[bG 4,?_,#[_,_,_,_,_,_,_,_,_,9,e1,fin [.skip] (.inr 9)]];calc fits (by simp;lia);rintro ρ ⟨kv,a5,a6,a7,a8,a9,a10,_,rs,rfl,rfl,lQ,hlen⟩;rw[eT,j6] at lQ;calc hq rs lQ ()
end
end eF
namespace VT
open PySem PySem.Spec PyProof.Rows L2
end VT
namespace b_
open PySem L2 VT Gen K5 Lay BS ym MK
open PySem.Builtin (bitOr)
def top(i:Nat):Stmt:=PySem.Challenge.pw_slicewise_k24_closed_tables.main.body.getD i (.Pass #[0,0,0,0])
abbrev va:Stmt:=top 37
abbrev vb:Stmt:=top 38
abbrev ij:Stmt:=top 039
abbrev vd:Stmt:=top 040
abbrev IA:Stmt:=top 041
abbrev vf:Stmt:=top 042
abbrev vg:Stmt:=top 043
abbrev Ab:Stmt:=top 44
abbrev mD:Stmt:=top 45
abbrev j5:Stmt:=top 46
abbrev vh:Stmt:=top 47
abbrev Ac:Stmt:=top 048
abbrev Ad:Stmt:=top 49
abbrev k_:Stmt:=top 050
structure BR(mg:qae):Prop where
 isinstance:mg "isinstance"=none
 str:mg "str"=none
 int:mg "int"=none
 range:mg "range"=none
 enumerate:mg "enumerate"=none
 sorted:mg "sorted"=none
 list:mg "list"=none
 zip:mg "zip"=none
 len:mg "len"=none
 bool:mg "bool"=none
 tuple:mg "tuple"=none
def bG(h:n<=1000):n<=sizeLine:=Gen.small h
def i6:bootBuiltins "sorted"\.builtin "sorted":=by decide +kernel
def Jz:Pl->T
 |.nm h x=>.tup [.str "name",.int (h:Int),.str x,.str ""]
 |.cl h x c=>.tup [.str "cells",.int (h:Int),.str x,.str c]
 |.rw i=>.tup [.str "row",.int (i:Int),.str "",.str ""]
 |.zr=>.bK
def qW(m:Mv):T:=.tup [Jz m.1,Jz m.2]
def R3:Pl->Prop
 |.rw i=>i<=1000
 |.zr=>False
 |_=>True
def mw(ts:Φ)(q:qam):Prop:=∃k:Ky,ts=[nU k]/\Xk k/\q (.vw (.str (k6 k)))
def Ae(ts:Φ)(q:qam):Prop:=∃rs:qal,ts=[.lst 42]/\Bl rs/\6<=100/\q (.fr (.lst (iA rs)))
def IB(ts:Φ)(q:qam):Prop:=E8 λ(rs:qal) (x g:Str) (as:List j7) (h s:Nat) (ps:ω) (o:j7)=>ts=[.lst 42,.int (h:Int),aV (.call x g as)]/\Bl rs/\as.length<=04/\fnOf rs g\(s,ps,o)/\q (.fr (.lst (((ps.zip as).flatMap (λz=>pJ (.nm s z.1) h z.2)++pJ (.nm h x) s o).map qW)))
def IC(ts:Φ)(q:qam):Prop:=∃rs:qal,ts=[.lst 42]/\Pg rs/\q (.fr (.lst ((yn rs 6).map qW)))
def xS(rs:qal)(k:Nat):Φ:=(List.range k).map λi=>oT (gx 28 i)
def mE(rs:qal)(k:Nat):xS rs (k+1)=xS rs k++[oT (gx 28 k)]:=by unfold xS;rw[TU,qo];rfl
section
abbrev MO:ω:=qaN
def xT:aI MO qaN (aq vb):=L2.gO
def ID(D:Df K mg "_law_class" vb qaN f fd)(M:BR mg):cu P w K mg base "_law_class" qaN 1 (cD K 1 mw):=by
 show D.gR (jt D.F xT 9 λbP A outer s H E Ox hr ts q hG=>?_);have nd:=xT.nd;show#[_,(ag (a_ (VW.vc (c5 (d_ (eR d7 24 M.isinstance 24 M.str mO (ae 0))) (cH (d_ (ma (ae 0) (ν au))))))
    (ak (aK (rk (VE.vp (ai 0)))))
    aJ)
   (ak (aK (rk au)))),λ_=>?_]
 let(k,rfl,hk,hq):=hG;cases k with
 |fld x=>rw[MC hk] at hq;calc#[9,oN 9 (oN (nN.oB x) hq)]
 |op o=>
   cases o with
   |nm y=>rw[RO hk] at hq;calc#[9,oN 9 (iP (nN.gh (nN.eO hk)) hq)]
   |nu i=>calc#[9,hq]
abbrev je:ω:=["_law_program_here","_law_homes_here","_law_here","_law_k","_law_row"]
def xU:aI je qaO (aq va):=L2.gO
def IE(D:Df K mg "_law_homes" va qaO f fd)(M:BR mg):cu P w K mg base "_law_homes" qaO 1 (cD K 1 Ae):=by
 show D.gR (jt D.F xU 9 λbP A outer s H E Ox hr ts q hG=>?_);have nd:=xU.nd;have hu:=bA.dI hr;have np:∀{i:Nat},bj #[H,[],Ox] i:=i_;show#[_,(ag (cf (i:=1) nd 9 7 (rk (bz aj)) np)
  (ag (ay (i:=2) nd 9 7 (rk iL) np)
  (ag (cg lu 9 (fY 24 M.enumerate (ai 0)) (cK (n:=2) 9 (aD (aw (i:=03) nd 9 7 np) (aD (aw (i:=04) nd 9 7 np) bR)))
   (ag (a_ (bt hu (ν (ar (ae 04) 3)) (ν au))
    (ak (ay (i:=2) nd 9 7 (rk (VE.vp (ai 03))) np))
    aJ)
   (ag (bq (cN 1 m4 m5 aW aQ (aa (ai 2) aj)))
   (ak (a_ (bt hu (ν (ar (ae 04) 3)) (ν au))
    (ak (ay (i:=2) nd 9 7 (rk iL) np))
    aJ)))))
  (ak (aK (eQ 1 np)))))),λ_=>?_]
 let(rs,rfl,B,hn,hq):=hG;show#[e_ _,?_];show ja (λk ρ=>E4 λb3 b4 hs hv=>ρ=[aL (.lst 42),some (.lst hs,true),aL hv,b3,b4]/\hs=xS rs k/\hv=oT (st 28 k).head?) #[none,none,_,_,9,9,9] ?_ ?_;rintro k r ρ cj ⟨b3,b4,_,_,rfl,rfl,rfl⟩;have hk:=(dy.mp cj).1;have hh:=B.head cj;have hlen:(xS rs k).length=k:=by simp[xS]
 let(l,el):=Ll r;have room:(xS rs k).length<sizeLine:=by rw[hlen,π];lia
 have SY:wd r="def"->gx 28 k\k:=λh=>by let(f,ps,rfl):=HA h;unfold gx;rw[c7 cj];rfl
 have Js:wd r≠"def"->gx 28 k=(st 28 k).head?:=λh=>by unfold gx;rw[c7 cj];cases r<;>first|rfl|exact absurd 9 h
 have hsz:(xS rs k).length<sizeLine:=room;rw[el];show#[9,9,_,aaL,cU (λh=>?_) (λh=>?_)];have h':wd r="def":=h;show#[hsz,_,aaL,cU (λh2=>?_) (λh2=>?_)];have qI:wd r="give":=h2;rw[h'] at qI;calc absurd qI 23;have qI:¬ wd r="give":=h2;rw[θ qI,SY h'] at hh;show#[_,_,_,_,9,?_,?_];rw[mE,SY h'];rfl;rw[hh];rfl;have h':¬ wd r="def":=h;show#[hsz,_,aaL,cU (λh2=>?_) (λh2=>?_)];have qI:wd r="give":=h2;rw[ι qI] at hh;show#[_,_,_,_,9,?_,?_];rw[mE,Js h'];rw[hh];rfl;have qI:¬ wd r="give":=h2;rw[θ qI,Js h'] at hh;show#[_,_,_,_,9,?_,?_];rw[mE,Js h'];rw[hh];rintro ρ ⟨b3,b4,_,_,rfl,rfl,rfl⟩;calc hq
abbrev vi:ω:=["_law_program_here","_law_home","_law_row","_law_there","_law_last","_law_moves_here","_law_name","_law_operand_here"]
def jQ:aI vi qaP (aq ij):=L2.gO
def qX(D:Df K mg "_law_call_moves" ij qaP f fd)(M:BR mg):cu P w K mg base "_law_call_moves" qaP 1 (cD K 03 IB):=by
 show D.gR (jt D.F jQ 9 λbP A outer s H E Ox hr ts q hG=>?_);have nd:=jQ.nd;have hu:=bA.dI hr;have np:∀{i:Nat},bj #[H,[],Ox] i:=i_;show#[_,(ag (ay (i:=03) nd 9 7 (rk af) np)
  (ag (wq lu (VW.vc (AK (fU hu (ν (ar (ν (ar (ae 0) (ae 03))) 3)) (ν au)) (yT (fU hu (ν (ar (ν (ar (ae 0) (ae 03))) 3)) (ν (ar (ae 2) 3))))))
   (ak (ay (i:=03) nd 9 7 (rk (bQ (ae 03) 3)) np)))
  (ag (ay (i:=04) nd 9 7 (rk (VE.vp (ai 03))) np)
  (ag (wq lu (fU hu (ν (ar (ν (ar (ae 0) (ae 04))) 3)) (ν au))
   (ak (ay (i:=04) nd 9 7 (rk (bQ (ae 04) 3)) np)))
  (ag (cf (i:=05) nd 9 7 (rk (bz aj)) np)
  (ag (cg lu 9 (F4 24 M.zip (υ (ar (ν (ar (ae 0) (ae 03))) 3)) (υ (ar (ae 2) 3))) (cK (n:=2) 9 (aD (aw (i:=06) nd 9 7 np) (aD (aw (i:=07) nd 9 7 np) bR)))
   (ak (a_ (d_ (eR d7 24 M.isinstance 24 M.str mO (ae 07)))
    (ak (bq (cN 05 m4 m5 aW aQ (aa (υ (aU (aa (υ (aU (aa (υ au) (aa (ai 03) (aa (ai 06) (aa (υ au) aj)))))) (aa (υ (aU (aa (υ au) (aa (ai 1) (aa (ai 07) (aa (υ au) aj)))))) aj)))) aj))))
    aJ)))
  (ag (a_ (d_ (eR d7 24 M.isinstance 24 M.str mO (ν (ar (ν (ar (ae 0) (ae 04))) 3))))
   (ak (bq (cN 05 m4 m5 aW aQ (aa (υ (aU (aa (υ (aU (aa (υ au) (aa (ai 1) (aa (υ (ar (ae 2) 3)) (aa (υ au) aj)))))) (aa (υ (aU (aa (υ au) (aa (ai 03) (aa (υ (ar (ν (ar (ae 0) (ae 04))) 3)) (aa (υ au) aj)))))) aj)))) aj))))
   aJ)
  (ak (aK (eQ 05 np)))))))))),λ_=>?_]
 let(rs,x,g,as,h,st,ps,o,rfl,B,ha,hf,hq):=hG;let(f',e,h1,h2,h3,h4):=BB hf;let(_,WQ,qI):=oU _ h1;rw[h2] at qI;cases qI;let(e',o',g1,g2,g3,g4):=BC B h2;rw[h3] at g1;cases g1;have hel:e<6:=(dy.mp h4).1;show#[λm ρ=>∃k:Nat,ρ=[aL (.lst 42),aL (.int (h:Int)),aL (aV (.call x g as)),aL (.int (k:Int)),none,none,none,none]/\k<=st/\m=st-k,#[_,0,9,e_ _,9],?_];rintro m ρ ⟨k,rfl,hk,rfl⟩;obtain⟨r,cj⟩:∃r,rs[k]?\r:=#[_,f_ ()];show Rv (P:=k=st) (λkk k1 k2=>?_) (λhn=>?_) λhs=>?_;cases r with
 |df f qs=>show#[_,eB cj,_,aaL,_,eB cj,_,aaM,_,aaN,?_];change kk (!decide (f=g));by_cases z:f=g;rw[ο z];show k2 ?_;subst z;by_cases y:k=st;calc y;calc absurd cj (sA _ h1 k () qs);rw[ς z];show k1 λy=>?_;subst y;rw[h2] at cj;cases cj;calc z 9
 |_=>exact#[_,eB cj,_,aaL,k1 λy=>by subst y;rw[h2] at cj;cases cj]
 rw[ι 9];calc#[st-(k+1),(),k+1,9,(),9];subst hs;rw[θ jk];show#[λm ρ=>∃j:Nat,ρ=[aL (.lst 42),aL (.int (h:Int)),aL (aV (.call x g as)),aL (.int (k:Int)),aL (.int (j:Int)),none,none,none]/\k<=j/\j<=e/\m=e-j,#[_,k,9,cv _,(),9],?_];rintro m ρ ⟨j,rfl,hj,hje,rfl⟩;obtain⟨r,yk⟩:∃r,rs[j]?\r:=#[_,f_ ()];have nxt:(∀o,r≠.give o)->∃m',m'<e-j/\∃j':Nat,[aL (T.lst 42),aL (.int (h:Int)),aL (aV (.call x g as)),aL (.int (k:Int)),aL (.int ((j:Int)+1)),none,none,none]=[aL (.lst 42),aL (.int (h:Int)),aL (aV (.call x g as)),aL (.int (k:Int)),aL (.int (j':Int)),none,none,none]/\k<=j'/\j'<=e/\m'=e-j':=λng=>by
  have:j≠e:=λz=>by subst z;rw[h4] at yk;cases yk;exact ng _ 9
  exact#[e-(j+1),(),j+1,9,(),(),9]
 cases r with
 |give o2=>
  have:j=e:=by by_cases z:j=e;calc z;exact absurd yk (g4 j hj () o2)
  subst this;show#[_,eB yk,_,aaL,bG 4,_,eB h2,_,aaN,_,aaO,?_];change kx (tV (ps.map T.str) (as.map qr)) _ _ _ _;rw[eJ.zip_map];show de (λn ρ=>E3 λts b6 b7=>ρ=[aL (.lst 42),aL (.int (h:Int)),aL (aV (.call x g as)),aL (.int (k:Int)),aL (.int (j:Int)),some (.lst ts,true),b6,b7]/\ts=(((ps.zip as).take n).flatMap λz=>pJ (.nm k z.1) h z.2).map qW) #[_,none,none,9,9] ?_ ?_;rintro n ⟨z1,z2⟩ ρ hz ⟨ts,b6,b7,rfl,BG⟩;have hn:n<(ps.zip as).length:=(dy.mp hz).1;have es:(((ps.zip as).take (n+1)).flatMap λz=>pJ (.nm k z.1) h z.2).map qW=ts++(pJ (.nm k z1) h z2).map qW:=by
   rw[BG,TN,hz,List.flatMap_append,qo]
   congr 2
   change pJ _ _ _++[]=_;rw[As]
  have hs:27<sizeLine:=by
   have:=fG (f:=λz:Str×j7=>pJ (.nm k z.1) h z.2) (m:=1) (λz=>by cases z.2<;>simp[pJ]) ((ps.zip as).take n);rw[BG,bL,π];rw[Np] at this;rw[B9] at hn this
   lia
  cases z2 with
  |nm y=>calc#[9,9,9,bG 4,bG 4,bG 4,hs,_,_,_,9,es.symm]
  |nu i=>exact#[9,9,9,_,_,_,9,by rw[es];calc (As _).symm]
  rintro ρ ⟨ts,b6,b7,rfl,BG⟩;rw[OL] at BG;have hs:27<sizeLine:=by
   have:=fG (f:=λz:Str×j7=>pJ (.nm k z.1) h z.2) (m:=1) (λz=>by cases z.2<;>simp[pJ]) (ps.zip as);rw[BG,bL,π];rw[B9] at this
   lia
  rw[qo,<- BG] at hq;show#[_,eB h4,_,aaM,?_];cases o with
  |nm y=>calc#[9,_,aaM,bG 4,_,eB h4,_,aaM,bG 4,bG 4,hs,hq]
  |nu i=>calc#[9,by change q (.fr (.lst ts));rw[show ts=ts++(pJ (.nm h x) k (.nu i)).map qW from (As _).symm];calc hq]
 |_=>calc#[_,eB yk,_,aaL,nxt λ_ z=>nomatch z]
abbrev MQ:ω:=["_law_program_here","_law_homes_here","_law_moves_here","_law_k","_law_row","_law_home"]
def xV:aI MQ qaO (aq vd):=L2.gO
def IF(D:Df K mg "_law_moves" vd qaO f fd)(M:BR mg)(vj:cu P w K mg base "_law_homes" qaO 1 (cD K 1 Ae))(BU:cu P w K mg base "_law_class" qaN 1 (cD K 1 mw))(vk:cu P w K mg base "_law_call_moves" qaP 1 (cD K 03 IB)):cu P w K mg base "_law_moves" qaO 2 (cD K 1 IC):=by
 show D.gR (jt D.F xV 9 λbP A outer s H E Ox hr ts q hG=>?_);have nd:=xV.nd;have hu:=bA.dI hr;have np:∀{i:Nat},bj #[H,[],Ox] i:=i_;show#[_,(ag (ay (i:=1) nd 9 7 (rk (aO vj hr (aa (ai 0) aj))) np)
  (ag (cf (i:=2) nd 9 7 (rk (bz aj)) np)
  (ag (cg lu 9 (fY 24 M.enumerate (ai 0)) (cK (n:=2) 9 (aD (aw (i:=03) nd 9 7 np) (aD (aw (i:=04) nd 9 7 np) bR)))
   (ag (ay (i:=05) nd 9 7 (rk (ar (ae 1) (ae 03))) np)
   (ak (a_ (bt hu (ν (ar (ae 04) 3)) (ν au))
    (ak (bq (cN 2 m4 m5 aW aQ (aa (υ (aU (aa (υ (aU (aa (υ au) (aa (ai 05) (aa (υ (ar (ae 04) 3)) (aa (υ au) aj)))))) (aa (υ (aU (aa (υ au) (aa (ai 03) (aa (υ au) (aa (υ au) aj)))))) aj)))) aj))))
    (ak (a_ (VW.vc (c5 (bt hu (ν (ar (ae 04) 3)) (ν au)) (cH (d_ (eR d7 24 M.isinstance 24 M.str mO (ν (ar (ae 04) 3)))))))
     (ak (bq (cN 2 m4 m5 aW aQ (aa (υ (aU (aa (υ (aU (aa (υ au) (aa (ai 05) (aa (υ (ar (ae 04) 3)) (aa (υ au) aj)))))) (aa (υ (aU (aa (υ au) (aa (ai 05) (aa (υ (ar (ae 04) 3)) (aa (υ au) aj)))))) aj)))) aj))))
     (ak (a_ (bt hu (ν (ar (ae 04) 3)) (ν au))
      (ak (bq (cN 2 m4 m5 aW aQ (aa (υ (aU (aa (υ (aU (aa (υ au) (aa (ai 05) (aa (υ (ar (ae 04) 3)) (aa (υ au) aj)))))) (aa (υ (aU (aa (υ au) (aa (ai 05) (aa (υ (ar (ae 04) 3)) (aa (υ (aO BU hr (aa (υ (ar (ae 04) 3)) aj))) aj)))))) aj)))) aj))))
      (ak (a_ (VW.vc (c5 (bt hu (ν (ar (ae 04) 3)) (ν au)) (cH (d_ (eR d7 24 M.isinstance 24 M.str mO (ν (ar (ae 04) 3)))))))
       (ak (bq (cN 2 m4 m5 aW aQ (aa (υ (aU (aa (υ (aU (aa (υ au) (aa (ai 05) (aa (υ (ar (ae 04) 3)) (aa (υ (aO BU hr (aa (υ (ar (ae 04) 3)) aj))) aj)))))) (aa (υ (aU (aa (υ au) (aa (ai 05) (aa (υ (ar (ae 04) 3)) (aa (υ au) aj)))))) aj)))) aj))))
       (ak (a_ (bt hu (ν (ar (ae 04) 3)) (ν au))
        (ak (cf (i:=2) nd 9 7 (rk (bQ (ae 2) (ν (aO vk hr (aa (ai 0) (aa (ai 05) (aa (ai 04) aj))))))) np))
        aJ))))))))))))
  (ak (aK (eQ 2 np)))))),λ_=>?_]
 let(rs,rfl,p,hq):=hG;have hn:=p.le;show#[9,rs,9,p.B,(),bG 4,?_];show ja (λi ρ=>E4 λts b3 b4 b5=>ρ=[aL (.lst 42),aL (.lst (iA rs)),some (.lst ts,true),b3,b4,b5]/\ts=(yn rs i).map qW) #[_,none,none,none,9,9] ?_ ?_;rintro i r ρ hr ⟨ts,b3,b4,b5,rfl,BG⟩;have hi:=(dy.mp hr).1;have em:=Hy rs i;have hs:27<sizeLine:=by have:=p.len.2 i ();rw[BG,bL,π];lia
 have hk:=p.ky r (eM hr);have Tf:=p.B.Tf hr;have nil:∀t5:T,(∀h,gx 28 i\h->Jw rs i h r=[])->E4 λgQ b3 b4 b5=>[aL (T.lst 42),aL (.lst (iA rs)),some (.lst ts,true),aL (.int (i:Int)),aL (aV r),aL t5]=[aL (.lst 42),aL (.lst (iA rs)),some (.lst gQ,true),b3,b4,b5]/\gQ=(yn rs (i+1)).map qW:=λt5 z=>#[_,_,_,_,9,by
  have:Hx rs i=[]:=by
   unfold Hx;rw[hr];cases h:gx (bE rs) i with
   |none=>rfl
   |some h'=>exact z h' h
  rw[em,this,As];calc BG]
 have Xy:∀x:Str,wd r=x->decide (x="def")=false->decide (x="skip")=false->∃h,gx 28 i\h/\iJ (iA rs) (i:Int)\.int (h:Int)/\Hx rs i=Jw rs i h r:=λx e y1 y2=>by
  have z1:wd r≠"def":=by rw[e];exact of_decide_eq_false y1
  have z2:wd r≠"skip":=by rw[e];exact of_decide_eq_false y2
  have:gx 28 i=(st 28 i).head?:=by unfold gx;rw[c7 hr];cases r<;>first|rfl|exact absurd 9 z1
  cases hl:st (bE rs) i with
  |nil=>calc absurd hl (Tf z1 z2)
  |cons a l=>rw[hl] at this;exact#[a,this,(o5 hi).trans (by rw[this];rfl),by unfold Hx;rw[hr,this];rfl]
 have add:∀(us:Φ)(t5:T),us=(Hx rs i).map qW->E4 λgQ b3 b4 b5=>[aL (T.lst 42),aL (.lst (iA rs)),some (.lst (ts++us),true),aL (.int (i:Int)),aL (aV r),aL t5]=[aL (.lst 42),aL (.lst (iA rs)),some (.lst gQ,true),b3,b4,b5]/\gQ=(yn rs (i+1)).map qW:=λus t5 e=>#[_,_,_,_,9,by rw[em,qo,BG,e]];cases r with
 |new x=>let(h,h1,h2,h3):=Xy "new" 9 23 23;calc#[9,9,_,h2,_,aaL,_,aaM,bG 4,bG 4,bG 4,hs,add [_] _ (by rw[h3];rfl)]
 |put x o=>
  let(h,h1,h2,h3):=Xy "put" 9 23 23;show#[9,9,_,h2,_,aaL,_,aaL,_,aaN,?_];cases o with
  |nm y=>calc#[9,_,aaM,bG 4,_,aaN,bG 4,bG 4,hs,add [_] _ (by rw[h3];rfl)]
  |nu _=>calc#[9,_,aaL,_,aaL,_,aaL,nil _ λ_ _=>rfl]
 |get x y k=>let(h,h1,h2,h3):=Xy "get" 9 23 23;calc#[9,9,_,h2,_,aaL,_,aaL,_,aaL,_,aaM,bG 4,_,aaN,_,aaO,9,k,9,hk,bG 4,bG 4,hs,add [_] _ (by rw[h3];rfl)]
 |set y k o=>
  let(h,h1,h2,h3):=Xy "set" 9 23 23;show#[9,9,_,h2,_,aaL,_,aaL,_,aaL,_,aaL,_,aaO,?_];cases o with
  |nm z=>calc#[9,_,aaM,_,aaN,9,k,9,hk,bG 4,_,aaO,bG 4,bG 4,hs,add [_] _ (by rw[h3];rfl)]
  |nu _=>calc#[9,_,aaL,nil _ λ_ _=>rfl]
 |call x g as=>
  let(h,h1,h2,h3):=Xy "call" 9 23 23;let(c1,(s',ps,o),c2):=p.cl x g as (eM hr);show#[9,9,_,h2,_,aaL,_,aaL,_,aaL,_,aaL,_,aaL,9,rs,x,g,as,h,s',ps,o,9,p.B,c1,c2,?_];have e:Jw rs i h (.call x g as)=(ps.zip as).flatMap (λz=>pJ (.nm s' z.1) h z.2)++pJ (.nm h x) s' o:=by simp only[Jw,c2]
  rw[<- e,<- h3];show#[?_,add _ _ 9];have:=p.len.2 (i+1) ();rw[em,lq] at this;rw[BG,bL,bL,π]
  lia
 |_=>exact#[9,9,_,o5 hi,_,aaL,_,aaL,_,aaL,_,aaL,_,aaL,nil _ λ_ _=>rfl]
 rintro ρ ⟨ts,b3,b4,b5,rfl,rfl⟩;calc hq
end
def R4:Pl->Prop
 |.nm _ _=>True
 |.cl _ _ _=>True
 |_=>False
def p_(o:Obj)(E:List Ent):T:=.df o (bZ E) (cp E)
def Xz(ts:Φ)(q:qam):Prop:=E5 λ(E F:List Ent) (o1 o2:Obj) (p:Pl)=>ts=[p_ o1 E,p_ o2 F,Jz p]/\(F.map (·.1)).Nodup/\(∀e∈F,0<=e.1.1)/\R3 p/\q (.vw (.int (uI E F p)))
def IG(ts:Φ)(q:qam):Prop:=E3 λ(E:List Ent) (o1:Obj) (p:Pl)=>ts=[p_ o1 E,Jz p]/\R4 p/\q (.fr (.lst ((fH E p).map λk=>.kt (kK k))))
def IH(ts:Φ)(q:qam):Prop:=E5 λ(E F:List Ent) (o1 o2:Obj) (m:Mv)=>ts=[p_ o1 E,p_ o2 F,qW m]/\(F.map (·.1)).Nodup/\(∀e∈F,0<=e.1.1)/\R3 m.2/\R4 m.1/\q (.fr (.lst ((eD E F m).map λk=>.kt (kK k))))
def XA(q:qam):FS:=λd ρ=>E9 λ(E F:List Ent) (o1 o2:Obj) (p:T) (h:Nat) (y c:Str) (b:Bool)=>ρ=[aL (p_ o1 E),aL (p_ o2 F),aL p,aL (.str (if b=true then "name" else "cells")),aL (.int (h:Int)),aL (.str y),aL (.str c),aL (.int (bo E (nk h y))),none,none,none]/\(F.map (·.1)).Nodup/\(∀e∈F,0<=e.1.1)/\q (.vw (.int (if b=true then bo E (nk h y) else Oe (pC (bo E (nk h y)) c) F)))/\∀ρ r,q r->d.rt ρ r
def XB(q:qam):FS:=λd ρ=>E6 λ(E:List Ent) (o1:Obj) (p:T) (h:Nat) (y c:Str)=>ρ=[aL (p_ o1 E),aL p,aL (.str "cells"),aL (.int (h:Int)),aL (.str y),aL (.str c),aL (.int (bo E (nk h y)))]/\q (.fr (.lst ((fH E (.cl h y c)).map λk=>.kt (kK k))))/\∀ρ r,q r->d.rt ρ r
section
abbrev XC:ω:=["_law_names","_law_cells","_law_origin","_law_word","_law_home","_law_name","_law_kind","_law_some","_law_total","_law_row","_law_other"]
def II:aI XC qaQ (aq IA):=L2.gO
def R5(D:Df K mg "_law_had" IA qaQ f fd):cu P w K mg base "_law_had" qaQ 1 (cD K 03 Xz):=by
 show D.gR (jt D.F II 9 λbP A outer s H E Ox hr ts q hG=>?_);have nd:=II.nd;have hu:=bA.dI hr;have np:∀{i:Nat},bj #[H,[],Ox] i:=i_;have gP:=ir hu;show#[_,(ag (tD (ai 2) (cK (n:=04) 9 (aD (aw (i:=03) nd 9 7 np) (aD (aw (i:=04) nd 9 7 np) (aD (aw (i:=05) nd 9 7 np) (aD (aw (i:=06) nd 9 7 np) bR))))))
  (ag (a_ (bt hu (ae 03) (ν au))
   (ak (aK (rk (oF 3 (ae 04)))))
   aJ)
  (ag (ay (i:=07) nd 9 7 (rk (G8 gP (ae 0) (aa (ai 04) (aa (ai 05) aj)) (υ af) #[9,9,9,9])) np)
  (fW.weak (u:=(XA q)) (ag (a_ (bt hu (ae 03) (ν au))
   (ak (aK (rk (VE.vp (ai 07)))))
   aJ)
  (ag (ay (i:=08) nd 9 7 (rk af) np)
  (ag (cg lu 9 (L5 (ai 1)) (cK (n:=2) 9 (aD (aw (i:=09) nd 9 7 np) (aD (aw (i:=10) nd 9 7 np) bR)))
   (ak (a_ (VW.vc (c5 (bt hu (ae 10) (ae 06)) (cH (bt hu (ν (aS (ν (yW (ae 07) (ae 09))) 3)) 3))))
    (ak (ay (i:=08) nd 9 7 (rk (lV (ae 08) (ν (L6 gP (ae 1) (aa (ai 09) (aa (ai 10) aj)))))) np))
    aJ)))
  (ak (aK (rk (VE.vp (ai 08)))))))) ?w1)))),λ_=>?main]
 case w1=>
  rintro d ρ ⟨E,F,o1,o2,p,h,y,c,b,rfl,nd,ps,hq,fin⟩;cases b with
  |true=>calc fin _ _ hq
  |false=>
   have hq:q (.vw (.int (Oe (pC (bo E (nk h y)) c) F))):=hq;have ek:(bZ F).map El=F.map λe=>El (kK e.1):=by unfold bZ;rw[qv];rfl
   change kx ((bZ F).map El) _ _ _ _;rw[ek];show de (λn ρ=>E3 λv b9 fK=>ρ=[aL (p_ o1 E),aL (p_ o2 F),aL p,aL (.str "cells"),aL (.int (h:Int)),aL (.str y),aL (.str c),aL (.int (bo E (nk h y))),aL (.int v),b9,fK]/\v=Oe (pC (bo E (nk h y)) c) (F.take n)) #[_,none,none,9,9] ?_ ?_;rintro n e ρ he ⟨_,b9,fK,rfl,rfl⟩;have hs:=Md (p:=pC (bo E (nk h y)) c) he;have h0:=ps e (eM he);have hb:bo E (nk h y) / 2 ^ e.1.1.toNat % 2=1↔ib (bo E (nk h y)) e.1.1.toNat=true:=#[λz=>ο z,ψ];show#[9,9,cU (λz1=>#[h0,(by change (0:Int)<2;decide),cU (λz2=>?_) (λz2=>?_)]) (λz1=>?_)];have hp:pC (bo E (nk h y)) c e.1=true:=by unfold pC;rw[ο z1,yr];exact hb.mp z2
   show#[bG 4,.int e.2,uF nd (eM he),_,_,_,9,?_];rw[hs];unfold Od;rw[ι hp];have hp:¬ pC (bo E (nk h y)) c e.1=true:=λz=>z2 (by unfold pC at z;rw[iE] at z;calc hb.mpr z.2);show#[_,_,_,9,?_];rw[hs];unfold Od;rw[θ hp];have hp:¬ pC (bo E (nk h y)) c e.1=true:=λz=>z1 (by unfold pC at z;rw[iE] at z;calc ψ z.1);show#[_,_,_,9,?_];rw[hs];unfold Od;rw[θ hp];rintro ρ ⟨_,b9,fK,rfl,rfl⟩;rw[OL];exact fin _ _ hq
 case main=>
  let(E,F,o1,o2,p,rfl,nd,ps,pk,hq):=hG;have go:∀(b:Bool)(h:Nat)(y c:Str)(p:T),q (.vw (.int (if b=true then bo E (nk h y) else Oe (pC (bo E (nk h y)) c) F)))->XA q {nx:=λx=>q (.vw .bK),rt:=λx r=>q r} [aL (p_ o1 E),aL (p_ o2 F),aL p,aL (.str (if b=true then "name" else "cells")),aL (.int (h:Int)),aL (.str y),aL (.str c),aL ((cC (bZ E) (cp E) (kK (nk h y))).getD (.int 0)),none,none,none]:=λb h y c p hq=>by rw[eI];exact#[E,F,o1,o2,p,h,y,c,b,9,nd,ps,hq,λ_ _ h=>h]
  cases p with
  |rw i=>have pk:i<=1000:=pk;calc#[9,9,#[(),(),by decide],hq]
  |nm h y=>calc#[9,9,bG 4,go true h y "" _ hq]
  |cl h y c=>calc#[9,9,bG 4,go false h y c _ hq]
  |zr=>calc pk.elim
abbrev BV:ω:=["_law_names","_law_goal","_law_word","_law_home","_law_name","_law_kind","_law_some"]
def xW:aI BV qaR (aq vf):=L2.gO
def xX:(BV++(["_law_row"]:ω)).Nodup:=by decide +kernel
def IJ(D:Df K mg "_law_goals" vf qaR f fd)(M:BR mg):cu P w K mg base "_law_goals" qaR 1 (cD K 2 IG):=by
 show D.gR (jt D.F xW 9 λbP A outer s H E Ox hr ts q hG=>?_);have nd:=xW.nd;have hu:=bA.dI hr;have np:∀{i:Nat},bj #[H,[],Ox] i:=i_;have gP:=ir hu;show#[_,(ag (tD (ai 1) (cK (n:=04) 9 (aD (aw (i:=2) nd 9 7 np) (aD (aw (i:=03) nd 9 7 np) (aD (aw (i:=04) nd 9 7 np) (aD (aw (i:=05) nd 9 (.inr 9) np) bR))))))
  (ag (a_ (bt hu (ae 2) (ν au))
   (ak (aK (rk (bz (aa (υ (cn (aa (ai 03) (aa (ai 04) aj)))) aj)))))
   aJ)
  (ag (ay (i:=06) nd 9 (.inr 9) (rk (G8 gP (ae 0) (aa (ai 03) (aa (ai 04) aj)) (υ af) #[9,9,9,9])) np)
  (fW.weak (u:=(XB q)) (ak (aK (rk (dD (ts:=qaS) 9 24 (cP 24 M.range 3) (λ_ _ _ _ _ _=>(aw (i:=07) xX 9 7 np)) (λ_ _ _ _ _ _=>(g8 (bt hu (ν (aS (ν (yW (ae 06) (ae 07))) 3)) 3))) (λ_ _ _ _ _ _=>(υ (cn (aa (ai 07) (aa (ai 05) aj))))))))) ?w1)))),λ_=>?main]
 case w1=>
  rintro d ρ ⟨E,o1,p,h,y,c,rfl,hq,fin⟩;have hr:((rangeT 0 60).filter λt=>match t with | .int i=>ib (bo E (nk h y)) i.toNat|_=>false)=((List.range 60).filter (ib (bo E (nk h y)))).map λ(j:Nat)=>T.int (j:Int):=by
   unfold rangeT;rw[List.filter_map];have e:((λt:T=>match t with | .int i=>ib (bo E (nk h y)) i.toNat|_=>false) ∘ λ(i:Nat)=>T.int (0+(i:Int)))=ib (bo E (nk h y)):=by funext i;change ib _ (0+(i:Int)).toNat=_;rw[Ea,j6]
   rw[e];exact Es λi _=>by rw[Ea]
  show#[9,by decide,by decide,by rw[g_];calc bG 5,?_];show i9 (λt=>match t with | .int i=>ib (bo E (nk h y)) i.toNat|_=>false) (λt=>match t with | .int i=>.kt (kK (i,c))|_=>.bK) (λt ht k r hx=>?_) ?_;let(i,hi):=JA.mp ht;let(_,rfl):=hJ hi;rw[Ea] at hx ⊢;show#[(),by decide,?_];have hx:if ib (bo E (nk h y)) ((i:Int)).toNat=true then r [.kt (kK ((i:Int),c))] else r []:=hx
  change if ib (bo E (nk h y)) ((i:Int)).toNat=true then (2<=sizeLine/\r [.kt (kK ((i:Int),c))]) else r []
  by_cases z:ib (bo E (nk h y)) ((i:Int)).toNat=true;rw[ι z] at hx ⊢;calc#[bG 5,hx];rw[θ z] at hx ⊢;calc hx;show fin _ _ ?_;change q (.fr (.lst (((rangeT 0 60).filter λt=>match t with | .int i=>ib (bo E (nk h y)) i.toNat|_=>false).map λt=>match t with | .int i=>.kt (kK (i,c))|_=>.bK)));rw[hr,qv];unfold fH at hq;rw[qv] at hq;exact hq
 case main=>
  let(E,o1,p,rfl,hp,hq):=hG;cases p with
  |rw i=>calc hp.elim
  |zr=>calc hp.elim
  |nm h x=>calc#[9,9,bG 4,bG 4,hq]
  |cl h y c=>show#[9,9,bG 4,?_];change XB q _ [aL (p_ o1 E),aL (Jz (.cl h y c)),aL (.str "cells"),aL (.int (h:Int)),aL (.str y),aL (.str c),aL ((cC (bZ E) (cp E) (kK (nk h y))).getD (.int 0))];rw[eI];calc#[E,o1,_,h,y,c,9,hq,λ_ _ h=>h]
abbrev BW:ω:=["_law_names","_law_cells","_law_move","_law_goal","_law_origin","_law_some","_law_where"]
def xY:aI BW qaT (aq vg):=L2.gO
def xZ:(BW++(["_law_key_here"]:ω)).Nodup:=by decide +kernel
def IK(D:Df K mg "_law_lacks" vg qaT f fd)(M:BR mg)(XD:cu P w K mg base "_law_had" qaQ 1 (cD K 03 Xz))(MR:cu P w K mg base "_law_goals" qaR 1 (cD K 2 IG)):cu P w K mg base "_law_lacks" qaT 2 (cD K 03 IH):=by
 show D.gR (jt D.F xY 9 λbP A outer s H E Ox hr ts q hG=>?_);have nd:=xY.nd;have hu:=bA.dI hr;have np:∀{i:Nat},bj #[H,[],Ox] i:=i_;have gP:=ir hu;show#[_,(ag (tD (ai 2) (cK (n:=2) 9 (aD (aw (i:=03) nd 9 7 np) (aD (aw (i:=04) nd 9 7 np) bR))))
  (ag (ay (i:=05) nd 9 (.inr 9) (rk (aO XD hr (aa (ai 0) (aa (ai 1) (aa (ai 04) aj))))) np)
  (ag (ay (i:=06) nd 9 (.inr 9) (rk (ar (ν (bz (aa (ai 1) (aa (ai 0) aj)))) (ν (c0 Cm y0 24 M.int Vr (aH (ν (Fu hu (ν (ar (ae 03) 3)) (ν au))) aM))))) np)
  (ak (aK (rk (dD (ts:=qaN) 9 24 (eA (υ (aO MR hr (aa (ai 0) (aa (ai 03) aj))))) (λ_ _ _ _ _ _=>(aw (i:=07) xZ 9 7 np)) (λ_ _ _ _ _ _=>(g8 (fU hu (ν (lV (ν (eC gP (ae 06) (ai 07) (υ af) #[9,9,9,9])) (ae 05))) (ν (eC gP (ae 06) (ai 07) (υ af) #[9,9,9,9]))))) (λ_ _ _ _ _ _=>(ai 07))))))))),λ_=>?_]
 let(E,F,o1,o2,m,rfl,nd,ps,pk,hp,hq):=hG;show#[9,9,9,E,F,o1,o2,m.2,9,nd,ps,pk,?_];let(g,o):=m;have gl:((fH E g).map λk=>T.kt (kK k)).length<=sizeLine:=by
  rw[bL];cases g with
  |nm h x=>calc bG (by simp[fH])
  |rw i=>calc bG (by simp[fH])
  |zr=>calc bG (by simp[fH])
  |cl h y c=>unfold fH;rw[bL];have:=TF (ib (bo E (nk h y))) (List.range 60);rw[rh] at this;exact bG ()
 have fin:∀(EE:List Ent)(oo:Obj),(∀k,Tb.get #[E,F,false] (isNm g) k=bo EE k)->du (hName 07) (nB (f2 (fT (f2 (fT (Hj (fR 06) (jq 07) (fT (fC (.int 0))))) (fR 05) yV)) (fT (Hj (fR 06) (jq 07) (fT (fC (.int 0))))) Kz)) (jq 07) [aL (p_ o1 E),aL (p_ o2 F),aL (qW (g,o)),aL (Jz g),aL (Jz o),aL (.int (uI E F o)),aL (p_ oo EE),none] ((fH E g).map λk=>T.kt (kK k)) λus=>q (.fr (.lst us)):=λEE oo hg=>by
  show dq (f:=λk=>T.kt (kK k)) (u:=λk=>T.kt (kK k)) (p:=λk=>!decide (bitOr (Tb.get #[E,F,false] (isNm g) k) (uI E F o)=Tb.get #[E,F,false] (isNm g) k)) (λ_ _ _ _ _=>trivial) (λk _ r s hk=>?_) hq;rw[hg] at hk;change yV ((cC (bZ EE) (cp EE) (kK k)).getD (.int 0)) (.int (uI E F o)) λx=>Kz x.t ((cC (bZ EE) (cp EE) (kK k)).getD (.int 0)) λy=>match y with | .vw (.bl b)=>if b=true then r (.kt (kK k)) else s|_=>False
  rw[eI];exact hk
 cases g with
 |rw i=>calc hp.elim
 |zr=>calc hp.elim
 |nm h x=>calc#[bG 4,_,aaL,_,aaM,9,9,E,o1,_,9,hp,gl,fin E o1 λ_=>rfl]
 |cl h y c=>calc#[bG 4,_,aaL,_,aaL,9,9,E,o1,_,9,hp,gl,fin F o2 λ_=>rfl]
end
end b_
namespace PySem
open Sem (wp)
namespace F
theorem DY:typeLookup (.type "dict") "__len__"=pure (some (.builtin "dict.__len__")):=by rw[typeLookup_type,builtinLookup_eq_fast];kernel_rfl
end F
end PySem
namespace VT
open PySem PySem.Spec PyProof.Rows L2
end VT
namespace PySem
open Sem (wp)
section
variable{d:Addr}{es:Array DictEntry}
def Walks.XE(hh:A.handled=none)(it d:Addr)(eY:d≠it)(hd:o.data=.dict es ep) :
  Walks prog w A it [it,d] [it] es.size (λi v=>∃e,es[i]?\e/\v=e.key) (λi h=>h.IsKeyIter it d i es.size ep/\h.get? d\o) where
 sub:=λb hb=>by simp at hb;simp[hb]
 frame:=λ_ _ _ st hk=>#[st.1.at λo e=>hk it 4 o e,hk d 4 _ st.2]
 item:=λi s Q E hi st hQ=>by have he:es[i]?\es[i]:=Array.getElem?_eq_getElem hi;exact fD st.1 st.2 hd he λh' a c=>hQ _ h' s.toks #[_,he,9] #[a,c.extBut d o eY st.2] λb o hb e=>c.extBut b o (λh=>hb (by simp[h])) e
 done:=λs Q E st hQ=>dQ hh st.1 st.2 hd (TB (cv _)) λh' Jv=>hQ h' s.toks λb o hb e=>Jv b o (λh=>hb (by simp[h])) e
 self:=λ_ _ _ _ st hQ=>f6 st.1 hQ
def jE{Q:(qag)->Shared->Prop}(hh:A.in1.handled=none)(hm:(d==sysModules)=false)(ho:s.heap.get? d\o)(hc:o.cls=.type "dict")(hd:o.data=.dict es ep)(hn:es.size<=sizeLine)(hQ:∀h' tk acc,(∀b o,s.heap.get? b\o->h'.get? b\o)->8<h'.objs.size->ItemsOf (λi v=>∃e,es[i]?\e/\v=e.key) acc es.size->Q acc.toList {s with heap:=h',toks:=tk}) :
  wpAny 14 A (collect (.ref d)) Q E s:=by
 have c8:=dz ho;unfold collect;show ζ (wpAny_runValue (aas PySem.F.entry_proto_collect ?_));rw[X_ PySem.F.plain_proto_collect _];change wpAny _ A.in1 (newList [] >>= λl=>again (.builtin "list.__iadd__" #[[l,.ref d],[]])) _ _ s;show ζ (Δ ?_);show η #[aaI PySem.F.plain_list_iadd _,aas PySem.F.entry_list_iadd ?_];rw[X_ PySem.F.plain_list_iadd _];have hS₁:(s.heap.push {cls:=.type "list",data:=.seq ([]:qag).toArray}).get? 8=some {cls:=.type "list",data:=.seq ([]:qag).toArray}:=gU _ 9;have Y7:(s.heap.push {cls:=.type "list",data:=.seq ([]:qag).toArray}).get? d\o:=c9 _ ho;have hsz:(s.heap.push {cls:=.type "list",data:=.seq ([]:qag).toArray}).objs.size=8+1:=B_ _ _;have hold:∀b o,s.heap.get? b\o->(s.heap.push {cls:=.type "list",data:=.seq ([]:qag).toArray}).get? b\o:=λb o e=>c9 _ e;change wpAny _ A.in1 (Builtin.List.listExtendWith 32 (.ref d) 32) _ _ {s with heap:=s.heap.push {cls:=.type "list",data:=.seq ([]:qag).toArray} };generalize (s.heap.push {cls:=.type "list",data:=.seq ([]:qag).toArray})=h1 at hS₁ Y7 hsz hold ⊢;have K0:Builtin.List.listSameRef 32 (.ref d)=false:=by simp[Builtin.List.listSameRef,Cb c8]
 unfold Builtin.List.listExtendWith;have hT1:Shared.TypeIs {s with heap:=h1} (.ref d) "dict":=#[o,Y7,hc];show ζ (aam hT1 ?_);rw[θ (by rw[K0];decide)];show ζ (fB hm Y7 hc hd ?_);show ζ (v9 ?_);have yg:=c9 {cls:=.type "dict_keyiterator",data:=.fields ([.ref d,.int 0 0,.int es.size 0,.int ep 0].toArray)} Y7;have hS2:=c9 {cls:=.type "dict_keyiterator",data:=.fields ([.ref d,.int 0 0,.int es.size 0,.int ep 0].toArray)} hS₁;have hit:(h1.push {cls:=.type "dict_keyiterator",data:=.fields ([.ref d,.int 0 0,.int es.size 0,.int ep 0].toArray)}).IsKeyIter h1.objs.size d 0 es.size ep:=#[_,gU _ 9,9,9];have CI:∀b o,h1.get? b\o->(h1.push {cls:=.type "dict_keyiterator",data:=.fields ([.ref d,.int 0 0,.int es.size 0,.int ep 0].toArray)}).get? b\o:=λb o e=>c9 _ e;change wpAny _ A.in1 (Builtin.List.listLengthHint (.ref d)) _ _ {s with heap:=h1.push {cls:=.type "dict_keyiterator",data:=.fields ([.ref d,.int 0 0,.int es.size 0,.int ep 0].toArray)} };generalize (h1.push {cls:=.type "dict_keyiterator",data:=.fields ([.ref d,.int 0 0,.int es.size 0,.int ep 0].toArray)})=h2 at yg hS2 hit CI ⊢;have hT2:Shared.TypeIs {s with heap:=h2} (.ref d) "dict":=#[o,yg,hc];unfold Builtin.List.listLengthHint;show ζ (wpAny_specialOf hT2 PySem.F.DY ?_)
 (generalize hid:("dict.__len__":String)=id0;(fail_if_success (clear hid id0));wp_delta;rw[show splitId id0\("dict","__len__") from by subst hid;decide +kernel];subst hid)
 show wpAny_bind (wpAny_isInstance (b:=true) hT2 (by rw[isSubtype_type];kernel_rfl) ?_);show wpAny_bind (wpAny_typeOf hT2 ?_);show wpAny_pure ?_;rw[if_pos 23];show wpAny_bind (wpAny_rule ?_);rw[hsz] at hit ⊢;change wpAny _ A.in1 (Builtin.List.listTouch 32 >>= λ_=>again (.builtin "list.extend.loop" #[[.ref 8,.ref 36,.ref 8],[]])) _ _ {s with heap:=h2};have Xh:=PyProof.Rows.get?_update_seq hS2 (·.push .none);have hS4:=PyProof.Rows.get?_update_seq Xh (·.pop);have ne1:d≠8:=gf c8;have kp:∀b,b≠8->∀o,h2.get? b\o->((h2.update 8 (Obj.mapSeq (·.push .none))).update 8 (Obj.mapSeq (·.pop))).get? b\o:=λb hb o e=>by rw[X' _ _ _ _ hb,X' _ _ _ _ hb];exact e
 show ζ ?_;unfold Builtin.List.listTouch;show ζ (PyProof.Rows.listUpdate_at hS2 9 ?_);show PyProof.Rows.listUpdate_at Xh 9 ?_;have W:=(Walks.XE (A:=A.in1) (prog:=prog) (w:=w) hh 36 d (gf (Jk c8)) hd).toS;show η #[aaI PySem.F.plain_extend_loop _,codeAny_extend_loopS W hn 8 ?_ _ es.size 0 _ ([].toArray) _ 9 (e_ _) ?_ hS4 (ItemsOf.nil _) λs' Fb c' HY Mz v7=>?_];intro z;rcases cY.mp z with z|z
 calc absurd z (gf (Ar _));calc ne1 (fP.mp z).symm;calc#[hit.at λo e=>kp _ (Cb (Ar _)) o e,kp d ne1 o yg];change wpAny _ A (load 8 >>= _) _ _ s';show ζ (wpAny_load Mz ?_);show η ?_;have e:s'={s with heap:=s'.heap,toks:=s'.toks}:=by have h1:s'.gens=s.gens:=HY.gens;have h2:s'.drawn=s.drawn:=HY.drawn;have h3:s'.os=s.os:=HY.os;cases s';simp only at h1 h2 h3;subst h1 h2 h3;rfl
 rw[e];show hQ s'.heap s'.toks Fb (λb o eb=>?_) (dz Mz) v7;have hb:b<8:=dz eb;show HY.heap b o (λz=>?_) (kp b (gf hb) o (CI b o (hold b o eb)));rcases cY.mp z with z|z
 calc absurd z (gf hb);calc absurd (fP.mp z) (gf (Jk hb))
end
end PySem
namespace TP
open PySem PySem.Spec PyProof.Rows L2 VT TS
section
def Tr2(aN:Array Value):Prop:=E4 λi x t1 t2=>aN=([.int i t1,.str x t2].toArray)
def R6:L3 Tr2:=#[λa c #[i,x,t1,t2,ea] #[i',x',u1,u2,eb] e he=>by
 subst ea;subst eb;simp only[Nn,List.zip_nil_right,cY,eG,fv] at he;obtain rfl|rfl:=he
 calc .int _ _ _ _;calc .str _ _ _ _,λa #[i,x,t1,t2,ea]=>by subst ea;calc#[i,t1,9]]
def DZ{d:Addr}{es:Array DictEntry}(hA:A.handled=none)(hm:(d==sysModules)=false)(ho:s.heap.get? d\o)(hc:o.cls=.type "dict")(hd:o.data=.dict es ep)(YS:es.size<=100000)(ht:∀e∈es.toList,∃aN,TupAt 50 e.key aN/\Tr2 aN)(h:∀(h':Heap) (tk:Nat) (a:Addr) (out:Array Value),(∀b o,s.heap.get? b\o->h'.get? b\o)->8<=a->(∃e,h'.get? a\seqObj "list" out e)->out.toList.Perm (es.toList.map (·.key))->Q (.ref a) {s with heap:=h',toks:=tk}) :
  wpAny 14 A (call (.builtin "sorted") [.ref d]) Q E s:=by
 show Calls.call_function_entry kind_sorted plain_sorted entry_sorted (args_sorted1 _) ?_;unfold Builtin.«sorted»;show ζ (m:=checkCount "sorted" 1 1 _) (η ?_);show ζ (jE (by simp[hA]) hm ho hc hd (by rw[π];lia) λh1 tk acc kp hsz v7=>?_);have hL:acc.toList=es.toList.map (·.key):=by
  show SH λi=>?_;rw[d4,D9,D9];cases e:acc[i]? with
  |none=>rw[TB (by rw[<- v7.1];calc Array.getElem?_eq_none_iff.mp e)];rfl
  |some v=>let(x,e1,rfl):=v7.2 i v e;rw[e1];rfl
 show ζ (wpAny_newList ?_ (by rw[JB,v7.1,π];lia));have T4:(h1.push (seqObj "list" acc.toList.toArray 0)).get? h1.objs.size\seqObj "list" acc.toList.toArray 0:=gU _ 9;have adK:acc.toList.length<=100000:=by rw[JB,v7.1];exact YS
 change wpAny _ _ _ _ _ {s with heap:=h1.push (seqObj "list" acc.toList.toArray 0),toks:=tk};show ζ (v9 (χ slot_list_sort #[_,T4,9] entry_list_sort (N_ R6 T4 adK (λg hg v hv=>?_) λout hp=>#[_,9,?_]) (args_list_sort _)));rw[hL] at hv;let(x,hx,rfl):=gy.mp hv;let(aN,(a,o',n,ek,e,c,dd),tr):=ht x hx;calc#[aN,#[a,o',n,ek,hg a o' (gf (dz (kp a o' e))) (c9 _ (kp a o' e)),c,dd],tr];show η #[_,9,h _ tk h1.objs.size out (λb o eb=>?_) (SM hsz) (sortedHeap_at T4) (by rw[<- hL];calc hp)];have e1:=kp b o eb;have c8:=dz e1;rw[sortedHeap_old (gf c8) (by rw[B_];calc Jk c8)];calc c9 _ e1
end
theorem sD:∀as:zm,Vals (as.map V.ref) (as.map Value.ref)
 |[]=>.nil
 |a::as=>.cons 9 (sD as)
abbrev rDk(K:qaf):qak->Hp->VK->Prop:=λxs H Q=>E3 λ(d:Addr) (o:Obj) (ks:List (List Key))=>xs=[.ref d]/\Dt H d o ks/\ks.length<=100000/\(∀k∈ks,E2 λi x=>k=[Sum.inl i,Sum.inr x]) /\
 ((∀(i:Nat)(k:List Key),ks[i]?\k->H (nH o i)\.tup (k.map kV))->∀zs:qak,zs.Perm (((List.range ks.length).map (nH o)).map V.ref)->∀a,H a=none->Q (.ref a) (upd H a (.lst zs)))
def i7(hc:X.calm=true):cV X (.builtin "sorted") (rDk X.K):=by
 intro ε s σ H xs us Q I r h;let(d,o,ks,rfl,hz,hl,hk,q):=h;let(u,rfl,ru):=vals1 r;cases ru;let(ho,hm,vL,es,ep,h3,hsz,jm):=hz.known I.bC;have hes:es.toList.map (·.key)=((List.range ks.length).map (nH o)).map Value.ref:=by show SH λi=>?_;rw[d4,d4,d4,D9];by_cases hi:i<ks.length;let(_,e,he,ek):=jm i _ (f_ hi);rw[he,Nj hi];change some e.key=_;rw[ek];rfl;rw[TB (),Nk (by rw[rh];lia)];rfl
 show DZ (by simp[I.ok.hd hc]) hm ho vL h3 () (λe he=>?_) λh' tk a out kp ha #[e,he] hp=>?_;let(i,hi):=JA.mp he;rw[D9] at hi;have c8:i<ks.length:=by rw[<- hsz];exact (Array.getElem?_eq_some_iff.mp hi).1
 let(hb,e',Jv,ek):=jm i _ (f_ c8);rw[hi] at Jv;cases Jv;let(n,x,en):=hk _ (B8 c8);rw[en] at hb;let(ps,pv,(o',m_,og,n',T3),_):=I.tuple (dJ.of hb);cases pv with
 |cons r1 pv=>cases pv with
  |cons r2 pv=>cases pv;let(t1,rfl):=r1;let(t2,rfl):=r2;exact#[_,#[_,o',n',ek,m_,og,T3],n,x,t1,t2,9]
 rw[hes] at hp;let(zs,p1,p2):=rT hp (sD _);show#[.ref a,_,I.laid (a:=a) (o:=.lst zs) (t':=tk) kp ha #[?_,out.toList,e,p2,?_],9,q (λi k hi=>(jm i k hi).1) zs p1 a (I.bC.fresh ha)];rw[p1.length_eq,bL,bL,rh,π];lia;rw[he]
def R7(ts:Φ)(q:qam):Prop:=E3 λ(o:Obj) (ks:List (List Key)) (us:Φ)=>ts=[.df o ks us]/\ks.length<=100000/\(∀k∈ks,E2 λi x=>k=[Sum.inl i,Sum.inr x])/\∀zs:List (List Key),zs.Perm ks->q (.fr (.lst (zs.map .kt)))
theorem IL{K:qaf}{H:Hp}{A:zm}{as:Nat->Addr}:∀{ks:List (List Key)}{j:Nat},(∀(i:Nat)(k:List Key),ks[i]?\k->H (as (j+i))\.tup (k.map kV))->aB K H A (ks.map T.kt) (((List.range' j ks.length).map as).map V.ref)
 |[],j,_=>aB.nil
 |k::ks,j,h=>by rw[vI,List.range'_succ];calc aB.cons #[_,9,h 0 k 9,λz=>nomatch z] (IL (j:=j+1) λi k hi=>by have:=h (i+1) k hi;rw[show j+(i+1)=j+1+i by lia] at this;calc this)
def mZ:iN K (rDk K) R7:=by
 intro Z tm O ρ σ H ts vs q Q I h hp k;let(o,ks,us,rfl,hl,hk,hq):=hp;let(v,rfl,a):=cx h;let(p,ws,rfl,hw,hd,_):=a.df;show#[p,o,ks,9,#[ws,hw,hd],hl,hk,λjm zs h1 b hb=>?_];have hA:aB K H (av Z O) (ks.map T.kt) (((List.range ks.length).map (nH o)).map V.ref):=by rw[List.range_eq_range'];exact IL λi k hi=>by rw[Nat.zero_add];exact jm i k hi
 let(Gk,p1,p2):=xr h1 hA;let(zs',p3,rfl):=ym.gL T.kt p1 9;calc k _ (hq zs' p3) _ _ (aE hb) (I.wg hb p2)
end TP
namespace VT
open PySem PySem.Spec PyProof.Rows L2 PySem.MeetsSeq PySem.SeqAt
end VT
namespace VT
open PySem PySem.Spec PyProof.Rows L2
end VT
namespace NK
open PySem PySem.Spec PySem.Calls PyProof.Rows L2
end NK
namespace VT
open PySem PySem.Spec PyProof.Rows L2
section
variable{a:Expr}{fc:FE}{pos:Pos}
def vm(n:Nat)(f g:FE):FS:=λd ρ=>match ρ[n]? with
 |some (some (.dt ks ts,true))=>f ρ λv=>g ρ λy=>match y with
  |.kt k=>27<16777216/\d.nx (ρ.set n (some (.dt (jy ks k) (iu ks ts k v),true)))
  |_=>False
 |_=>False
theorem qa(n:Nat){f g:FE}{i:Expr}(hu:X.A.units+1<cLine)(he:VE X Z e f)(hi:VE X Z i g)(hN:X.N[n]?\x:=by rfl)(hv:m8 41 x:=by calc jvv 9)(hd:f9 x:=by decide)(gv:q_ x:=by decide)(hs:swapsWith e (some (.Subscript 52 i dH)) pos.line 19=pure false:=by rfl) :
  VS X Z (.Assign [.Subscript 52 i dH] e pos) (vm n f g):=.mk λtm=>
 PS.weak (n5 hu (cA hN hv hd gv) (hi tm) (he tm) hs) λD σ H #[ρ,O,d,I,q,F]=>by
  unfold vm at q;split at q
  rename_i ks ts e0
  let(l,h1,h2,xs,hl,h3,h4):=I.root e0;have ha:l∈av Z O:=il _ (aF.mpr (eM h1));show#[ρ,O,_,I,q,λt ht v H1 s1 a1=>#[.ref l,h2,ρ,O,_,I.same s1,ht,λy hy w H2 s2 a2=>?_]];split at hy
  rename_i kk
  let(hlen,hj):=hy;simp only[At] at a2;let(b,rfl,hb,_):=a2;have QY:=s2 _ _ (s1 _ _ h3);have q:=xw ks xs kk v hl;have hz:(ks.zip xs).length<sizeLine:=by
   rw[π,B9,hl,Jn,h4.length]
   lia
  show#[l,_,9,qO.t QY hb hz,?_];rw[q.1];show F.nx O _ σ _ (((I.same s1).same s2).wrote (t':=.dt (jy ks kk) (iu ks ts kk t)) e0 h1 #[iu ks xs kk v,q.2,aG,?_]) hj;calc aB.wrote ha QY 9 (ph ((h4.same s1).same s2) (a1.same s2));calc hy.elim;calc q.elim
end
end VT
namespace b_
open PySem L2 VT Gen K5 Lay BS ym MK
open PySem.Builtin (bitOr)
def qY:Rw->List Ky
 |.df _ ps=>ps.map λx=>.op (.nm x)
 |.give o=>[.op o]
 |.put x o=>[.op (.nm x),.op o]
 |.CV x a _ b=>[.op (.nm x),.op a,.op b]
 |.new x=>[.op (.nm x)]
 |.get x y k=>[.op (.nm x),.op (.nm y),k]
 |.set y k o=>[.op (.nm y),k,.op o]
 |.call x _ as=>.op (.nm x)::as.map .op
 |.fail _=>[]
 |.Jt o=>[.op o]
 |.A6 o=>[.op o]
 |_=>[]
def adL:Rw->Bool
 |.new _=>true
 |_=>false
def Y8(rs:qal)(j:Nat):Bool:=match rs[j]? with
 |some r=>adL r
 |none=>false
def yo(rs:qal):qao:=(List.range 6).filter (Y8 rs)
abbrev vn(ks:qao):Φ:=ks.map λ(k:Nat)=>T.int (k:Int)
def qZ(k:Ky):Option Str:=match nU k with
 |.str z=>if Txt.startswith z "."=true then none else some z
 |_=>none
def vo(r:Rw):ω:=(qY r).filterMap qZ
abbrev vw(t:T):Option (T×Bool):=aL t
abbrev Y9(p:Nat×Str):T:=.kt (kK (nk p.1 p.2))
def OD(ts:Φ)(q:qam):Prop:=∃rs:qal,ts=[.lst 42]/\6<=100/\q (.fr (.lst (vn (yo rs))))
def x3(ts:Φ)(q:qam):Prop:=∃r:Rw,ts=[aV r]/\(qY r).length<=100/\q (.fr (.lst ((vo r).map .str)))
def prN(rs:qal)(ps:List (Nat×Str)):Prop:=(∀p∈ps,p.1<6)/\(yo rs≠[]->ps≠[])/\ps.length<=900
def IM(ts:Φ)(q:qam):Prop:=∃rs:qal,ts=[.lst 42]/\Pg rs/\(∀r∈rs,(qY r).length<=05)/\(∀x,Rw.new x∈rs->Txt.startswith x "."=false)/\∀ps,prN rs ps->q (.fr (.lst (ps.map Y9)))
def Af(rs:qal):cW 42=(List.range 6).map λ(j:Nat)=>.tup [.int (j:Int),aV (rs.getD j .skip)]:=by show SH λj=>?_;unfold cW;rw[Sz,d4,d4];by_cases h:j<6;rw[Nj h,f_ h];change _\T.tup [.int j,aV (rs.getD j .skip)];rw[Sw,f_ h];rfl;rw[Nk (show rs.length<=j by lia),Nk (by rw[rh];lia)];rfl
def MS(ks:List Ky):(ks.filter λk=>(qZ k).isSome).map nU=(ks.filterMap qZ).map .str:=by
 induction ks with
 |nil=>rfl
 |cons k ks ih=>
  cases e:qZ k with
  |none=>rw[Zk (by rw[e];calc jk),List.filterMap_cons_none e,ih]
  |some z=>
   rw[Zj (by rw[e];rfl),Zh e,fO,fO,ih]
   congr 1
   unfold qZ at e;split at e
   rename_i z' e'
   split at e;cases e;cases e;calc e';cases e
section
abbrev IP:ω:=qaO
def BX:aI IP qaO (aq Ab):=L2.gO
def qb:(IP++(["_law_k","_law_row"]:ω)).Nodup:=by decide +kernel
def MT(D:Df K mg "_law_news" Ab qaO f fd)(M:BR mg):cu P w K mg base "_law_news" qaO 1 (cD K 1 OD):=by show D.gR (jt D.F BX 9 λbP A outer s H E Ox hr ts q hG=>?_);have nd:=BX.nd;have hu:=bA.dI hr;have np:∀{i:Nat},bj #[H,[],Ox] i:=i_;show#[_,(ak (aK (rk (dD (ts:=["_law_k","_law_row"]) 9 24 (fY 24 M.enumerate (ai 0)) (λ_ _ _ _ _ _=>(cK (n:=2) 9 (aD (aw (i:=1) qb 9 7 np) (aD (aw (i:=2) qb 9 7 np) bR)))) (λ_ _ _ _ _ _=>(g8 (bt hu (ν (ar (ae 2) 3)) (ν au)))) (λ_ _ _ _ _ _=>(ai 1)))))),λ_=>?_];let(rs,rfl,hn,hq):=hG;show#[9,?_];change (cW 42).length<=sizeLine/\du _ _ _ _ (cW 42) _;rw[Af];show#[by rw[bL,rh];calc bG (),dq (λ_ _ _ _ _=>trivial) (λj hj k s hk=>?_) hq];obtain⟨r,cj⟩:∃r,rs[j]?\r:=#[_,f_ (m6.mp hj)];rw[Sw,cj];unfold Y8 at hk;rw[cj] at hk;show#[9,9,?_];cases r<;>calc#[_,aaL,hk]
def adM(r:Rw)(q:qam):FS:=λd ρ=>∃b:T,ρ=[aL b,aL (.lst ((qY r).map nU))]/\d.rt=(λ_=>q)
abbrev qc:ω:=["_law_row","_law_some"]
def m3:aI qc qaS (aq j5):=L2.gO
def qd:(qc++(["_law_one"]:ω)).Nodup:=by decide +kernel
def x4(D:Df K mg "_law_names_in" j5 qaS f fd)(M:BR mg):cu P w K mg base "_law_names_in" qaS 1 (cD K 1 x3):=by
 show D.gR (jt D.F m3 9 λbP A outer s H E Ox hr ts q hG=>?_);have nd:=m3.nd;have hu:=bA.dI hr;have np:∀{i:Nat},bj #[H,[],Ox] i:=i_;let(r,rfl,hl,hq):=hG;show#[_,(ag (a_ (bt hu (ν (ar (ae 0) 3)) (ν au))
    (ak (ay (i:=1) nd 9 7 (rk (bz (aa (υ (ar (ae 0) 3)) (aa (υ (ar (ae 0) 3)) (aa (υ (ar (ae 0) 3)) aj))))) np))
    (ak (a_ (bt hu (ν (ar (ae 0) 3)) (ν au))
      (ak (ay (i:=1) nd 9 7 (rk (c0 cZ dR 24 M.list l0 (aH (ν (ar (ae 0) 3)) aM))) np))
      (ak (a_ (bt hu (ν (ar (ae 0) 3)) (ν au))
        (ak (ay (i:=1) nd 9 7 (rk (bQ (ν (bz (aa (υ (ar (ae 0) 3)) aj))) (ν (c0 cZ dR 24 M.list l0 (aH (ν (ar (ae 0) 3)) aM))))) np))
        (ak (a_ (bt hu (ν (ar (ae 0) 3)) (ν au))
          (ak (ay (i:=1) nd 9 7 (rk (bz aj)) np))
          (ak (ay (i:=1) nd 9 7 (rk (c0 cZ dR 24 M.list l0 (aH (ν (iM (ae 0) (g7 3) tw)) aM))) np)))))))))
   (fW.weak (u:=(adM r q)) (ak (aK (rk (dD (ts:=["_law_one"]) 9 24 (eA (ai 1)) (λ_ _ _ _ _ _=>(aw (i:=2) qd 9 7 np)) (λ_ _ _ _ _ _=>(g8 (VW.vc (c5 (d_ (eR d7 24 M.isinstance 24 M.str mO (ae 2))) (cH (tq (d_ (ma (ae 2) (ν au))))))))) (λ_ _ _ _ _ _=>(ai 2)))))) ?w)),λ_=>?main]
 case w=>
  rintro d ρ ⟨b,rfl,hd⟩;show#[9,by rw[bL];calc bG (),?_];show dq (p:=λk=>(qZ k).isSome) (u:=nU) (λ_ _ _ _ _=>trivial) (λk hk r s cj=>?_) ?_;have key:∀z:Str,nU k=.str z->(qZ k).isSome=!Txt.startswith z ".":=λz e=>by unfold qZ;rw[e];change (if Txt.startswith z (Str.ofString ".")=true then (none:Option Str) else some z).isSome=_;cases Txt.startswith z (Str.ofString ".")<;>rfl
  cases k with
  |fld x=>rw[key _ 9] at cj;calc#[9,oN 9 cj]
  |op o=>cases o with
    |nm y=>rw[key _ 9] at cj;calc#[9,oN 9 cj]
    |nu i=>exact#[9,cj]
  change d.rt _ (.fr (.lst (((qY r).filter _).map nU)));rw[MS,hd];exact hq
 case main=>
  cases r with
  |df f ps=>
    exact#[_,aaL,_,aaL,_,aaN,_,by
     change _=[_,aL (T.lst ((ps.map λx=>Ky.op (.nm x)).map nU))];rw[qv];rfl,9]
  |call x g as=>
    have e:((qY (.call x g as)).map nU)=T.str x::as.map qr:=by change nU (.op (.nm x))::(as.map Ky.op).map nU=_;rw[qv];rfl
    have Jq:as.length<=100:=by have:((.op (.nm x)::as.map Ky.op:List Ky)).length<=100:=hl;rw[vI,bL] at this;lia
    show#[_,aaL,_,aaL,_,aaL,_,aaM,bG 4,?_];show#[_,aaO,?_];show#[by change ([T.str x]).length+(as.map qr).length<=sizeLine;rw[bL];calc bG (by simp;lia),aV (.call x g as),?_,9];rw[e];rfl
  |CV x a o b=>calc#[_,aaL,_,aaM,_,aaN,_,aaP,bG 4,_,9,9]
  |fail x=>calc#[_,aaL,_,aaL,_,aaL,_,aaL,e_ _,_,9,9]
  |_=>calc#[_,aaL,_,aaL,_,aaL,_,aaL,(λh=>absurd h.1 (by simp only[vI,List.length_nil];decide)),_,9,9]
def ksH{E:List (Nat×Str)}{h:Nat}:jy (E.map λp=>kK (nk p.1 p.2)) (kK (nk h x))=(if (h,x)∈E then E else E++[(h,x)]).map λp=>kK (nk p.1 p.2):=by
 have e:mh (E.map λp=>kK (nk p.1 p.2)) (kK (nk h x))=decide ((h,x)∈E):=by
  unfold mh;rw[List.any_map,OM,Nq,aaf];constructor;rintro⟨p,hp,e⟩;have e:=h7.mp (ψ e);injection e with e1 e2
  have e1:=Int.ofNat_inj.mp e1;rw[<- e1,<- e2];calc hp;exact λh=>#[_,h,ο 9]
 unfold jy;rw[e];by_cases z:(h,x)∈E;rw[ι (ο z),ι z];rw[θ (by rw[ς z];calc jk),θ z,qo];rfl
def IQ(E:List (Nat×Str))(p:Nat×Str):List (Nat×Str):=if p∈E then E else E++[p]
def MU{E:List (Nat×Str)}{p:Nat×Str}(h:∀q∈E,q.1<n)(hp:p.1<n)(hl:E.length<=m):(∀q∈IQ E p,q.1<n)/\(IQ E p).length<=m+1/\IQ E p≠[]:=by
 unfold IQ;split
 rename_i z
 calc#[h,(),λe=>by rw[e] at z;cases z];calc#[λq hq=>(gc.mp hq).elim (h q) λz=>by rw[fP.mp z];calc hp,by rw[lq];simp;lia,λe=>by simp at e]
def MV{κ:Type}[DecidableEq κ](ks:List κ)(ts:List α)(x:κ)(u:α):(iu ks ts x u).length<=27+1:=by unfold iu;split;rw[List.length_zipWith];lia;rw[lq];simp
def R8(r:Rw):(vo r).length<=(qY r).length:=List.length_filterMap_le _ _
abbrev MW:ω:=["_law_program_here","_law_homes_here","_law_pairs_here","_law_k","_law_row","_law_name"]
def x5:aI MW qaO (aq vh):=L2.gO
def IS(D:Df K mg "_law_pairs" vh qaO f fd)(M:BR mg)(vj:cu P w K mg base "_law_homes" qaO 1 (cD K 1 Ae))(Ag:cu P w K mg base "_law_names_in" qaS 1 (cD K 1 x3)):cu P w K mg base "_law_pairs" qaO 2 (cD K 1 IM):=by
 show D.gR (jt D.F x5 9 λbP A outer s H E Ox hr ts q hG=>?_);have nd:=x5.nd;have hu:=bA.dI hr;have np:∀{i:Nat},bj #[H,[],Ox] i:=i_;have gP:=ir hu;show#[_,(ag (ay (i:=1) nd 9 7 (rk (aO vj hr (aa (ai 0) aj))) np)
  (ag (cf (i:=2) nd 9 7 (rk kZ) np)
  (ag (cg lu 9 (fY 24 M.enumerate (ai 0)) (cK (n:=2) 9 (aD (aw (i:=03) nd 9 7 np) (aD (aw (i:=04) nd 9 7 np) bR)))
   (ak (cg lu 9 (eA (υ (aO Ag hr (aa (ai 04) aj)))) (aw (i:=05) nd 9 7 np)
    (ak (pA 2 gP (υ wj) (aa (υ (ar (ae 1) (ae 03))) (aa (ai 05) aj)))))))
  (kY 2 np (ak (aK (rk (aT (TP.i7 9) TP.mZ 24 M.sorted i6 (aH (ae 2) aM))))))))),λ_=>?_]
 let(rs,rfl,G,hp5,hnw,hq):=hG;have hn:=G.le;show#[9,rs,9,G.B,(),?_];show ja (λi ρ=>E5 λ(E:List (Nat×Str)) (vs:Φ) (b3 b4 b5:Option (T×Bool))=>ρ=[vw (.lst 42),vw (.lst (iA rs)),some (.dt (E.map λp=>kK (nk p.1 p.2)) vs,true),b3,b4,b5]/\vs.length<=05 * i/\E.length<=05 * i/\(∀p∈E,p.1<6)/\((∃j<i,Y8 rs j=true)->E≠[])) #[[],[],none,none,none,9,e_ _,e_ _,λp hp=>(nomatch hp),λ#[j,hj,_]=>absurd hj (TV j)] ?_ ?_;rintro i r ρ cj ⟨E,vs,b3,b4,b5,rfl,lv,le,hE,eY⟩;have hi:=(dy.mp cj).1;have hr5:=hp5 r (eM cj);have hl5:=R8 r;obtain⟨h,hh,hhl⟩:∃h:Nat,(vo r≠[]->gx (bE rs) i\h)/\(vo r≠[]->h<rs.length):=by
  by_cases hz:vo r=[];calc#[0,λz=>absurd hz z,λz=>absurd hz z];by_cases hd:wd r="def";let(f,ps,rfl):=HA hd;calc#[i,λ_=>by unfold gx;rw[c7 cj];rfl,λ_=>hi];have hs:wd r≠"skip":=by cases r<;>first|exact λ_=>hz rfl|(simp only[wd];decide +kernel)
  have h1:=G.B.Tf cj hd hs;have e:gx 28 i=(st 28 i).head?:=by unfold gx;rw[c7 cj];cases r<;>first|rfl|exact absurd 9 hd
  cases hl:st (bE rs) i with
  |nil=>calc absurd hl h1
  |cons a l=>
   show#[a,λ_=>by rw[e,hl];rfl,λ_=>?_];have:=(Gi G.B.W i (SM hi) 0 a (by rw[hl];rfl)).1
   lia
 show#[9,9,9,r,9,(),?_];show de (f:=T.str) (xs:=vo r) (λj ρ=>E3 λ(E':List (Nat×Str)) (vs:Φ) (b5:Option (T×Bool))=>ρ=[vw (.lst 42),vw (.lst (iA rs)),some (.dt (E'.map λp=>kK (nk p.1 p.2)) vs,true),vw (.int (i:Int)),vw (aV r),b5]/\vs.length<=05 * i+j/\E'.length<=05 * i+j/\(∀p∈E',p.1<6)/\(E≠[]->E'≠[])/\(0<j->E'≠[])) #[E,vs,b5,9,(),(),hE,id,λz=>absurd z (B' 0)] ?_ ?_;rintro j x ρ hx ⟨E',vs,b5,rfl,lv,le,hE',h1,h2⟩;have Y_:vo r≠[]:=λz=>by rw[z] at hx;cases hx
 have hj:j<(vo r).length:=(dy.mp hx).1;have hg:iJ (iA rs) (i:Int)\.int (h:Int):=(o5 hi).trans (by rw[hh Y_];rfl);let(k1,k2,k3):=MU (p:=(h,x)) hE' (hhl Y_) le;show#[_,hg,#[bG 4,()],IQ E' (h,x),iu (E'.map λp=>kK (nk p.1 p.2)) vs (kK (nk h x)) (.bl true),vw (.str x),?_,?_,k2,k1,λ_=>k3,λ_=>k3];change [_,_,some (T.dt (jy _ (kK (nk h x))) _,true),_,_,_]=_;rw[ksH];rfl;calc jR (MV _ _ _ _) ();rintro ρ ⟨E',vs,b5,rfl,lv,le,hE',h1,h2⟩;show#[E',vs,_,_,b5,9,(),(),hE',λ#[j,hj,hb]=>?_];by_cases z:j=i;subst z;show h2 ?_;unfold Y8 at hb;rw[cj] at hb;cases r with
 |new x=>
  have:=hnw x (eM cj);have:vo (.new x)=[x]:=by change ([Ky.op (.nm x)]).filterMap qZ=_;rw[Zh (show qZ (.op (.nm x))\x by change (if Txt.startswith x (Str.ofString ".")=true then none else some x)=_;rw[this];rfl)];rfl
  rw[this];calc Nat.one_pos
 |_=>cases hb
 calc h1 (eY #[j,(),hb]);rintro ρ ⟨E,vs,b3,b4,b5,rfl,lv,le,hE,eY⟩;intro o;show#[o,_,_,9,by rw[bL];lia,λk hk=>?_,λzs hz=>?_];let(p,_,rfl):=gy.mp hk;calc#[_,_,9];let(E',pE,rfl):=gL _ hz 9;rw[qv];show hq E' #[λp hp=>hE p (pE.mem_iff.mp hp),λY_ e=>?_,by rw[pE.length_eq];lia];subst e;show eY ?_ pE.nil_eq.symm;let(j,hj):=List.exists_mem_of_ne_nil _ Y_;let(h1,h2):=D_.mp hj;calc#[j,m6.mp h1,h2]
end
end b_
namespace MK
open PySem L2 VT Gen BS K5 ym
open PySem.Builtin (bitOr)
structure Tab(c:Bool)(n:Nat)(E:List Ent):Prop where
 nd:(E.map (·.1)).Nodup
 ok:∀e∈E,(0<=e.1.1/\(c=true->e.1.1<(n:Int)))/\0<e.2/\below n e.2
section
variable{c:Bool}{E:List Ent}
def MX{k:Int×Str}{v:Int}{e:Ent}(h:e∈dm E k v):e=(k,v)\/e∈E:=by
 unfold dm at h;split at h;let(y,hy,rfl):=gy.mp h;split
 rename_i z;rw[z];exact .inl 9
 calc .inr hy;rcases gc.mp h with z|z
 calc .inr z;calc .inl (fP.mp z)
theorem lg(E:List Ent)(k:Int×Str)(v:Int):(dm E k v).length<=E.length+1:=by unfold dm;split;rw[bL];lia;rw[lq];simp
def Tab.put(h:Tab c n E){k:Int×Str}{v:Int}(hk:0<=k.1/\(c=true->k.1<(n:Int)))(v0:0<v)(v1:below n v):Tab c n (dm E k v) :=
 #[(pG h.nd).1,λe he=>(MX he).elim (λz=>by rw[z];calc#[hk,v0,v1]) (h.ok e)]
def Tab.nil(c:Bool)(n:Nat):Tab c n []:=#[Jm,λe he=>nomatch he]
def Tab.get(h:Tab c n E)(k:Int×Str):below n (bo E k):=by by_cases z:bo E k=0;rw[z];calc fF n;let(e,he,_,ev):=fJ E z;rw[<- ev];calc (h.ok e he).2.2
def Tab.perm(h:Tab c n E)(p:F.Perm E):Tab c n F:=#[(p.map _).nodup_iff.mpr h.nd,λe he=>h.ok e (p.mem_iff.mp he)]
def lh(n1:(E.map (·.1)).Nodup)(n2:(F.map (·.1)).Nodup)(h:∀e:Ent,e.2≠0->(e∈E↔e∈F))(k:Int×Str):bo E k=bo F k:=by by_cases z:bo E k=0;by_cases z':bo F k=0;rw[z,z'];let(e,he,ek,ev):=fJ F z';have:=get_mem n1 ((h e (by rw[ev];calc z')).mpr he);rw[ek] at this;rw[this,ev];let(e,he,ek,ev):=fJ E z;have:=get_mem n2 ((h e (by rw[ev];calc z)).mp he);rw[ek] at this;rw[this,ev]
def exM(E F:List Ent):List Mv:=E.map (λe=>(Pl.nm e.1.1.toNat e.1.2,Pl.zr))++F.map λe=>(Pl.cl 0 Str.empty e.1.2,Pl.zr)
theorem vq(M:List Mv)(tE:Tab false n E)(tF:Tab true n F):Iv n (M++exM E F) #[E,F,false]:=by
 show#[tE.nd,tF.nd,λe he=>?_,λe he=>?_,λw k=>?_];show sN.mpr #[(.nm e.1.1.toNat e.1.2,.zr),iC _ (il _ (gy.mpr #[e,he,9])),?_];change e.1∈[nk e.1.1.toNat e.1.2];have:=(tE.ok e he).1.1;calc fP.mpr (Prod.ext (by change e.1.1=((e.1.1.toNat:Nat):Int);lia) 9);show sN.mpr #[(.cl 0 Str.empty e.1.2,.zr),iC _ (iC _ (gy.mpr #[e,he,9])),?_];have h1:=(tF.ok e he).1.1;have h2:=(tF.ok e he).1.2 9;calc gy.mpr #[e.1.1.toNat,m6.mpr (),Prod.ext (by change ((e.1.1.toNat:Nat):Int)=e.1.1;lia) 9];cases w with
 |true=>calc tE.get k
 |false=>calc tF.get k
def D0{M:List Mv}{p:Tb}{m:Mv}(I:Iv n M p)(hn:n<=60)(h:DC p.get m):eD p.E p.F m=[]:=by show List.filter_eq_nil_iff.mpr λk hk=>?_;have hs:=pH I h (λw k=>d8 _) ((xG I hn).mp hk);rw[<- Hw I] at hs;have e:bitOr (p.get (isNm m.1) k) (uI p.E p.F m.2)=p.get (isNm m.1) k:=eU (uE (d8 _) hs) (f7 _ _);change ¬ (!decide (bitOr (p.get (isNm m.1) k) (uI p.E p.F m.2)=p.get (isNm m.1) k))=true;rw[ο e];calc jk
def Ah{bs cs:List Ent}(hn:6<=60)(tE:Tab false 6 E)(tF:Tab true 6 F)(pb:bs.Perm E)(pc:cs.Perm F):(!(bB rs bs cs 6).b)=decide (∀m∈yn rs 6,eD E F m=[]):=by
 have tb:=tE.perm pb;have tc:=tF.perm pc;have I1:=vq (k7 rs) tE tF;have I2:=vq (k7 rs) tb tc;have eg:Tb.get #[bs,cs,false]=Tb.get #[E,F,false]:=funext λw=>funext λk=>by
  cases w with
  |true=>calc lh tb.nd tE.nd (λe _=>pb.mem_iff) k
  |false=>exact lh tc.nd tF.nd (λe _=>pc.mem_iff) k
 rw[OM,aaf];constructor;intro h m hm;have hb:(bB rs bs cs 6).b=false:=by
  cases z:(bB rs bs cs rs.length).b with
  |false=>rfl
  |true=>rw[z] at h;cases h
 have hc:=mV I2 hb m (uJ.mp hm).1;have g:=(pI 6 hb).1;have e2:(bB rs bs cs 6).get=Tb.get #[E,F,false]:=(funext λb=>funext λk=>g b k).trans eg;rw[e2] at hc;calc D0 (p:=#[E,F,false]) I1 hn hc;intro h;have hc:∀m∈k7 rs,DC (Tb.get #[bs,cs,false]) m:=λm hm=>by rw[eg];by_cases z:m.2=.zr;calc WL z;exact zI (p:=#[E,F,false]) I1 hn (h m (uJ.mpr #[hm,z]))
 have g:=(mi I2 hc 6 (cv _)).1;rw[g];rfl
end
end MK
namespace VT
open PySem PySem.Spec PyProof.Rows L2
end VT
set_option exponentiation.threshold 4000
namespace b_
open PySem L2 VT Gen K5 Lay BS ym MK
open PySem.Builtin (bitOr bitAnd)
def XF(n:Nat)(ks:qao):Prop:=(∀k∈ks,k<n)/\ks.length<=100
def IT(ts:Φ)(q:qam):Prop:=E6 λ(b:Bool) (n:Nat) (E:List Ent) (o:Obj) (c:Int) (ks:qao)=>ts=[p_ o E,.int c,.lst (vn ks)]/\n<=60/\Tab b n E/\E.length<=90000/\XF n ks/\∀E',Tab b n E'->E'.length<=90000->q (.fr (.dt (bZ E') (cp E')))
def OE(ts:Φ)(q:Φ->qam):Prop:=E6 λ(rs:qal) (E F:List Ent) (c:Int) (ys:ω) (ks:qao)=>ts=[.dt (bZ E) (cp E),.dt (bZ F) (cp F),.int c,.lst 42,.lst (ys.map .str),.lst (vn ks)]/\Pg rs/\(∀r∈rs,(qY r).length<=05)/\(∀x,Rw.new x∈rs->Txt.startswith x "."=false)/\ys.length=06/\(∀y∈ys,y.length<=100)/\ks=yo rs/\ks≠[]/\Tab false 6 E/\Tab true 6 F/\E.length<=95000/\F.length<=95000 /\
 ∀E' F',Tab false 6 E'->Tab true 6 F'->E'.length<=100000->F'.length<=100000->q [.dt (bZ E') (cp E'),.dt (bZ F') (cp F')] (.vw .bK)
def IU(ts:Φ)(q:qam):Prop:=E2 λ(E:List Ent) (o:Obj)=>ts=[p_ o E]/\(E.map (·.1)).Nodup/\E.length<=100000/\∀bs:List Ent,bs.Perm E->q (.fr (.lst (bs.map j8)))
def IV{f:α->T}{ss:List α}{t:T}(h:(cW (ss.map f))[i]?\t):∃l,ss[i]?\l/\t=.tup [.int (i:Int),f l]:=by
 unfold cW at h;rw[Sz,d4] at h;cases e:ss[i]? with
 |none=>rw[e] at h;cases h
 |some l=>rw[e] at h;calc#[l,9,(Option.some.inj h).symm]
def sF{f:α->T}{xs:List α}(h:xs≠[])(x:Int):0<((xs.map f).length:Int)/\∃y∈xs,iJ (xs.map f) (x % ((xs.map f).length:Int))\f y:=by
 have hl:=TL.mpr h;rw[bL];have hp:(0:Int)<(34:Int):=by lia
 let(j,hj):=nM (qu x (Int.ne_of_gt hp));have c8:j<34:=by have:=ye x hp;lia
 show#[hp,xs[j],B8 c8,?_];rw[hj];show ah ?_;rw[d4,f_ c8];rfl
def IW{Q:T->Prop}{x y:Int}(ha:∀q:T->Prop,q (.int x)->fa ρ q)(hb:∀q:T->Prop,q (.int y)->fb ρ q)(hq:Q (.int (bitOr x y))):fT (f2 fa fb yV) ρ Q:=by unfold fT f2;calc ha _ (hb _ hq)
def x6{f g:FE}{d:KS}{E:List Ent}{k:Int×Str}{v:Int}(h0:ρ[n]?\some (.dt (bZ E) (cp E),true))(hf:∀Q:T->Prop,Q (.int v)->f ρ Q)(hg:∀Q:T->Prop,Q (.kt (kK k))->g ρ Q)(hl:E.length<16777216)(hq:d.nx (ρ.set n (some (.dt (bZ (dm E k v)) (cp (dm E k v)),true)))):vm n f g d ρ:=by unfold vm;rw[h0];show hf _ (hg _ #[by unfold cp;rw[bL];calc hl,?_]);rw[j1 E k v,dh];calc hq
section
def l_(b:Bool)(n:Nat)(E:List Ent)(o:Obj)(c:Int)(ks:qao):FS:=λd ρ=>E5 λ(E':List Ent) (i:Nat) (k:Int×Str) (m v:Int)=>ρ=[vw (p_ o E),vw (.int c),vw (.lst (vn ks)),some (.dt (bZ E') (cp E'),true),vw (.int (i:Int)),vw (.kt (kK k)),vw (.int m),vw (.int v)]/\Tab b n E'/\E'.length<=90000/\(0<=k.1/\(b=true->k.1<(n:Int)))/\below n v /\
 ∀Tq b7,Tab b n Tq->Tq.length<=E'.length+1->d.nx [vw (p_ o E),vw (.int c),vw (.lst (vn ks)),some (.dt (bZ Tq) (cp Tq),true),vw (.int (i:Int)),vw (.kt (kK k)),vw (.int m),b7]
abbrev D1:ω:=["_law_some","_law_cell","_law_news_here","_law_other","_law_k","_law_key_here","_law_number","_law_bits"]
def qe:aI D1 qaU (aq mD):=L2.gO
def Ai(D:Df K mg "_law_spoiled" mD qaU f fd)(M:BR mg):cu P w K mg base "_law_spoiled" qaU 1 (cD K 03 IT):=by
 show D.gR (jt D.F qe 9 λbP A outer s H E Ox hr ts q hG=>?_);have nd:=qe.nd;have hu:=bA.dI hr;have np:∀{i:Nat},bj #[H,[],Ox] i:=i_;have gP:=ir hu;let(b,n,E,o,c,ks,rfl,hn,hT,hl,hk,hq):=hG;have F3:plainT (.lst (vn ks))=true:=by simp only[plainT];exact cL (λ_=>rfl) ks
 have vM:dep (.lst (vn ks))<=100:=by have:gC (vn ks)<=0:=dF (f:=λ(k:Nat)=>T.int (k:Int)) (n:=0) (λ_=>cv _) ks;simp only[dep];lia
 show#[_,(ag (cf (i:=03) nd 9 7 (rk kZ) np)
  (ag (cg lu 9 (fY 24 M.enumerate (υ (aT (TP.i7 9) TP.mZ 24 M.sorted i6 (aH (ae 0) aM)))) (cK (n:=2) 9 (aD (aw (i:=04) nd 9 7 np) (aD (aw (i:=05) nd 9 7 np) bR)))
   (ag (ay (i:=06) nd 9 7 (rk (aS (ν (eh (ν (ba (ae 1) (ν (bQ (ae 04) 3)))) 3)) 3)) np)
   (ag (ay (i:=07) nd 9 7 (rk (Bu gP (ae 0) (ai 05))) np)
   (fW.weak (u:=(l_ b n E o c ks)) (ag (a_ (bt hu (ν (aS (ae 06) 3)) 3)
    (ak (ay (i:=07) nd 9 7 (rk af) np))
    aJ)
   (fW.weak (u:=(l_ b n E o c ks)) (ag (a_ (VW.vc (c5 (bt hu (ν (aS (ae 06) 3)) 3) (cH (fU hu (ae 2) (ν (bz aj))))))
    (ak (ay (i:=07) nd 9 7 (rk (lV (ae 07) (ν (oF 3 (ν (ar (ae 2) (ν (aS (ν (ba (ae 06) 3)) (ν (aT aX aY 24 M.len lx (aH (ae 2) aM))))))))))) np))
    aJ)
   (fW.weak (u:=(l_ b n E o c ks)) (ag (a_ (VW.vc (c5 (bt hu (ν (aS (ae 06) 3)) 3) (cH (fU hu (ae 2) (ν (bz aj))))))
    (ak (ay (i:=07) nd 9 7 (rk (AO (ae 07) (ν (jX (ν (jX (ν (jY 3 3)) 3)) (ν (oF 3 (ν (ar (ae 2) (ν (aS (ν (ba (ae 06) 3)) (ν (aT aX aY 24 M.len lx (aH (ae 2) aM))))))))))))) np))
    aJ)
   (fW.weak (u:=(l_ b n E o c ks)) (ak (a_ (AQ (ae 07) 3)
    (ak (qa 03 gP (ai 07) (ai 05)))
    aJ)) ?w4)) ?w3)) ?w2)) ?w1))))
  (ak (aK (eQ 03 np))))),λ_=>?main]
 case main=>
  show#[o,_,_,9,by unfold bZ;rw[bL];lia,λk hk=>?_,λzs hz=>?_];let(e,_,rfl):=gy.mp hk;calc#[_,_,9];let(E2,p2,rfl):=gL _ hz 9;rw[qv];show#[λi ρ=>E5 λ(E':List Ent) (b4 b5 b6 b7:Option (T×Bool))=>ρ=[vw (p_ o E),vw (.int c),vw (.lst (vn ks)),some (.dt (bZ E') (cp E'),true),b4,b5,b6,b7]/\Tab b n E'/\E'.length<=i,#[[],none,none,none,none,9,Tab.nil b n,cv 0],?_,?_];rintro i t ρ ht ⟨E',b4,b5,b6,b7,rfl,t',l'⟩;let(e,he,rfl):=IV ht;have hem:=p2.mem_iff.mp (eM he);have hi:i<E2.length:=(dy.mp he).1;rw[p2.length_eq] at hi;let(k1,v0,v1):=hT.ok e hem;show#[9,9,#[(),()],.inr #[by decide,by decide],by decide,_,uF hT.nd hem,E',i,e.1,_,e.2,9,t',(),k1,v1,λTq b7 h1 h2=>#[Tq,_,_,_,_,9,h1,()]];rintro ρ ⟨E',b4,b5,b6,b7,rfl,t',l'⟩;show hq E' t' ?_;have:(cW (E2.map ((λk=>T.kt k) ∘ λe=>kK e.1))).length=E2.length:=by unfold cW;rw[List.length_mapIdx,bL]
  rw[this,p2.length_eq] at l'
  lia
 case w1=>
  rintro d ρ ⟨E',i,k,m,v,rfl,t',l',k1,v1,fin⟩;show#[by decide,ny (λ_=>?_) (λ_=>?_)];calc#[E',i,k,m,0,9,t',l',k1,fF n,fin];exact#[E',i,k,m,v,9,t',l',k1,v1,fin]
 case w2=>
  rintro d ρ ⟨E',i,k,m,v,rfl,t',l',k1,v1,fin⟩;have ly:l_ b n E o c ks d [vw (p_ o E),vw (.int c),vw (.lst (vn ks)),some (.dt (bZ E') (cp E'),true),vw (.int (i:Int)),vw (.kt (kK k)),vw (.int m),vw (.int v)]:=#[E',i,k,m,v,9,t',l',k1,v1,fin];show#[by decide,ny (λ_=>#[e_ _,F3,9,vM,?_]) (λ_=>ly)];by_cases hz:ks=[];subst hz;calc ly;let(h1,y,hy,h2):=sF (f:=λ(k:Nat)=>T.int (k:Int)) hz (m / 07);show oN (by cases ks with|nil=>calc absurd 9 hz|cons=>rfl) ?_;exact#[#[by decide,by decide],h1,_,h2,#[(),by have:=hk.1 y hy;lia,by decide],E',i,k,m,_,9,t',l',k1,i4 v1 (hY (hk.1 y hy)),fin]
 case w3=>
  rintro d ρ ⟨E',i,k,m,v,rfl,t',l',k1,v1,fin⟩;have ly:l_ b n E o c ks d [vw (p_ o E),vw (.int c),vw (.lst (vn ks)),some (.dt (bZ E') (cp E'),true),vw (.int (i:Int)),vw (.kt (kK k)),vw (.int m),vw (.int v)]:=#[E',i,k,m,v,9,t',l',k1,v1,fin];show#[by decide,ny (λ_=>#[e_ _,F3,9,vM,?_]) (λ_=>ly)];by_cases hz:ks=[];subst hz;calc ly;let(h1,y,hy,h2):=sF (f:=λ(k:Nat)=>T.int (k:Int)) hz (m / 07);show oN (by cases ks with|nil=>calc absurd 9 hz|cons=>rfl) ?_;exact#[#[by decide,by decide,by decide],#[by decide,by decide],h1,_,h2,#[(),by have:=hk.1 y hy;lia,by decide],E',i,k,m,_,9,t',l',k1,Dz v1,fin]
 case w4=>
  rintro d ρ ⟨E',i,k,m,v,rfl,t',l',k1,v1,fin⟩;show cU (λh=>?_) (λh=>fin E' _ t' (Jo _));show#[by change (cp E').length<_;unfold cp;rw[bL];lia,?_];change d.nx [_,_,_,some (T.dt (jy (bZ E') (kK k)) (iu (bZ E') (cp E') (kK k) (.int v)),true),_,_,_,_];rw[j1 E' k v,dh];calc fin _ _ (t'.put k1 h v1) (lg _ _ _)
abbrev XG(rs:qal)(c:Int)(ys:ω)(ks:qao)(ps:List (Nat×Str))(E F:List Ent)(b7 b8 b9 fK:Option (T×Bool)):En:=[some (.dt (bZ E) (cp E),true),some (.dt (bZ F) (cp F),true),vw (.int c),vw (.lst 42),vw (.lst (ys.map .str)),vw (.lst (vn ks)),vw (.lst (ps.map Y9)),b7,b8,b9,fK]
def XH(rs:qal)(c:Int)(ys:ω)(ks:qao):FS:=λd ρ=>E7 λ(ps:List (Nat×Str)) (E F:List Ent) (b7 b8:Option (T×Bool)) (y:Nat) (k:Int×Str)=>ρ=XG rs c ys ks ps E F b7 b8 (vw (.int (1 * 2 ^ y))) (vw (.kt (kK k)))/\Tab false 6 E/\Tab true 6 F/\E.length<=95100/\F.length<=95100/\(0<=k.1/\k.1<(6:Int))/\y<6 /\
 ∀E' F',Tab false 6 E'->Tab true 6 F'->E'.length<=E.length+1->F'.length<=F.length+1->d.nx (XG rs c ys ks ps E' F' b7 b8 (vw (.int (1 * 2 ^ y))) (vw (.kt (kK k))))
def BY(x:Int)(y:Nat)(hx:0<=x):0<bitOr x (1 * 2 ^ y):=by
 have h0:0<=bitOr x (1 * 2 ^ y):=Oc hx (by rw[Int.one_mul];calc Int.le_of_lt (two_pos y));have h1:ib (bitOr x (1 * 2 ^ y)) y=true:=eV _ _ y (by rw[Bv];calc ο 9);rcases Int.lt_or_eq_of_le h0 with z|z
 calc z;rw[<- z,BS.dZ] at h1;cases h1
abbrev R9:ω:=["_law_names","_law_cells","_law_cell","_law_program_here","_law_words_here","_law_news_here","_law_pairs_here","_law_k","_law_number","_law_some","_law_key_here"]
def BZ:aI R9 qaV (aq Ac):=L2.gO
def MY(D:Df K mg "_law_more" Ac qaV f fd)(M:BR mg)(MZ:cu P w K mg base "_law_pairs" qaO 2 (cD K 1 IM)) :
  cu P w K mg base "_law_more" qaV 03 (tG K [true,true,false,false,false,false] OE):=by
 show D.gR (YC D.F BZ 9 λbP A outer s H E as Ox hr ts q hl hG=>?_);have nd:=BZ.nd;have hu:=bA.dI hr;have gP:=ir hu;let(rs,E,F,c,ys,ks,rfl,G,hp5,hnw,z9,hyl,XI,YM,hE,hF,lE,lF,hq):=hG;have hn:=G.le;have xo:∀y∈ks,y<6:=λy hy=>by rw[XI] at hy;exact m6.mp (D_.mp hy).1
 show#[_,(ag (ay (i:=06) nd 9 7 (rk (aO MZ hr (aa (ai 03) aj))) (jK 5))
   (ak (cg lu 9 (cP 24 M.range (ν (aS (ae 2) 3))) (aw (i:=07) nd 9 7 (jK 5))
     (ag (ay (i:=08) nd 9 7 (rk (aS (ν (eh (ν (ba (ν (ba (ae 2) 3)) (ν (bQ (ae 07) 3)))) 3)) 3)) (jK 5))
     (ag (ay (i:=09) nd 9 7 (rk (oF 3 (ν (ar (ae 05) (ν (aS (ae 08) (ν (aT aX aY 24 M.len lx (aH (ae 05) aM))))))))) (jK 5))
     (ak (a_ (bt hu (ν (aS (ν (ba (ae 08) 3)) 3)) 3)
       (ag (ay (i:=10) nd 9 7 (rk (ar (ae 06) (ν (aS (ν (ba (ae 08) 3)) (ν (aT aX aY 24 M.len lx (aH (ae 06) aM))))))) (jK 5))
       (fW.weak (u:=(XH rs c ys ks)) (ak (qa 0 gP (υ (lV (ν (eC gP (ae 0) (ai 10) (υ af) #[9,9,9,9])) (ae 09))) (ai 10))) ?w1))
       (ag (ay (i:=10) nd 9 7 (rk (cn (aa (υ (ar (ae 05) (ν (aS (ν (ba (ae 08) 3)) (ν (aT aX aY 24 M.len lx (aH (ae 05) aM))))))) (aa (υ (ar (ν (bz (aa (υ au) (aa (υ (bQ (ν au) (ν (ar (ae 04) 3)))) (aa (υ (bQ (ν au) (ν (ar (ae 04) 3)))) aj))))) (ν (aS (ν (ba (ae 08) 3)) 3)))) aj)))) (jK 5))
       (fW.weak (u:=(XH rs c ys ks)) (ak (qa 1 gP (υ (lV (ν (eC gP (ae 1) (ai 10) (υ af) #[9,9,9,9])) (ae 09))) (ai 10))) ?w2))))))))),?main]
 case w1=>
  rintro d ρ ⟨ps,E,F,b7,b8,y,k,rfl,tE,tF,lE,lF,hk,hy,fin⟩;show x6 (E:=E) (k:=k) (v:=bitOr (bo E k) (1 * 2 ^ y)) 9 (λQ h=>IW (λq h=>by change q ((cC (bZ E) (cp E) (kK k)).getD (.int 0));rw[eI];calc h) (λq h=>h) h) (λQ h=>h) () ?_;exact fin _ _ (tE.put #[hk.1,λ_=>hk.2] (BY _ _ (tE.get _).1) (i4 (tE.get _) (hY hy))) tF (lg _ _ _) (Jo _)
 case w2=>
  rintro d ρ ⟨ps,E,F,b7,b8,y,k,rfl,tE,tF,lE,lF,hk,hy,fin⟩;show x6 (E:=F) (k:=k) (v:=bitOr (bo F k) (1 * 2 ^ y)) 9 (λQ h=>IW (λq h=>by change q ((cC (bZ F) (cp F) (kK k)).getD (.int 0));rw[eI];calc h) (λq h=>h) h) (λQ h=>h) () ?_;exact fin _ _ tE (tF.put #[hk.1,λ_=>hk.2] (BY _ _ (tF.get _).1) (i4 (tF.get _) (hY hy))) (Jo _) (lg _ _ _)
 show#[9,rs,9,G,hp5,hnw,λps hps=>?_];have adN:ps≠[]:=hps.2.1 (by rw[<- XI];calc YM);let(n4,en4):=nM (qu c (show (04:Int)≠0 by decide));have hn4:n4<=03:=by have:=ye c (show (0:Int)<04 by decide);lia
 show#[by decide,?_];rw[en4];show#[by change -(2 ^ 62:Int)<=(n4:Int);lia,by change (n4:Int)<(2 ^ 62:Int);lia,?_];rw[j6];show di (n:=n4) (λi ρ=>E6 λ(E' F':List Ent) (b7 b8 b9 fK:Option (T×Bool))=>ρ=[some (.dt (bZ E') (cp E'),true),some (.dt (bZ F') (cp F'),true),vw (.int c),vw (.lst 42),vw (.lst (ys.map .str)),vw (.lst (vn ks)),vw (.lst (ps.map Y9)),b7,b8,b9,fK]/\Tab false 6 E'/\Tab true 6 F'/\E'.length<=95000+i/\F'.length<=95000+i) #[E,F,none,none,none,none,9,hE,hF,(),()] ?_ ?_;rintro i ρ hi ⟨E',F',b7,b8,b9,fK,rfl,tE,tF,XJ,XM⟩;rw[Ea];show#[#[by decide,by decide],#[(),()],.inr #[by decide,by decide],by decide,?_];generalize c / 04 / ((i:Int)+1) * 69621 % 65497=m;let(g1,y,hy,g2):=sF (f:=λ(k:Nat)=>T.int (k:Int)) YM m;have hyn:=xo y hy;show#[g1,_,g2,#[(),(),by decide],#[by decide,by decide],by decide,?_];rw[j6];show ny (λ_=>?_) (λ_=>?_);let(g3,p,hp,g4):=sF (f:=Y9) adN (m / 80);have hpn:=hps.1 p hp;show#[#[by decide,by decide],g3,_,g4,?_];calc#[ps,E',F',_,_,y,nk p.1 p.2,9,tE,tF,(),(),#[by change (0:Int)<=(p.1:Int);lia,by change (p.1:Int)<_;lia],hyn,λE2 F2 h1 h2 h3 h4=>#[E2,F2,_,_,_,_,9,h1,h2,(),()]];let(g3,z,hz,g4):=sF (f:=λ(k:Nat)=>T.int (k:Int)) YM (m / 80);have hzn:=xo z hz;show#[#[by decide,by decide],g3,_,g4,?_];obtain⟨w0,hw0⟩:∃w,ys[0]?\w:=#[_,f_ ()];obtain⟨w1,hw1⟩:∃w,ys[1]?\w:=#[_,f_ ()];have m0:=hyl w0 (eM hw0);have m1:=hyl w1 (eM hw1);have dl:(Str.ofString ".").length=1:=by decide +kernel
 show#[.str w0,ah (j:=0) (by rw[d4,hw0];rfl),by change (Str.ofString ".").length+w0.length<=sizeLine;calc bG (),.str w1,ah (j:=1) (by rw[d4,hw1];rfl),by change (Str.ofString ".").length+w1.length<=sizeLine;calc bG (),bG 4,#[by decide,by decide],by decide,?_];let(_,cl,vL,g5):=sF (f:=T.str) (xs:=[Str.ofString "#",Str.ofString "."++w0,Str.ofString "."++w1]) 4 (m / 240);show#[_,g5,bG 4,?_];calc#[ps,E',F',_,_,y,nk z cl,9,tE,tF,(),(),#[by change (0:Int)<=(z:Int);lia,by change (z:Int)<_;lia],hyn,λE2 F2 h1 h2 h3 h4=>#[E2,F2,_,_,_,_,9,h1,h2,(),()]];rintro ρ ⟨E',F',b7,b8,b9,fK,rfl,tE,tF,XJ,XM⟩;calc hq E' F' tE tF () ()
end
end b_
namespace VT
open PySem PySem.Spec PyProof.Rows L2
end VT
namespace b_
open PySem L2 VT Gen K5 Lay BS ym MK
open PySem.Builtin (bitOr bitAnd)
section
abbrev IX:ω:=["_law_some"]
def B0:aI IX ["_law_some"] (aq Ad):=L2.gO
def Aj:(IX++(["_law_key_here"]:ω)).Nodup:=by decide +kernel
def M6(D:Df K mg "_law_told" Ad ["_law_some"] f fd)(M:BR mg):cu P w K mg base "_law_told" ["_law_some"] 1 (cD K 1 IU):=by
 show D.gR (jt D.F B0 9 λbP A outer s H E Ox hr ts q hG=>?_);have nd:=B0.nd;have hu:=bA.dI hr;have np:∀{i:Nat},bj #[H,[],Ox] i:=i_;have gP:=ir hu;show#[_,(ak (aK (rk (aT (TP.kX false) (TP.mR false) 24 M.sorted i6 (aH (ν (dD (ts:=qaN) 9 24 (G4 (ai 0)) (λ_ _ _ _ _ _=>(aw (i:=1) Aj 9 7 np)) (λ_ _ _ _ _ _=>kz) (λ_ _ _ _ _ _=>(υ (aU (aa (υ (ar (G9 (ae 1)) 3)) (aa (υ (ar (G9 (ae 1)) 3)) (aa (υ (L7 gP (ae 0) (ae 1))) aj)))))))) aM))))),λ_=>?_];let(E,o,rfl,nd',hl,hq):=hG;have ep:qR o (bZ E)=E.zipIdx.map λp=>.pin (nH o p.2) (El (kK p.1.1)):=by unfold qR bZ;rw[List.zipIdx_map,qv];rfl
 show#[9,by change (qR o (bZ E)).length<=sizeLine;rw[xv];unfold bZ;rw[bL,π];lia,?_];change du _ _ _ _ (qR o (bZ E)) _;rw[ep];show h9 (u:=λp:Ent×Nat=>j8 p.1) (λp hp r hr=>?_) ?_;let(e,i):=p;have hi:E[i]?\e:=List.mem_zipIdx_iff_getElem?.mp hp;have hk:(bZ E)[i]?\kK e.1:=by unfold bZ;rw[d4,hi];rfl
 calc#[_,aaL,_,aaM,i,kK e.1,.int e.2,9,hk,uF nd' (eM hi),bG 4,hr];have e:(E.zipIdx.map λp:Ent×Nat=>j8 p.1)=E.map j8:=by rw[show (λp:Ent×Nat=>j8 p.1)=j8 ∘ Prod.fst from 9,<- qv,List.zipIdx_map_fst]
 change TP.G0 false [.lst (E.zipIdx.map λp:Ent×Nat=>j8 p.1)] _;rw[e];show#[_,9,by rw[bL];calc hl,λt ht=>?_,λzs hz=>?_];let(x,_,rfl):=gy.mp ht;calc#[_,_,_,9,#[_,9]];let(bs,p,rfl):=gL _ hz 9;calc hq bs p
end
end b_
namespace VT
open PySem PySem.Spec PyProof.Rows L2
def Y'(t:T):T:=match t with
 |.kt k=>El k
 |t=>t
def Za(t:T):T:=match t with
 |.lst ts=>.lst (ts.map Y')
 |t=>t
def R_{A:zm}{t:T}(h:At K H A t v):At K H A (Y' t) v:=by
 cases t with
 |kt k=>let(a,rfl,h1,_):=h;calc uB h1
 |_=>calc h
theorem IY{K:qaf}{H:Hp}{A:zm}:∀{ts:Φ}{vs:qak},aB K H A ts vs->aB K H A (ts.map Y') vs
 |[],_,h=>h
 |t::ts,_,h=>by let(v,r,rfl,h1,h2):=h;calc aB.cons (R_ h1) (IY h2)
def R'{A:zm}{t:T}(h:At K H A t v):At K H A (Za t) v:=by
 cases t with
 |lst ts=>let(a,vs,e,h1,h2):=h;calc#[a,vs,e,h1,IY h2]
 |_=>calc h
def adO(f:FE):FE:=λρ Q=>f ρ λt=>Q (Za t)
def Sa{f:FE}(h:VE X Z e f):VE X Z e (adO f):=.mk λtm=>PE.weak (h tm) λσ H Q #[ρ,O,q,I,hf,k]=>#[ρ,O,_,I,hf,λt ht v H' s z=>k _ ht v H' s (R' z)]
end VT
namespace b_
open PySem L2 VT Gen K5 Lay BS ym MK
open PySem.Builtin (bitOr bitAnd)
def M7(ts:Φ)(q:qam):Prop:=∃ns:qan,ts=[.lst (ns.map .int)]/\ns.length<=63/\q (.vw (.bl true))
def B1(h:nN.cS x=true):x.length<=08:=by
 unfold nN.cS at h;simp only[iE,aaf] at h
 lia
def OF{k:Ky}(h:Xk k):Nm.GO (nU k):=by
 cases k with
 |fld x=>exact .inl #[_,9,by
  have:=B1 h;have e:(((".":String):Str)++x).length=1+x.length:=by change (((".":String):Str).cps++x.cps).size=_;rw[Array.size_append];rfl
  rw[e];lia]
 |op o=>cases o with
  |nm y=>calc .inl #[_,9,by have:=B1 h;lia]
  |nu i=>calc .inr #[i,9]
theorem B2(p:Pg rs):∀r∈rs,eJ.WU rs r/\eJ.WT r:=λr hr=>by
 have hk:=p.ky r hr;cases r with
 |get x y k=>calc#[trivial,OF hk]
 |set y k o=>calc#[trivial,OF hk]
 |call x g as=>calc#[p.cl x g as hr,trivial]
 |_=>calc#[trivial,trivial]
def XN{m:Mv}(h:m∈yn rs 6)(hn:6<=60):R3 m.2/\R4 m.1:=by
 let(h1,h2):=uJ.mp h;have ok:=Hu m h1;let(g,o):=m;show#[?_,?_];cases o with
 |rw i=>have ok:i<6:=ok;change i<=1000;lia
 |zr=>calc h2 9
 |_=>trivial
 let(i,hi,hm):=sN.mp h1;unfold Em at hm;split at hm
 rename_i r a _ _
 cases r with
 |call x g' as=>
  simp only[vN] at hm;split at hm;rcases cY.mp hm with e|hm
  cases e;trivial;let(z,_,e):=gy.mp hm;cases e;trivial;cases hm
 |_=>first|(cases fP.mp hm;trivial)|cases hm
 cases hm
def eq_nil(l:Φ):eqT (.lst l) (.lst [])=l.isEmpty:=by cases l<;>rfl
def M8(l:List (Int×Str)):Za (.lst (l.map λk=>.kt (kK k)))=.lst (l.map λk=>.tup [.int k.1,.str k.2]):=by change T.lst (List.map Y' _)=_;rw[qv];rfl
structure Lw(rs:qal)(ys:ω):Prop where
 pg:Pg rs
 p5:∀r∈rs,(qY r).length<=05
 nw:∀x,Rw.new x∈rs->Txt.startswith x "."=false
 y6:ys.length=06
 yl:∀y∈ys,y.length<=100
structure Fst(rs:qal)(bs cs:List Ent):Prop where
 tb:Tab false 6 bs
 tc:Tab true 6 cs
 lb:bs.length<=20000
 lc:cs.length<=20000
 cl:(bB rs bs cs 6).b=false
def Sb(pg:Pg rs)(hb:(j3 rs (m+1)).b=false){bs cs:List Ent}(pb:bs.Perm (eJ.HI (j3 rs (m+1)).E))(pc:cs.Perm (eJ.HI (j3 rs (m+1)).F)):Fst rs bs cs:=by
 have I:=(xE rs (m+1)).1;have hn:=pg.le;have l1:=I.Rm;have l2:=I.Ro;have l3:(k7 rs).length * (6+1)<=300 * 61:=Nat.mul_le_mul pg.len.1 ();have nz:∀{E:List Ent}{e:Ent},e∈eJ.HI E↔e∈E/\e.2≠0:=λ{E e}=>by unfold eJ.HI;rw[D_];exact#[λh=>#[h.1,λz=>by have:=h.2;rw[ο z] at this;cases this],λh=>#[h.1,by rw[ς h.2];rfl]]
 have nd:∀{E:List Ent},(E.map (·.1)).Nodup->((eJ.HI E).map (·.1)).Nodup:=λ{E} h=>(List.Sublist.map _ (List.filter_sublist (l:=E))).nodup h;have tb:Tab false 6 bs:=Tab.perm (E:=eJ.HI (j3 rs (m+1)).E) #[nd I.nE,λe he=>by
  let(h1,h2):=nz.mp he;have hg:=get_mem I.nE h1;have AJ:below 6 (bo (j3 rs (m+1)).E e.1):=I.bl true e.1;rw[hg] at AJ;let(mv,_,hk):=sN.mp (I.kE e h1);show#[#[?_,λz=>nomatch z],by have:=AJ.1;lia,AJ];let(g,o):=mv;cases g with
  |nm h x=>rw[fP.mp hk];calc SA h
  |_=>cases hk] pb
 have tc:Tab true 6 cs:=Tab.perm (E:=eJ.HI (j3 rs (m+1)).F) #[nd I.nF,λe he=>by
  let(h1,h2):=nz.mp he;have hg:=get_mem I.nF h1;have AJ:below 6 (bo (j3 rs (m+1)).F e.1):=I.bl false e.1;rw[hg] at AJ;let(mv,_,hk):=sN.mp (I.kF e h1);have CI:0<=e.1.1/\e.1.1<(6:Int):=by
   let(g,o):=mv;cases g with
   |cl h y c=>let(j,hj,ej):=gy.mp hk;rw[<- ej];calc#[SA j,by have:=m6.mp hj;change (j:Int)<_;lia]
   |_=>cases hk
  calc#[#[CI.1,λ_=>CI.2],by have:=AJ.1;lia,AJ]] pc
 have lz:∀E:List Ent,(eJ.HI E).length<=E.length:=λE=>TF _ _;have eg:Tb.get #[bs,cs,false]=(j3 rs (m+1)).get:=funext λw=>funext λk=>by
  cases w with
  |true=>calc lh tb.nd I.nE (λe he=>by rw[pb.mem_iff,nz];calc#[λh=>h.1,λh=>#[h,he]]) k
  |false=>exact lh tc.nd I.nF (λe he=>by rw[pc.mem_iff,nz];calc#[λh=>h.1,λh=>#[h,he]]) k
 have cl1:∀m'∈k7 rs,DC (j3 rs (m+1)).get m':=mV ((xE rs m).1.bool false) hb;show#[tb,tc,by rw[pb.length_eq];have:=lz (j3 rs (m+1)).E;lia,by rw[pc.length_eq];have:=lz (j3 rs (m+1)).F;lia,?_];have hc:∀m'∈k7 rs,DC (Tb.get #[bs,cs,false]) m':=λm' hm=>by rw[eg];exact cl1 m' hm
 calc (mi (vq (k7 rs) tb tc) hc 6 (cv _)).1
def XO(hl:ys.length=06)(nd:ys.Nodup)(hn:∀y∈ys,nN.cS y=true)(hP:oQ ys pl)(h:Pre ys pl pl.length rs)(le:6<=60):Lw rs ys:=by
 have ok:=QC hl nd hP h;show#[RP h le hn (λp hp=>jR (oS hl hP p.1 p.2 hp).2 5),λr hr=>?_,λx hx=>nN.gh (nN.eO (hn x (ok _ hx))),hl,λy hy=>by have:=B1 (hn y hy);lia];have cj:=ok r hr;cases r with
 |df f ps=>change (ps.map _).length<=05;rw[bL];calc jR cj.2.1 5
 |call x g as=>change (as.map Ky.op).length+1<=05;rw[bL];have:=cj.2.2.1;lia
 |_=>simp[qY]
abbrev IZ(ns:qan)(ys:ω)(rs:qal)(c:Int)(bs cs E F:List Ent)(b8 b9 fK qf qg:Option (T×Bool)):En:=[vw (.lst (ns.map .int)),vw (.lst (ys.map .str)),vw (.lst 42),vw (.lst (vn (yo rs))),vw (.int c),vw (.tup [.lst (bs.map j8),.lst (cs.map j8)]),some (.dt (bZ E) (cp E),true),some (.dt (bZ F) (cp F),true),b8,b9,fK,qf,qg,none,none,none,none,none]
def M9(l:Nat):FS:=λd ρ=>∃(ns:qan)(ys:ω)(rs:qal)(c:Int)(bs cs E F:List Ent)(b8 b9 fK qf qg:Option (T×Bool)),ρ=IZ ns ys rs c bs cs E F b8 b9 fK qf qg/\Lw rs ys/\Fst rs bs cs/\Tab false 6 E/\Tab true 6 F/\E.length<=l/\F.length<=l/\∀ρ',d.rt ρ' (.vw (.bl true))
abbrev q8(es fs:List Ent):T:=.tup [.lst (es.map j8),.lst (fs.map j8)]
def cutD:FS:=λd ρ=>∃(rs:qal)(bs cs es fs:List Ent)(D:Bool)(b0 b1 b3 b4 b6 b7 b8 b9 fK qf qg:Option (T×Bool)),ρ=[b0,b1,vw (.lst 42),b3,b4,vw (q8 bs cs),b6,b7,b8,b9,fK,qf,qg,vw (q8 es fs),vw (.bl D),none,none,none]/\Pg rs/\Fst rs bs cs/\Tab false 6 es/\Tab true 6 fs/\es.length<=100000/\fs.length<=100000/\(!(bB rs es fs 6).b)=D/\∀ρ',d.rt ρ' (.vw (.bl true))
section
abbrev OG:ω:=["_law_script","_law_words_here","_law_rows","_law_news_here","_law_cell","_law_first","_law_names","_law_cells","_law_home","_law_name","_law_some","_law_row","_law_kind","_law_table","_law_due","_law_lent","_law_turn","_law_told_here"]
def I8:aI OG qaW (aq k_):=L2.gO
def D2:(OG++(["_law_move"]:ω)).Nodup:=by decide +kernel
def Sd(D:Df K mg "law" k_ qaW f fd)(M:BR mg)(mF:cu P w K mg base "_law_cell_at" qaF 1 (cD K 2 eF.Ov))(M_:cu P w K mg base "_law_words" qaG 1 (cD K 2 eF.Ih))(Se:cu P w K mg base "_law_plan" qaL 1 (cD K 2 eF.OC))(D3:cu P w K mg base "_law_program" qaM 05 (cD K 03 eF.xR))(M':cu P w K mg base "_law_moves" qaO 2 (cD K 1 IC))(Na:cu P w K mg base "_law_lacks" qaT 2 (cD K 03 IH))(Sg:cu P w K mg base "_law_news" qaO 1 (cD K 1 OD))(sG:cu P w K mg base "_law_spoiled" qaU 1 (cD K 03 IT))(Sh:cu P w K mg base "_law_more" qaV 03 (tG K [true,true,false,false,false,false] OE))(I9:cu P w K mg base "_law_told" ["_law_some"] 1 (cD K 1 IU))(x8:cu P w K mg base "closed" qaE 06 (cD K 2 eJ.u9))(I_:cu P w K mg base "makers" qav 06 (QE K 1 eJ.BJ)):dA P w K mg base i8 07 f fd qaW (cD K 1 M7):=by
 let(adP,Zb,Si,Sj,Sk,Sl):=Sh;let(XQ,Ts,Ja,Jb,Jc,Jd):=I_;show jt D.F I8 9 λbP A outer s H E Ox hr ts q hG=>?_;have nd:=I8.nd;have hu:=bA.dI hr;have np:∀{i:Nat},bj #[H,[],Ox] i:=i_;have gP:=ir hu;show#[_,(ag (ay (i:=1) nd 9 7 (rk (aO M_ hr (aa (υ (aO mF hr (aa (ai 0) (aa (υ af) aj)))) (aa (υ af) aj)))) np)
  (ag (ay (i:=2) nd 9 7 (rk (aO D3 hr (aa (υ (iM (ae 0) (g7 3) (g7 3))) (aa (ai 1) (aa (υ (aO Se hr (aa (υ (aO mF hr (aa (ai 0) (aa (υ af) aj)))) (aa (ai 1) aj)))) aj))))) np)
  (ag (ay (i:=03) nd 9 7 (rk (aO Sg hr (aa (ai 2) aj))) np)
  (ag (ay (i:=04) nd 9 7 (rk (aO mF hr (aa (ai 0) (aa (υ af) aj)))) np)
  (ag (ay (i:=05) nd 9 7 (rk (VD.vp (Bc Jd 29 24 Ja Jb Jc (aa (υ (c0 cZ dR 24 M.list l0 (aH (ae 2) aM))) aj)))) np)
  (ag (cf (i:=06) nd 9 (.inr 9) (rk kZ) np)
  (ag (cf (i:=07) nd 9 (.inr 9) (rk kZ) np)
  (fW.weak (u:=(M9 20000)) (ag (a_ (ku (ν (aS (ae 04) 3)) 3)
   (ag (cg lu 9 (eA (υ (ar (ae 05) 3))) (cK (n:=03) 9 (aD (aw (i:=08) nd 9 7 np) (aD (aw (i:=09) nd 9 7 np) (aD (aw (i:=10) nd 9 7 np) bR))))
    (ak (pA 06 gP (ai 10) (aa (ai 08) (aa (ai 09) aj)))))
   (ak (cg lu 9 (eA (υ (ar (ae 05) 3))) (cK (n:=03) 9 (aD (aw (i:=11) nd 9 7 np) (aD (aw (i:=12) nd 9 7 np) (aD (aw (i:=10) nd 9 7 np) bR))))
    (ak (pA 07 gP (ai 10) (aa (ai 11) (aa (ai 12) aj)))))))
   aJ)
  (fW.weak (u:=(M9 90000)) (ag (a_ (bt hu (ν (aS (ae 04) 3)) 3)
   (kY 06 np (ag (cf (i:=06) nd 9 (.inr 9) (rk (aO sG hr (aa (ai 06) (aa (υ (ba (ae 04) 3)) (aa (ai 03) aj))))) np)
   (kY 07 np (ak (cf (i:=07) nd 9 (.inr 9) (rk (aO sG hr (aa (ai 07) (aa (υ (ba (ae 04) 3)) (aa (ai 03) aj))))) np)))))
   aJ)
  (fW.weak (u:=(M9 90000)) (ag (a_ (fU hu (ae 03) (ν (bz aj)))
   (ak (bq (wz Sl 29 24 Si Sj Sk (nR 06 (nR 07 (fm (υ (ba (ae 04) 3)) (fm (ai 2) (fm (ai 1) (fm (ai 03) A0)))))))))
   aJ)
  (fW.weak (u:=(M9 100000)) (kY 06 np (kY 07 np (ag (ay (i:=13) nd 9 7 (rk (aU (aa (υ (aO I9 hr (aa (ai 06) aj))) (aa (υ (aO I9 hr (aa (ai 07) aj))) aj)))) np)
  (ag (ay (i:=014) nd 9 7 (rk (Fu hu (ν (dD (ts:=["_law_move"]) 9 24 (eA (υ (aO M' hr (aa (ai 2) aj)))) (λ_ _ _ _ _ _=>(aw (i:=18) D2 9 7 np)) (λ_ _ _ _ _ _=>(g8 (fU hu (ν (VE.vp (Sa (υ (aO Na hr (aa (ai 06) (aa (ai 07) (aa (ai 18) aj)))))))) (ν (bz aj))))) (λ_ _ _ _ _ _=>(ai 18)))) (ν (bz aj)))) np)
  (fW.weak (u:=(cutD)) (ag (ay (i:=15) nd 9 7 (rk (aU (aa (υ (c0 cZ dR 24 M.list l0 (aH (ν (ar (ae 13) 3)) aM))) (aa (υ (c0 cZ dR 24 M.list l0 (aH (ν (ar (ae 13) 3)) aM))) aj)))) np)
  (ag (cg lu 9 (cP 24 M.range 3) (aw (i:=16) nd 9 7 np)
   (ag (ay (i:=17) nd 9 7 (rk (aO x8 hr (aa (ai 2) (aa (ai 15) aj)))) np)
   (ak (a_ (VW.vc (AK (tq (d_ (eR CK 24 M.isinstance 24 M.bool Qp (ae 17)))) (AK (fU hu (ae 17) (ae 014)) (yT (fU hu (ae 15) (ae 13))))))
    (ak (aK (rk wj)))
    aJ))))
  (ak (aK (rk (QS (ν (aO x8 hr (aa (ai 2) (aa (ai 05) aj)))) (ν wj))))))) ?w20))))) ?w18)) ?w16)) ?w13)) ?w8)))))))),λ_=>?main]
 case main=>
  let(ns,rfl,h63,hq):=hG;have z9:(c6 (ns.getD 0 0) 06).length=06:=zf _ _;have hnm:∀y∈c6 (ns.getD 0 0) 06,nN.cS y=true:=zj;have Js:(c6 (ns.getD 0 0) 06).Nodup:=wJ 5;show#[9,ns,0,9,9,_,06,9,by decide,by decide,?_];generalize c6 (ns.getD 0 0) 06=ys at z9 hnm Js ⊢;let(ms,ems,hms):=eF.BQ T.int ns (some 03) (some 33);show#[9,ns,1,9,9,_,ys,9,z9,λpl jn h1 h3=>?_];show#[9,ms,ys,pl,by rw[<- ems];rfl,(),#[z9,λy hy=>by have:=B1 (hnm y hy);lia,h3,λp hp=>jR (oS z9 jn p.1 p.2 hp).2 5],h1,λrs lQ hlen=>?_];have L:=XO z9 Js hnm jn lQ hlen;show#[9,rs,9,(),9,ns,2,9,9,rs,9,L.pg.B.W,(),by have:=L.pg.len.1;lia,B2 L.pg,λm Qu NW bs cs pb pc=>?_];exact#[ns,ys,rs,_,bs,cs,[],[],none,none,none,none,none,9,L,Sb L.pg NW pb pc,Tab.nil _ _,Tab.nil _ _,e_ _,e_ _,λ_=>hq]
 case w8=>
  rintro d ρ ⟨ns,ys,rs,c,bs,cs,E,F,b8,b9,fK,qf,qg,rfl,L,S,tE,tF,lE,lF,fin⟩;have lb:=S.lb;have lc:=S.lc;show#[by decide,ny (λ_=>?_) (λ_=>#[ns,ys,rs,c,bs,cs,E,F,b8,b9,fK,qf,qg,9,L,S,tE,tF,(),(),fin])];show#[_,aaL,de (f:=j8) (xs:=bs) (λi ρ=>E4 λ(E':List Ent) (b8 b9 fK:Option (T×Bool))=>ρ=IZ ns ys rs c bs cs E' F b8 b9 fK qf qg/\Tab false 6 E'/\E'.length<=20000+i) #[E,b8,b9,fK,9,tE,()] ?_ ?_];rintro i e ρ he ⟨E',b8,b9,fK,rfl,t',l'⟩;have hi:i<bs.length:=(dy.mp he).1;let(k1,v0,v1):=S.tb.ok e (eM he);calc#[9,9,#[bG 4,by unfold cp;rw[bL];lia],dm E' e.1 e.2,vw (.int e.1.1),vw (.str e.1.2),vw (.int e.2),by unfold IZ;rw[<- j1 E' e.1 e.2,<- dh];rfl,t'.put k1 v0 v1,by have:=lg E' e.1 e.2;lia];rintro ρ ⟨E',b8,b9,fK,rfl,t',l'⟩;show#[_,aaM,de (f:=j8) (xs:=cs) (λi ρ=>E4 λ(F':List Ent) (fK qf qg:Option (T×Bool))=>ρ=IZ ns ys rs c bs cs E' F' b8 b9 fK qf qg/\Tab true 6 F'/\F'.length<=20000+i) #[F,fK,qf,qg,9,tF,()] ?_ ?_];rintro i e ρ he ⟨F',fK,qf,qg,rfl,t2,l2⟩;have hi:i<cs.length:=(dy.mp he).1;let(k1,v0,v1):=S.tc.ok e (eM he);calc#[9,9,#[bG 4,by unfold cp;rw[bL];lia],dm F' e.1 e.2,vw (.int e.2),vw (.int e.1.1),vw (.str e.1.2),by unfold IZ;rw[<- j1 F' e.1 e.2,<- dh];rfl,t2.put k1 v0 v1,by have:=lg F' e.1 e.2;lia];rintro ρ ⟨F',fK,qf,qg,rfl,t2,l2⟩;exact#[ns,ys,rs,c,bs,cs,E',F',b8,b9,fK,qf,qg,9,L,S,t',t2,(),(),fin]
 case w13=>
  rintro d ρ ⟨ns,ys,rs,c,bs,cs,E,F,b8,b9,fK,qf,qg,rfl,L,S,tE,tF,lE,lF,fin⟩;have hn:=L.pg.le;have XI:XF 6 (yo rs):=#[λk hk=>m6.mp (D_.mp hk).1,by unfold yo;calc jR (TF _ _) (by rw[rh];lia)];show#[by decide,ny (λ_=>?_) (λ_=>#[ns,ys,rs,c,bs,cs,E,F,b8,b9,fK,qf,qg,9,L,S,tE,tF,lE,lF,fin])];intro o1;show#[#[by decide,by decide],9,?_];show#[false,6,E,o1,_,yo rs,9,hn,tE,lE,XI,λE' tE' XJ=>?_];intro o2;show#[#[by decide,by decide],9,?_];show#[true,6,F,o2,_,yo rs,9,hn,tF,lF,XI,λF' tF' XM=>?_];exact#[ns,ys,rs,c,bs,cs,E',F',b8,b9,fK,qf,qg,9,L,S,tE',tF',XJ,XM,fin]
 case w16=>
  rintro d ρ ⟨ns,ys,rs,c,bs,cs,E,F,b8,b9,fK,qf,qg,rfl,L,S,tE,tF,lE,lF,fin⟩;have F3:plainT (.lst (vn (yo rs)))=true:=by simp only[plainT];exact cL (λ_=>rfl) _
  have vM:dep (.lst (vn (yo rs)))<=100:=by have:gC (vn (yo rs))<=0:=dF (f:=λ(k:Nat)=>T.int (k:Int)) (n:=0) (λ_=>cv _) _;simp only[dep];lia
  show#[e_ _,F3,9,vM,?_];by_cases hz:yo rs=[];show iP (c:=!eqT (.lst (vn (yo rs))) (.lst [])) (by rw[hz];rfl) ?_;calc#[ns,ys,rs,c,bs,cs,E,F,b8,b9,fK,qf,qg,9,L,S,tE,tF,(),(),fin];show oN (c:=!eqT (.lst (vn (yo rs))) (.lst [])) (by cases e:yo rs with|nil=>calc absurd e hz|cons=>rfl) ?_;show#[#[by decide,by decide],rs,E,F,_,ys,yo rs,9,L.pg,L.p5,L.nw,L.y6,L.yl,9,hz,tE,tF,(),(),λE' F' tE' tF' XJ XM=>?_];exact#[ns,ys,rs,c,bs,cs,E',F',b8,b9,fK,qf,qg,9,L,S,tE',tF',XJ,XM,fin]
 case w18=>
  rintro d ρ ⟨ns,ys,rs,c,bs,cs,E,F,b8,b9,fK,qf,qg,rfl,L,S,tE,tF,lE,lF,fin⟩;intro o1 o2;have hn:=L.pg.le;show#[9,E,o1,9,tE.nd,lE,λes pe=>?_];show#[9,F,o2,9,tF.nd,lF,λfs pf=>?_];show#[bG 4,?_];have hmp:∀p:Pl,plainT (Jz p)=true:=λp=>by cases p<;>rfl
  have hmd:∀p:Pl,dep (Jz p)<=1:=λp=>by cases p<;>simp[Jz,dep,gC]
  have hl3:=(L.pg.len.2 6 hn);show#[9,9,rs,9,L.pg,by rw[bL];calc bG (),?_];show dq (f:=qW) (u:=qW) (p:=λm=>!decide (eD E F m=[])) (λ_ _ _ _ _=>trivial) (λm hm r s cj=>?_) ?_;let(mk1,mk2):=XN hm hn;show#[9,E,F,o1,o2,m,9,tF.nd,λe he=>(tF.ok e he).1.1,mk1,mk2,?_];change _/\Kz (Za (.lst ((eD E F m).map λk=>.kt (kK k)))) (.lst []) _;rw[M8];show#[e_ _,by simp only[plainT];calc cL (λ_=>rfl) _,9,by have:gC ((eD E F m).map λk=>T.tup [.int k.1,.str k.2])<=1:=dF (n:=1) (λ_=>by simp[dep,gC]) _;simp only[dep];lia,?_];rw[eq_nil,List.isEmpty_map];cases hz:eD E F m with
  |nil=>rw[hz] at cj;calc cj
  |cons a l=>rw[hz] at cj;exact cj
  have XR:(((yn rs 6).filter λm=>!decide (eD E F m=[])).map qW).isEmpty=decide (∀m∈yn rs 6,eD E F m=[]):=by rw[List.isEmpty_map,OM,List.isEmpty_iff,List.filter_eq_nil_iff,aaf];exact#[λh m hm=>by have:=h m hm;simpa using this,λh m hm=>by rw[h m hm];simp]
  generalize ((yn rs rs.length).filter λm=>!decide (eD E F m=[]))=l at XR ⊢;have jn:plainT (.lst (l.map qW))=true:=by simp only[plainT];exact cL (λm=>by simp[qW,plainT,cb,hmp]) _
  have Vs:dep (.lst (l.map qW))<=100:=by have:gC (l.map qW)<=2:=dF (n:=2) (λm=>by have h1:=hmd m.1;have h2:=hmd m.2;simp only[qW,dep,gC];lia) _;simp only[dep];lia
  have vL:=Ah hn tE tF pe pf;show#[e_ _,jn,9,Vs,?_];show#[rs,bs,cs,es,fs,eqT (.lst (l.map qW)) (.lst []),_,_,_,_,_,_,_,_,_,_,_,9,L.pg,S,tE.perm pe,tF.perm pf,by rw[pe.length_eq];calc lE,by rw[pf.length_eq];calc lF,?_,fin];rw[eq_nil,XR];exact vL
 case w20=>
  rintro d ρ ⟨rs,bs,cs,es,fs,D',b0,b1,b3,b4,b6,b7,b8,b9,fK,qf,qg,rfl,pg,S,te,tf,le,lf,hD,fin⟩;have hn:=pg.le;have bC:=B2 pg;have Gy:=pg.len.1;show#[_,aaL,_,aaM,bG 4,?_];have vL:∀(as ds:List Ent),Tab false 6 as->Tab true 6 ds->as.length<=100000->ds.length<=100000->∀q':qam,q' (.vw (.bl (!(bB rs as ds 6).b)))->eJ.u9 [.lst 42,q8 as ds] q':=λas ds ta td la ld q' h=>
   #[rs,as,ds,k7 rs++exM as ds,9,pg.B.W,(),bC,la,ld,by unfold exM;rw[lq,lq,bL,bL];lia,λm hm=>il _ hm,vq _ ta td,h]
  have Nb:∀l:List Ent,cb (l.map j8)=true/\gC (l.map j8)<=1:=λl=>#[cL (λ_=>rfl) l,dF (n:=1) (λ_=>by simp[j8,dep,gC]) l];have hpt:plainT (q8 es fs)=true:=by simp[plainT,cb,(Nb es).1,(Nb fs).1]
  have hdt:dep (q8 es fs)<=100:=by have h1:=(Nb es).2;have h2:=(Nb fs).2;simp only[dep,gC];lia
  show#[by decide,by decide,?_];show di (n:=2) (λ_ ρ=>E2 λ(b16 b17:Option (T×Bool))=>ρ=[b0,b1,vw (.lst 42),b3,b4,vw (q8 bs cs),b6,b7,b8,b9,fK,qf,qg,vw (q8 es fs),vw (.bl D'),vw (q8 es fs),b16,b17]) #[none,none,9] ?_ ?_;rintro i ρ hi ⟨b16,b17,rfl⟩;show#[9,vL es fs te tf le lf _ ?_];rw[hD];show#[9,?_];show iP (c:=!true) 9 ?_;show iP (c:=!decide (D'=D')) (by rw[ο 9];rfl) #[hpt,hpt,hdt,?_];calc iP (c:=!eqT (q8 es fs) (q8 es fs)) (by rw[oC _ hpt];rfl) #[_,_,9];rintro ρ ⟨b16,b17,rfl⟩;show#[9,vL bs cs S.tb S.tc (by have:=S.lb;lia) (by have:=S.lc;lia) _ ?_];rw[S.cl];calc fin _
end
end b_
namespace ju
open PySem L2 VT
def XS(X:K.In h)(G:h.Ns mainGlobals mg){st:Stmt}{oc:Value}{od an:qar}{Ct:Array (Option Value)}{kV doc pm bP ct:Value}(a:W.nsIn K mainGlobals x\some (.ref f))(l:K.lookup f=some #[oc,od,.func (W.fnOf x x (dY st) (cw st) (aq st) .none kV doc pm an bP ct),Ct])(c:W.codeIn K bP x=true)(k:W.keepIn K (.ref f)=true)(hb:∀(kV doc pm:Value) (an:qar) (bP ct:Value) (us:qag),us.length=ps.length->bindArgs (W.fnOf x x (dY st) (cw st) (aq st) .none kV doc pm an bP ct) #[us,[]]=pure (ps.zip us)) :
  E2 λf fd=>Df K mg x st ps f fd:=by
 have F:=sY (st:=st) l c k;calc#[f,_,F,Nr X G a,F.binds hb]
theorem adQ{C:qag->Prop}(h:C []):∀us:qag,us.length=0->C us
 |[],_=>h
theorem Sn{C:qag->Prop}(h:∀a,∀us:qag,us.length=n->C (a::us)):∀us:qag,us.length=n+1->C us
 |a::us,e=>h a us (Nat.succ.inj e)
def XT{C:qag->Prop}(h:∀a,C [a]):∀us:qag,us.length=1->C us:=Sn λa=>adQ (h a)
def bn1{C:qag->Prop}(h:∀a,C [a]):∀us:qag,us.length=1->C us:=XT h
def bn2{C:qag->Prop}(h:∀a b,C [a,b]):∀us:qag,us.length=2->C us:=Sn λa=>bn1 (h a)
def bn3{C:qag->Prop}(h:∀a b c,C [a,b,c]):∀us:qag,us.length=03->C us:=Sn λa=>bn2 (h a)
def XU:zm:=[0,1,2,03,04,05,06,07,08,09,10,11,12,13,014,15,16,17,18,019,20,21,022,023,024,25,26,027,028,029,30,31,032,33,034,035,036,37,38,039,040,041,042,043,44,45,46,47,048,49,050,051,052,53,54,55,56,57,58,59,60,61,69,70,71,72,73,74,75,76,77,78,79,80,90,91,92,93,94,95,96,97,98,99,100,101,104,105,106,107,108,109,110,111,112,113,114,115,116,117,118,119,120,121,122,123,124,125,126,127,128,129,130,131,132,133,134,135,136,137,138,139,140,141,142,143,144,145,146,147,148,149,150,151,152,153,154,155,156,157,158,159,160,161,162,163,164,165,166,167,168,169,170,171,172,173,174,175,176,177,178,179,180,181,182,183,184,185,186,187,188,189,190,191,192,193,194,195,196,197,198,199,200,201,202,203,204,205,206,207,208,209,210,211,212,213,214,222,223,224,225,226,227,228,229,230,231,232,233,234,235,236,237,238,239,240,241,242,243,244,245,246,247,248,249,250,251,252,253,254,255,256,257,258,259,260,261,262,263,264,265,266,267,268,269,270,271,272,273,274,275,276,277,278,279,280,281,282,283,284,285,286,287,288,289,290,291,292,293,294,295,296,297,298,299,300,301,302,303,304,305,306,307]
abbrev OV:=Option (Option Value)
abbrev OO:=Option Obj
abbrev N(K:qaf)(x:Str):=W.nsIn K mainGlobals x
abbrev Lk(K:qaf)(a:Addr):=List.lookup a K
abbrev R(a:Addr):OV:=some (some (.ref a))
abbrev fo(x q:Str)(st:Stmt)(pm:Value)(c:Addr):OO:=some #[.type "function",none,.func (W.fnOf x q (dY st) (cw st) (aq st) .none .none .none pm none (.ref c) .none),([].toArray)]
abbrev cI(K:qaf)(c:Value)(q:Str):=W.codeIn K c q
abbrev kI(K:qaf)(f:Addr):=W.keepIn K (.ref f)
abbrev fI(K:qaf)(c:Addr)(x:Str):=W.findIn K (.ref c) x
abbrev Q4:=OV×OO×Bool×Bool
def q4(K:qaf)(x:Str)(f c:Addr):Q4:=(N K x,Lk K f,cI K (.ref c) x,kI K f)
def v4(x:Str)(st:Stmt)(f:Addr)(pm:Value)(c:Addr):Q4:=(R f,fo x x st pm c,true,true)
def BN:ω->(qag->Prop)->Prop
 |[],C=>C []
 |_::ps,C=>∀v,BN ps λus=>C (v::us)
theorem bnA:∀{ps:ω}{C:qag->Prop},BN ps C->∀us:qag,us.length=ps.length->C us
 |[],_,h,[],_=>h
 |_::_,_,h,v::us,e=>bnA (h v) us (Nat.succ.inj e)
def dM{D:Prop}(X:K.In h)(G:h.Ns mainGlobals mg){st:Stmt}{c:Addr}{pm:Value}(e:q4 K x f c=v4 x st f pm c)(k:∀{f:Addr} {fd:FuncData},Df K mg x st ps f fd->D)(hb:∀(kV doc pm:Value) (an:qar) (bP ct:Value),BN ps λus=>bindArgs (W.fnOf x x (dY st) (cw st) (aq st) .none kV doc pm an bP ct) #[us,[]]=pure (ps.zip us):=by simp only[BN];intros;rfl):D:=by unfold q4 v4 at e;simp only[Prod.mk.injEq] at e;let(_,_,d):=XS X G e.1 e.2.1 e.2.2.1 e.2.2.2 λa b c d e f=>bnA (hb a b c d e f);calc k d
def Tk(P:Program)(w:World)(base:Heap):Prop:=True
def dN{sp:Sp}(z:Tk P w base)(X:K.In h)(G:h.Ns mainGlobals mg){st:Stmt}{c:Addr}{pm:Value}(e:q4 K x f c=v4 x st f pm c)(k:∀{f:Addr} {fd:FuncData},Df K mg x st ps f fd->cu P w K mg base x ps n sp)(hb:∀(kV doc pm:Value) (an:qar) (bP ct:Value),BN ps λus=>bindArgs (W.fnOf x x (dY st) (cw st) (aq st) .none kV doc pm an bP ct) #[us,[]]=pure (ps.zip us):=by simp only[BN];intros;rfl):cu P w K mg base x ps n sp:=dM X G e k hb
abbrev tU(l:Array Value):OO:=some #[.type "tuple",none,.seq l 0,([].toArray)]
abbrev kE(w:World)(x:Str)(t:Tok)(r:Addr):DictEntry:=#[PyData.keyHash w.params x,.str x t,.ref r]
abbrev qh:Value:=.str "law_slicewise_k24_closed_tables" 410
abbrev Nc:Value:=.str "slicewise.makers" 300
abbrev mD5:Value:=.str "slicewise.rows" 203
abbrev Tu:=(Q4×(Q4×Q4))×(Q4×(Q4×Q4))
abbrev So:=OV×(OV×OV)
abbrev XX:Type:=((((((OV×OV)×(OV×(OO×OV)))×((OO×(OV×OV))×So))×((So×So)×(So×So)))×((((Bool×(OO×Bool))×(Bool×(Bool×Bool)))×((Bool×(OV×Bool))×(Bool×(OV×OV))))×((So×So)×((OV×(Bool×OO))×(Bool×(Bool×Bool))))))×(((((Bool×(Bool×OV))×(Bool×(Bool×OV)))×((OV×(OV×OO))×(Bool×(Bool×Q4))))×(Tu×Tu))×((Tu×Tu)×(Tu×Tu))))
def FF(K:qaf):XX:=((((((N K "LETTERS",N K "LONGEST_NAME"),(N K "CLOSERS",(Lk K 47,N K "OPENERS"))),((Lk K 46,(N K "isinstance",N K "int")),(N K "str",(N K "bool",N K "len")))),(((N K "all",(N K "tuple",N K "zip")),(N K "range",(N K "list",N K "enumerate"))),((N K "min",(N K "sum",N K "sorted")),(N K "dict",(N K "Layout",fI K 78 "__init__"))))),((((W.isFn K (.ref 75),(Lk K 75,cI K (.ref 74) "Layout.__init__")),(kI K 75,(W.plainGet K 78 Str.empty,W.hasDictIn K 78))),((W.plainOver K 78,(fI K 78 "__setattr__",W.makesIn K 78)),(kI K 78,(fI K 78 "program",fI K 78 "heads")))),(((fI K 78 "ends",(fI K 78 "elses",fI K 78 "homes")),(fI K 78 "defs",(fI K 78 "main",N K "Sets"))),((fI K 99 "__init__",(W.isFn K (.ref 96),Lk K 96)),(cI K (.ref 95) "Sets.__init__",(kI K 96,W.plainGet K 99 Str.empty)))))),(((((W.hasDictIn K 99,(W.plainOver K 99,fI K 99 "__setattr__")),(W.makesIn K 99,(kI K 99,fI K 99 "names"))),((fI K 99 "cells",(N K "law",Lk K 307)),(cI K (.ref 306) "law",(kI K 307,q4 K "has" 21 20)))),(((q4 K "members" 26 25,(q4 K "is_name" 31 30,q4 K "is_field" 38 37)),(q4 K "class_of" 45 44,(q4 K "shape" 61 60,q4 K "first_defs" 54 53))),((q4 K "list_of" 127 126,(q4 K "read_cells" 146 145,q4 K "call_wants" 153 152)),(q4 K "wants" 139 138,(q4 K "grown" 134 133,q4 K "makers" 110 109))))),((((q4 K "dict_of" 122 121,(q4 K "closed" 117 116,q4 K "_law_cell_at" 160 159)),(q4 K "_law_words" 167 166,(q4 K "_law_operand" 174 173,q4 K "_law_key" 181 180))),((q4 K "_law_call" 188 187,(q4 K "_law_simple" 195 194,q4 K "_law_lay" 202 201)),(q4 K "_law_plan" 207 206,(q4 K "_law_program" 214 213,q4 K "_law_homes" 228 227)))),(((q4 K "_law_class" 235 234,(q4 K "_law_call_moves" 242 241,q4 K "_law_moves" 249 248)),(q4 K "_law_had" 256 255,(q4 K "_law_goals" 261 260,q4 K "_law_lacks" 266 265))),((q4 K "_law_news" 271 270,(q4 K "_law_spoiled" 278 277,q4 K "_law_names_in" 283 282)),(q4 K "_law_pairs" 290 289,(q4 K "_law_more" 297 296,q4 K "_law_told" 302 301)))))))
def VV(w:World):XX:=((((((some (some (.str nN.bH 205)),some (some (.int 08 207))),(R 47,(tU ([.str "give" 235,.str "end" 236].toArray),R 46))),((tU ([.str "def" 231,.str "if" 232,.str "while" 233].toArray),(some none,some none)),(some none,(some none,some none)))),(((some none,(some none,some none)),(some none,(some none,some none))),((some none,(some none,some none)),(some none,(R 78,some (some (.ref 75))))))),((((true,(fo "__init__" "Layout.__init__" Lay.iY (.str "slicewise.layouts" 262) 74,true)),(true,(true,true))),((true,(some (some (.builtin "object.__setattr__")),true)),(true,(some none,some none)))),(((some none,(some none,some none)),(some none,(some none,R 99))),((some (some (.ref 96)),(true,fo "__init__" "Sets.__init__" eJ.pM Nc 95)),(true,(true,true)))))),(((((true,(true,some (some (.builtin "object.__setattr__")))),(true,(true,some none))),((some none,(R 307,fo "law" "law" b_.k_ qh 306)),(true,(true,v4 "has" eJ.HC 21 (.str "slicewise.bits" 187) 20)))),(((v4 "members" eJ.mj 26 (.str "slicewise.bits" 187) 25,(v4 "is_name" Nm.jf 31 mD5 30,v4 "is_field" Nm.jZ 38 mD5 37)),(v4 "class_of" eJ.j4 45 mD5 44,(v4 "shape" Wf.kQ 61 (.str "slicewise.programs" 229) 60,v4 "first_defs" Lay.hW 54 (.str "slicewise.programs" 229) 53))),((v4 "list_of" eJ.mq 127 Nc 126,(v4 "read_cells" eJ.h_ 146 Nc 145,v4 "call_wants" eJ.ic 153 Nc 152)),(v4 "wants" eJ.uN 139 Nc 138,(v4 "grown" eJ.uM 134 Nc 133,v4 "makers" eJ.pK 110 Nc 109))))),((((v4 "dict_of" eJ.mn 122 Nc 121,(v4 "closed" eJ.pL 117 Nc 116,v4 "_law_cell_at" eF.mz 160 qh 159)),(v4 "_law_words" eF.u_ 167 qh 166,(v4 "_law_operand" eF.mB 174 qh 173,v4 "_law_key" eF.Ie 181 qh 180))),((v4 "_law_call" eF.s_call 188 qh 187,(v4 "_law_simple" eF.pZ 195 qh 194,v4 "_law_lay" eF.Ig 202 qh 201)),(v4 "_law_plan" eF.z6 207 qh 206,(v4 "_law_program" eF.mC 214 qh 213,v4 "_law_homes" b_.va 228 qh 227)))),(((v4 "_law_class" b_.vb 235 qh 234,(v4 "_law_call_moves" b_.ij 242 qh 241,v4 "_law_moves" b_.vd 249 qh 248)),(v4 "_law_had" b_.IA 256 qh 255,(v4 "_law_goals" b_.vf 261 qh 260,v4 "_law_lacks" b_.vg 266 qh 265))),((v4 "_law_news" b_.Ab 271 qh 270,(v4 "_law_spoiled" b_.mD 278 qh 277,v4 "_law_names_in" b_.j5 283 qh 282)),(v4 "_law_pairs" b_.vh 290 qh 289,(v4 "_law_more" b_.Ac 297 qh 296,v4 "_law_told" b_.Ad 302 qh 301)))))))
def runC(w:World)(os:OsState):HE.lookC pE XU FF (HE.kG (w).params) (w) 1797 os\VV (w):=by
 rw[PySem.W.Fast.te3135357915001837337]
 kernel_rfl
abbrev KE(w:World):qaf:=HE.Kf XU (HE.tW pE 4274 w)
abbrev dE:DefRec:=HE.Vz b_.k_
theorem hd:PySem.W.LeftO pE qE NZ (HE.NY qE [] []) (λs=>XU.map s.heap.get?) (λw=>XU.map (HE.tW pE 4274 w)) 4274/\∀w,FF (KE w)=VV w:=HE.head (p:=pE) (q:=qE) (loose:=NZ) (lv:=[]) (R:=[]) (as:=XU) (N:=4274) (M:=1797) (F:=FF) (v:=VV) (by kernel_rfl) 9 (λs=>by kernel_rfl) 9 ac8 ac9 runC
def Sq{l:PySem.W.OpenLaw}{fa:Addr}(X:K.In h)(G:h.Ns mainGlobals mg)(hfa:mg "law"\.ref fa)(hF:FF K=VV w) :
  ∃fd:FuncData,(∀(s:Shared)(v:Value),BindsTo s fd #[[v],[]] [("_law_script",v)])/\∀base:Heap,K.In base->base.Ns mainGlobals mg->dA l.prog w K mg base i8 07 fa fd qaW (cD K 1 b_.M7):=by
 have Q {β:Type} (f:XX->β):=Ω f hF;have gu:=yq X G (Q (·.1.1.1.2.1.2.1) :);have Je:=yq X G (Q (·.1.1.1.2.1.2.2) :);have Jf:=yq X G (Q (·.1.1.1.2.2.1) :);have B3:=yq X G (Q (·.1.1.1.2.2.2.1) :);have qi:=yq X G (Q (·.1.1.1.2.2.2.2) :);have Sr:=yq X G (Q (·.1.1.2.1.1.1) :);have qj:=yq X G (Q (·.1.1.2.1.1.2.1) :);have Ak:=yq X G (Q (·.1.1.2.1.1.2.2) :);have lj:=yq X G (Q (·.1.1.2.1.2.1) :);have B4:=yq X G (Q (·.1.1.2.1.2.2.1) :);have eW:=yq X G (Q (·.1.1.2.1.2.2.2) :);have Ss:=yq X G (Q (·.1.1.2.2.1.1) :);have Su:=yq X G (Q (·.1.1.2.2.1.2.1) :);have sI:=yq X G (Q (·.1.1.2.2.1.2.2) :);have Nd:=yq X G (Q (·.1.1.2.2.2.1) :);have e:=hfa.symm.trans (Nr X G (Q (·.2.1.1.2.1.2.1) :));cases e;have aC:Lay.QV K 78:=#[#[(Q (·.1.2.1.1.2.2.1) :),(Q (·.1.2.1.1.2.2.2) :),(Q (·.1.2.1.2.1.1) :),(Q (·.1.2.1.2.1.2.1) :)],(Q (·.1.2.1.2.2.2.1) :),(Q (·.1.2.1.2.2.2.2) :),(Q (·.1.2.2.1.1.1) :),(Q (·.1.2.2.1.1.2.1) :),(Q (·.1.2.2.1.1.2.2) :),(Q (·.1.2.2.1.2.1) :),(Q (·.1.2.2.1.2.2.1) :)];have sJ:=sY (st:=Lay.iY) (Q (·.1.2.1.1.1.2.1) :) (Q (·.1.2.1.1.1.2.2) :) (Q (·.1.2.1.1.2.1) :);have D4:Dc K mg "Layout" "Layout.__init__" Lay.iY qaw 78 75 _:=#[sJ,Nr X G (Q (·.1.1.2.2.2.2.1) :),sJ.binds (λ_ _ _ _ _ _=>(ju.bn2 λ_ _=>rfl)),#[(Q (·.1.2.1.2.1.2.2) :),(Q (·.1.1.2.2.2.2.2) :),(Q (·.1.2.1.1.1.1) :),(Q (·.1.2.1.2.2.1) :)]];have cR:eJ.Tg K 99:=#[#[(Q (·.1.2.2.2.2.2.2) :),(Q (·.2.1.1.1.1.1) :),(Q (·.2.1.1.1.1.2.1) :),(Q (·.2.1.1.1.1.2.2) :)],(Q (·.2.1.1.1.2.2.2) :),(Q (·.2.1.1.2.1.1) :)];have B5:=sY (st:=eJ.pM) (Q (·.1.2.2.2.1.2.2) :) (Q (·.1.2.2.2.2.1) :) (Q (·.1.2.2.2.2.2.1) :);have Nf:Dc K mg "Sets" "Sets.__init__" eJ.pM qaz 99 96 _:=#[B5,Nr X G (Q (·.1.2.2.1.2.2.2) :),B5.binds (λ_ _ _ _ _ _=>(ju.bn3 λ_ _ _=>rfl)),#[(Q (·.2.1.1.1.2.1) :),(Q (·.1.2.2.2.1.1) :),(Q (·.1.2.2.2.1.2.1) :),(Q (·.2.1.1.1.2.2.1) :)]];have M5:Wf.Mg5 K mg:=#[qi,lj,eW,gu,Je,B3,qj,B4,Ak,#[47,Nr X G (Q (·.1.1.1.1.2.1) :),λH=>.inr #[_,_,_,(Q (·.1.1.1.1.2.2.1) :),9,9,Gen.Qz 9,.cons #[_,9] (.cons #[_,9] (.nil))]],#[46,Nr X G (Q (·.1.1.1.1.2.2.2) :),λH=>.inr #[_,_,_,(Q (·.1.1.1.2.1.1) :),9,9,Gen.Qz 9,.cons #[_,9] (.cons #[_,9] (.cons #[_,9] (.nil)))]]];have MF:Lay.MgF mg:=#[eW];have MLy:Lay.Wh mg:=#[qi,Ss];have N2:Nm.Mg2 mg:=#[#[_,Nr X G (Q (·.1.1.1.1.1.1) :)],#[_,Nr X G (Q (·.1.1.1.1.1.2) :)],gu,Jf,qi,Sr];have MP:eJ.WS mg:=#[eW,sI,lj,Ak];have MD:eJ.MgD mg:=#[Nd];have MG:eF.RQ mg:=#[qi,lj,qj,Su];have ML:b_.BR mg:=#[gu,Jf,Je,lj,eW,sI,B4,Ak,qi,B3,qj];have F:=sY (st:=b_.k_) (Q (·.2.1.1.2.1.2.2) :) (Q (·.2.1.1.2.2.1) :) (Q (·.2.1.1.2.2.2.1) :);have DL:Df K mg "law" b_.k_ qaW 307 _:=#[F,hfa,F.binds (λ_ _ _ _ _ _=>XT λ_=>rfl)];show#[W.fnOf "law" "law" (dY b_.k_) (cw b_.k_) (aq b_.k_) .none (.none) (.none) (.str "law_slicewise_k24_closed_tables" 410) none (.ref 306) (.none),λs v=>.of_eq 9,λbase _ _=>?_];have zT:Tk l.prog w base:=trivial;have XW:=dN zT X G (Q (·.2.1.1.2.2.2.2) :) λD=>eJ.Rz D;have sL:=dM X G (Q (·.2.1.2.1.1.1) :) λD=>eJ.zK D MP XW;have D5:=dN zT X G (Q (·.2.1.2.1.1.2.1) :) λD=>Nm.LV D N2;have Am:=dM X G (Q (·.2.1.2.1.1.2.2) :) λD=>Nm.xp D N2 D5;have An:=dM X G (Q (·.2.1.2.1.2.1) :) λD=>eJ.xI D Am;have Ng:=dN zT X G (Q (·.2.1.2.1.2.2.1) :) λD=>Wf.GJ D M5;have vt:=dN zT X G (Q (·.2.1.2.1.2.2.2) :) λD=>Lay.qP D MF;have x9:=Lay.Dm D4 MLy aC Ng vt;have Jg:=eJ.Mp (P:=l.prog) (w:=w) (base:=base) Nf cR;have D6:=dN zT X G (Q (·.2.1.2.2.1.1) :) λD=>eJ.zN D MP;have vv:=dM X G (Q (·.2.1.2.2.1.2.1) :) λD=>eJ.qT D cR sL;have vz:=dN zT X G (Q (·.2.1.2.2.1.2.2) :) λD=>eJ.qU D MP aC;have Nh:=dM X G (Q (·.2.1.2.2.2.1) :) λD=>eJ.HL D aC cR vv An sL vz;have B6:=dM X G (Q (·.2.1.2.2.2.2.1) :) λD=>eJ.HR D aC MP Nh;have Jh:=dM X G (Q (·.2.1.2.2.2.2.2) :) λD=>eJ.DF D aC cR x9 Jg B6 D6;have D7:=dN zT X G (Q (·.2.2.1.1.1.1) :) λD=>eJ.z0 D MD;have Ji:=dM X G (Q (·.2.2.1.1.1.2.1) :) λD=>eJ.DR D aC cR x9 Jg B6 D7;have qk:=dN zT X G (Q (·.2.2.1.1.1.2.2) :) λD=>eF.z7 D MG;have vA:=dN zT X G (Q (·.2.2.1.1.2.1) :) λD=>eF.Ii D MG;have cX:=dN zT X G (Q (·.2.2.1.1.2.2.1) :) λD=>eF.z8 D;have Ao:=dM X G (Q (·.2.2.1.1.2.2.2) :) λD=>eF.RS D cX;have x_:=dM X G (Q (·.2.2.1.2.1.1) :) λD=>eF.MM D MG cX;have q9:=dM X G (Q (·.2.2.1.2.1.2.1) :) λD=>eF.DW D cX Ao x_;have Ap:=dM X G (Q (·.2.2.1.2.1.2.2) :) λD=>eF.RZ D MG cX q9;have ya:=dN zT X G (Q (·.2.2.1.2.2.1) :) λD=>eF.MN D MG;have ql:=dM X G (Q (·.2.2.1.2.2.2.1) :) λD=>eF.Aa D MG cX Ap;have ll:=dN zT X G (Q (·.2.2.1.2.2.2.2) :) λD=>b_.IE D ML;have vB:=dN zT X G (Q (·.2.2.2.1.1.1) :) λD=>b_.ID D ML;have lp:=dN zT X G (Q (·.2.2.2.1.1.2.1) :) λD=>b_.qX D ML;have vC:=dM X G (Q (·.2.2.2.1.1.2.2) :) λD=>b_.IF D ML ll vB lp;have Aq:=dN zT X G (Q (·.2.2.2.1.2.1) :) λD=>b_.R5 D;have vD:=dN zT X G (Q (·.2.2.2.1.2.2.1) :) λD=>b_.IJ D ML;have vE:=dM X G (Q (·.2.2.2.1.2.2.2) :) λD=>b_.IK D ML Aq vD;have yb:=dN zT X G (Q (·.2.2.2.2.1.1) :) λD=>b_.MT D ML;have qm:=dN zT X G (Q (·.2.2.2.2.1.2.1) :) λD=>b_.Ai D ML;have nK:=dN zT X G (Q (·.2.2.2.2.1.2.2) :) λD=>b_.x4 D ML;have vF:=dM X G (Q (·.2.2.2.2.2.1) :) λD=>b_.IS D ML ll nK;have yc:=dM X G (Q (·.2.2.2.2.2.2.1) :) λD=>b_.MY D ML vF;have yd:=dN zT X G (Q (·.2.2.2.2.2.2.2) :) λD=>b_.M6 D ML;calc b_.Sd DL ML qk vA ya ql vC vE yb qm yc yd Ji Jh
def walk{l:PySem.W.OpenLaw}{q:Program}{loose:ω}{XP:(qae)->Heap->Prop}{d:DefRec}{K:World->qaf}(hn:l.most\63)(SY:d.params.defaults=[])(F:∀(w:World) (mg:qae) (fa:Addr) (h:Heap),(K w).In h->h.Ns mainGlobals mg->mg d.name\.ref fa ->
    ∃fd:FuncData,(∀(s:Shared) (u:Value),BindsTo s fd #[[u],[]] [("_law_script",u)])/\∀base:Heap,(K w).In base->base.Ns mainGlobals mg->dA l.prog w (K w) mg base i8 07 fa fd qaW (cD (K w) 1 b_.M7)) :
  PySem.W.WalkO q loose XP (λw h=>(K w).In h) l.row.toRowW d [] (λf vs=>PySem.call f vs):=by
 show Yo.vY hn SY λw s₀ s₁ mg mb fa o pm cd doc a vs ns G Y ho hd gv UK PU hints hlen hg=>?_;let(fd,hb,hF):=F w mg fa _ Y G.T.g UK;exact EY (CX:=i8) (sp:=cD (K w) 1 b_.M7) (k:=07) Y G.T.g G.T.b G.T.builtins G.T.nolimit hg PU hints (jR hlen 5) #[9,by decide,by decide] hF hb (λH _ hS=>
  #[[.lst (ns.map .int)],[],[],λ_ r=>r=.vw (.bl true),Jm,λ_ z=>(nomatch z),λ_ z=>(nomatch z),g9 9 (aB.cons (by
     simp only[At];show#[a,ns.map V.int,9,hS.imp (λz=>#[z,λm=>nomatch m]) id,?_];clear hS;clear hints hlen;induction ns with
     |nil=>calc aB.nil
     |cons n ns ih=>calc aB.cons bJ ih) aB.nil),#[ns,9,hlen,9],λus r hr v H' _ z=>by
     subst hr;have:=z.1;simpa only[At] using this]) λ_ _ _ z=>z
end ju
open PySem PySem.W PyProof.Rows
set_option maxRecDepth 100000 in
set_option maxHeartbeats 0 in
theorem PySem.Challenge.cw_slicewise_k24_closed_tables_holds : PySem.Challenge.rw_slicewise_k24_closed_tables.Holds := by
 w_on
 show PySem.W.holds_law ju.Qy λQy=>?_;show PySem.W.holds_openX (q:=ju.qE) (loose:=ju.NZ) (Xt:=HE.NY ju.qE [] []) (XP:=PySem.W.XL ju.qE []) (d:=ju.dE) (kwd:=[]) (N:=4274) ju.hd.1 (λs e=>PySem.W.xl_of s (Bool.and_eq_true_iff.mp e).1) PySem.W.XL.keeps (by kernel_rfl) (by kernel_rfl) (by kernel_rfl) (λs e=>PySem.W.recFacts_of (Bool.and_eq_true_iff.mp e).2) (by kernel_rfl) Qy (by kernel_rfl) #[9,9,9,9,9,by decide +kernel] ?hw ?hc
 (case hw=>w_witness2)
 calc HE.F5 (ju.walk (l:=PySem.Challenge.rw_slicewise_k24_closed_tables) (K:=ju.KE) 9 9 (λw mg fa h KX G UK=>ju.Sq KX G UK (ju.hd.2 w)))
