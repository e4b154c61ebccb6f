import PyProof.Rows.All
import Wide.All
import OpenK.AllK
import Wide.FinOn
import Lean
import PyProof.EqAt
import PyProof.EqKinds
import PyProof.TupleCall
import PyProof.NeKinds
import PyProof.Rows.SumAny
import PyProof.StrBlockL
import PyProof.StrBlockI
import PyProof.FitsReplace
import PyProof.Rows.SeqMore
import PyProof.Rows.TupAdd
import PyProof.Draws
import PyProof.ZipIter
import OpenK.ZGo
import PyProof.ListNew
import PyProof.Rows.SortStr
import PyProof.Rows.SortWalk
import PyProof.IsRules
import KE.KDictLaws
import PyProof.DictWalks
import PyProof.WalkInts
import PyProof.Rows.SetFrom
import PyProof.SetRoads
import PyProof.CollectIter
import PyProof.Rows.SortShellK
import PyProof.Rows.SortRuns
import PyProof.Rows.SortPure
import PyProof.Rows.SortKeyStr
import PyProof.DictItems
import PyProof.Rows.DictItemsRows
import KE.KPairComp
import PyProof.Rows.BitMore
import SO8
import PyProof.SeqRoads2
import PySem.Challenge.RW_slicewise_k44_slices_of_several_sets
set_option Elab.async false
set_option linter.all false
set_option genSizeOf false
set_option genSizeOfSpec false
set_option bootstrap.genMatcherCode false
set_option maxRecDepth 100000
set_option maxHeartbeats 8000000
open Lean in
def pT(n:Nat)(s:Syntax):MacroM (TSyntax `rcasesPat):=match n with
 |0=>Macro.throwUnsupported
 |n+1=>match s with
  |`(($a,$b,*))=>do
   let l←(List.toArray (a::b.getElems.toList)).mapM (λx=>pT n x.raw)
   `(rcasesPat|⟨$l,*⟩)
  |`(_)=>`(rcasesPat|_)
  |_=>if s.isIdent then `(rcasesPat|$(.mk s):ident) else Macro.throwUnsupported
local macro_rules|`(tactic|let $p:term:=$e)=>do `(tactic|obtain $(←pT 9 p):rcasesPat:=$e)
local macro_rules|`(tactic|show $e)=>`(tactic|refine $e)
local macro_rules|`(tactic|calc $e:term)=>`(tactic|exact $e)
local macro_rules|`($a\$b)=>`($a=some $b)
local macro_rules|`(tactic|erw[$[$r:term],*] $[$l:location]?)=>`(tactic|simp only[$[$r:term],*] $[$l:location]?)
local macro_rules|`(tactic|let $x:ident $b* $[:$y]?:=$e)=>`(tactic|have $x:ident $b* $[:$y]?:=$e)
local macro_rules(kind:=Lean.Parser.Command.declaration)|s=>do
 let q←`(command|noncomputable def x:=0)
 if s[0][4].getNumArgs=0&&(s[1].getKind==``Lean.Parser.Command.definition||s[1].getKind==``Lean.Parser.Command.abbrev) then return s.setArg 0 (s[0].setArg 4 q.raw[0][4]) else Lean.Macro.throwUnsupported
local macro_rules|`(#[$x,*])=>`(⟨$x,*⟩)
local macro_rules|`(())=>`(by lia)
set_option hygiene false
local macro_rules|`(9)=>`(rfl)
local macro_rules|`(8)=>`(s.heap.objs.size)
local macro_rules|`(7)=>`((.inl rfl))
local macro_rules|`(6)=>`((by simp))
local macro_rules|`(5)=>`(rs.length)
local macro_rules|`(4)=>`((ν ag))
local macro_rules|`(3)=>`(X.env)
local macro_rules|`(14)=>`((model prog w))
local macro_rules|`(15)=>`((by decide))
local macro_rules|`(17)=>`((model X.prog X.w))
local macro_rules|`(18)=>`((by decide +kernel))
local macro_rules|`(19)=>`((by rfl))
local macro_rules|`(22)=>`((ν (aS aT aV (by rfl) M.len l0 (aO (ae 0) aX))))
local macro_rules|`(23)=>`((bh rs))
local macro_rules|`(25)=>`(ts.length)
local macro_rules|`(29)=>`((bT X ts sc cl C fp s H))
local macro_rules|`(31)=>`((.Name x p))
local macro_rules|`(33)=>`(X.prog)
local macro_rules|`(37)=>`((ae 0))
local macro_rules|`(38)=>`(net.length)
local macro_rules|`(39)=>`(X.env.scope)
local macro_rules|`(42)=>`((hr.mono (by decide)))
local macro_rules|`(43)=>`((ω (dJ (aa (ah 04) (aa (ω (ay (ae 03) (ν ag))) ak)))))
local macro_rules|`(44)=>`((A.deeper (envOfC qual (ar st) s.heap.objs.size f bM)))
local macro_rules|`(45)=>`((aW.refl H))
local macro_rules|`(46)=>`(xs.length)
local macro_rules|`(57)=>`((aa (ah 1) ak))
local macro_rules|`(59)=>`((.ref s.heap.objs.size))
local macro_rules|`(69)=>`(s.heap)
local macro_rules|`(70)=>`((by omega))
local macro_rules|`(71)=>`((.ListComp elt [#[tg,iter,ifs,0]] sc pos))
local macro_rules|`(75)=>`((aa (ω (ay (ae 03) (ν ag))) ak))
local macro_rules|`(77)=>`((s.heap.objs.size+1))
local macro_rules|`(78)=>`((aQ aj.cl aj.bt (ae 0)))
local macro_rules|`(79)=>`((ω (ay (ae 03) (ν ag))))
local macro_rules|`(80)=>`(PySem.Str)
local macro_rules|`(81)=>`((ν (aQ aj.cl aj.bt (ae 0))))
local macro_rules|`(82)=>`((cM _))
local macro_rules|`(83)=>`(([].toArray))
local macro_rules|`(84)=>`((ν (bz (ν (bO (ae 0) (ν ag))) (ν ag))))
local macro_rules|`(85)=>`((Nc q rs ck c (c / 08 * 48271 % 2147483647) (c % 08) ys pl))
local macro_rules|`(86)=>`((rs.map aZ))
local macro_rules|`(87)=>`(vs.length)
local macro_rules|`(90)=>`((starEach es X.env))
local macro_rules|`(91)=>`((apos.endLine==bF.line))
local macro_rules|`(93)=>`((k+1))
local macro_rules|`(94)=>`(aR.toArray)
local macro_rules|`(95)=>`((.inr rfl))
local macro_rules|`(96)=>`(s1.heap.objs.size)
local macro_rules|`(97)=>`((W.fnOf x x (cn st) (bJ st) (ar st) .none kV doc pm an bM ct))
local macro_rules|`(98)=>`(items.size)
local macro_rules|`(99)=>`((bG hu (ν (ay (ae 03) (ν ag))) (ν aC)))
local macro_rules|`(104)=>`((ω aC))
local macro_rules|`(105)=>`((ay (ν (ay (ν (aQ aj.cl aj.bt (ae 0))) (ae 1))) (ν ag)))
local macro_rules|`(106)=>`((ay (ae 0) (ν ag)))
local macro_rules|`(107)=>`(es.size)
local macro_rules|`(108)=>`((ν (ay (ae 0) (ν ag))))
local macro_rules|`(109)=>`((ae 1))
local macro_rules|`(110)=>`((.ref a))
local macro_rules|`(123)=>`((cF hN hv hd fL))
local macro_rules|`(124)=>`((ae 2))
local macro_rules|`(170)=>`((ay (ae 1) (ν (bz (ν (bO (ae 0) (ν ag))) (ν ag)))))
local macro_rules|`(171)=>`((ah 1))
local macro_rules|`(172)=>`(ys.length)
local macro_rules|`(173)=>`(ks.length)
local macro_rules|`(174)=>`(X.env.locals)
local macro_rules|`(175)=>`((ks.zip vs))
local macro_rules|`(176)=>`((ν (bO (ae 0) (ν ag))))
local macro_rules|`(189)=>`((HT.fD xs.length xs.length hi-HT.fD xs.length 0 lo))
local macro_rules|`(190)=>`((ρ.map (o_ M s)))
local macro_rules|`(236)=>`((ae 03))
local macro_rules|`(237)=>`((bu++tm))
local macro_rules|`(238)=>`((aa (ah 0) (aa (ah 1) ak)))
local macro_rules|`(239)=>`((!t.plain && decide (es.size > 1)))
local macro_rules|`(240)=>`((ay (ν (aQ aj.cl aj.bt (ae 0))) (ae 1)))
local macro_rules|`(241)=>`((bO (ae 0) (ν ag)))
local macro_rules|`(242)=>`((av Z O))
local macro_rules|`(447)=>`((ν (jw (ν ag) (ν ag))))
local macro_rules|`(448)=>`((ν (aS aT aV (by rfl) M.len l0 (aO (ae 05) aX))))
local macro_rules|`(449)=>`((ν (aS aT aV (by rfl) M.len l0 (aO (ae 03) aX))))
local macro_rules|`(450)=>`((ν (aS aT aV (by rfl) M.len l0 (aO (ae 2) aX))))
local macro_rules|`(451)=>`(aD.nil)
local macro_rules|`(452)=>`((aw iy hr (aa (ah 0) (aa (ω ag) ak))))
local macro_rules|`(453)=>`((.lst (rs.map aZ)))
local macro_rules|`(454)=>`((ν (ay (ae 03) (ν ag))))
local macro_rules|`(455)=>`((ar st))
local macro_rules|`(457)=>`(L2.eS)
local macro_rules|`(458)=>`(X.s₀.heap.objs.size)
local macro_rules|`(459)=>`((Ψ (ay (ae 1) (ν (bz (ν (bO (ae 0) (ν ag))) (ν ag))))))
local macro_rules|`(460)=>`((starEach [] X.env))
local macro_rules|`(461)=>`((ay (ae 2) (ν ag)))
local macro_rules|`(462)=>`((by kernel_rfl))
local macro_rules|`(463)=>`((aa (ω aC) ak))
local macro_rules|`(464)=>`((.cons #[_,rfl] (.nil)))
local macro_rules|`(465)=>`((ys.map .str))
local macro_rules|`(469)=>`((ha ε s σ H _ I h))
local macro_rules|`(470)=>`((.Assign [.Subscript (.Name x p) (.Name y p2) eA] e pos))
local macro_rules|`(471)=>`(ps.length)
local macro_rules|`(472)=>`((aa (ah 04) ak))
local macro_rules|`(474)=>`((Option Value))
local macro_rules|`(475)=>`((aa (ω aC) (aa (ω aC) ak)))
local macro_rules|`(476)=>`((.ref it))
local macro_rules|`(477)=>`((ω (ay (ae 2) (ν ag))))
local macro_rules|`(478)=>`((ha pos ε s σ H _ I h))
local macro_rules|`(479)=>`((.dt (eQ E) (eO E)))
local macro_rules|`(480)=>`((.Tuple elts x1 tp))
local macro_rules|`(481)=>`((!(Builtin.Str.occurrences j i 0 j.length 1).isEmpty))
local macro_rules|`(482)=>`(h.elim)
local macro_rules|`(483)=>`((T×V))
local macro_rules|`(484)=>`(([.int lo t,.int hi u,.int 1 v].toArray))
local macro_rules|`(485)=>`((.cons #[_,rfl] (.cons #[_,rfl] (.nil))))
local macro_rules|`(486)=>`(aj.cl)
local macro_rules|`(487)=>`((if ub=true then M.a1 else M.a2))
local macro_rules|`(488)=>`((aD.cons cO (aD.cons cO aD.nil)))
local macro_rules|`(489)=>`((ah 0))
local macro_rules|`(490)=>`(l.length)
local macro_rules|`(491)=>`((EP X ε σ Q))
local macro_rules|`(492)=>`((.lst (pl.map cv)))
local macro_rules|`(494)=>`((endsAt (bh rs) rs.length))
local macro_rules|`(495)=>`((a==sysModules))
local macro_rules|`(496)=>`(o.data)
local macro_rules|`(497)=>`((Ψ (bK ak)))
local macro_rules|`(498)=>`((I.ok.hd hc))
local macro_rules|`(499)=>`((keywordEach [] X.env))
local macro_rules|`(500)=>`((ah 04))
local macro_rules|`(501)=>`((b∈X.ex\/X.s₀.heap.objs.size<=b))
local macro_rules|`(502)=>`((ν aC))
local macro_rules|`(503)=>`((ha tm))
local macro_rules|`(504)=>`((.dT (ks.zip vs)))
local macro_rules|`(505)=>`((importedModules p.main.body))
local macro_rules|`(506)=>`((aD.cons bw (aD.nil)))
local macro_rules|`(507)=>`((SetTable.grown nK.size))
local macro_rules|`(508)=>`(apos.endLine)
local macro_rules|`(509)=>`((aa (ω ag) ak))
local macro_rules|`(510)=>`((ν (aQ aj.cl aj.n9 (ae 0))))
local macro_rules|`(511)=>`((ν (aQ aj.cl aj.f9 (ae 0))))
local macro_rules|`(513)=>`((h tm))
local macro_rules|`(514)=>`((ah 2))
local macro_rules|`(515)=>`(vs.toArray)
local macro_rules|`(516)=>`((pyNext (.ref it)))
local macro_rules|`(517)=>`(us.length)
local macro_rules|`(518)=>`(pl.length)
local macro_rules|`(519)=>`((d5 rs b))
local macro_rules|`(520)=>`((he ε s σ H _ I h))
local macro_rules|`(521)=>`((.lst (ys.map .str)))
local macro_rules|`(522)=>`((aQ br.cl br.gA (ae 0)))
local macro_rules|`(523)=>`((aQ aj.cl aj.f9 (ae 0)))
local macro_rules|`(525)=>`((i+1))
local macro_rules|`(526)=>`((by simp[a_]))
local macro_rules|`(527)=>`(([c].toArray))
local macro_rules|`(528)=>`(s.toks)
local macro_rules|`(529)=>`((Rt->Prop))
local macro_rules|`(530)=>`((aa (ah 2) ak))
local macro_rules|`(531)=>`(bj.length)
local macro_rules|`(532)=>`((I.bZ.fresh (cM _)))
local macro_rules|`(533)=>`(h.objs.size)
local macro_rules|`(534)=>`((pl.map cv))
local macro_rules|`(535)=>`((.str x))
local macro_rules|`(536)=>`((.ref f))
local macro_rules|`(537)=>`(X.A.units)
local macro_rules|`(538)=>`(A.handled)
local macro_rules|`(539)=>`((rounds net t x))
local macro_rules|`(540)=>`((aH.mpr (fM h1)))
local macro_rules|`(541)=>`((.builtin id))
local macro_rules|`(543)=>`(pl.isList)
abbrev ζ:=@PySem.wpAny_bind
abbrev η:=@PySem.wpAny_pure
abbrev θ:=@if_neg
abbrev ι:=@if_pos
abbrev μ:=@PyProof.Rows.wpS_bind
abbrev ξ:=@PyProof.Rows.wpS_pure
abbrev ο:=@decide_eq_true
abbrev π:=@PySem.sizeLine_eq
abbrev ς:=@decide_eq_false
abbrev υ:=@PySem.wpAny_call_entry
abbrev ψ:=@PySem.wpAny_callSpecial?_slot
abbrev Δ:=@PySem.wpAny_newObj_type
abbrev Θ:=@of_decide_eq_true
abbrev Ξ:=@PySem.wpAny_setField_rec
abbrev Φ:=@PySem.wpAny_field
abbrev Ω:=@PySem.wpAny_holding
abbrev v9:=@PySem.wpAny_truthy_bool
abbrev F1:=@PySem.wpAny_mono
abbrev aaa:=@congrArg
abbrev aab:=@PySem.wpAny_rule
abbrev aac:=@PySem.wpAny_typeNameOfWhole_itemiter
abbrev aad:=@decide_eq_decide
abbrev aae:=@PyProof.Rows.wpS_forRange
abbrev aaf:=@PySem.wpAny_setField
abbrev aag:=@beq_eq_false_iff_ne
abbrev aah:=@or_false
abbrev aai:=@PySem.wpAny_attempt
abbrev aaj:=@PyProof.Rows.bitNot_nonneg
abbrev aak:=@PySem.wpAny_seqItems
abbrev aal:=@PySem.wpAny_typeNameOf_itemiter
abbrev aam:=@PySem.wpAny_passesOwn
abbrev aan:=@PySem.wpAny_setState_of
abbrev aao:=@PySem.wpAny_getItem_str_slice
abbrev aap:=@PyProof.Rows.wpS_modify
abbrev aaq:=@PySem.codeAny_builtin
abbrev aar:=@decide_eq_true_eq
abbrev aas:=@PySem.wpAny_fieldsOf
abbrev aat:=@PySem.wpAny_askSetting
abbrev aau:=@if_false
abbrev aav:=@PyProof.Rows.bitNot_bitNot
abbrev aaw:=@PySem.wpAny_Call_Name_kw
abbrev aax:=@PySem.codeAny_mono
abbrev aay:=@PySem.wpAny_pyIter_list
abbrev aaz:=@PySem.wpAny_pyIter_slot
abbrev aaA:=@PyProof.Rows.wpS_mono
abbrev aaB:=@PySem.wpAny_isOneOf_itemiter
abbrev aaC:=@PySem.wpAny_isInstance
abbrev aaD:=@PySem.wpAny_updateSeq_pair
abbrev aaE:=@PySem.wpAny_execs_nil
abbrev aaF:=@PySem.post_val_or_str
abbrev aaG:=@PySem.call_meetsIn
abbrev aaH:=@PySem.typeIs_int
abbrev aaI:=@PySem.call_meets
abbrev aaJ:=@PySem.wpAny_newTuple
abbrev aaK:=@PySem.isSubtype_stop
abbrev aaL:=@PySem.tupleKind_room_in1
abbrev aaM:=@PySem.wpAny_of_eq
abbrev aaN:=@bne_self_eq_false
abbrev aaO:=@PySem.wpAny_handled
abbrev aaP:=@PySem.wpAny_onRaise
abbrev aaQ:=@PySem.plainId_quiet
abbrev aaR:=@PySem.wpAny_newList
abbrev aaS:=@beq_iff_eq
abbrev aaT:=@if_true
variable{w:PySem.World}{s s':PySem.Shared}{n i j m t' ep:Nat}{f a C au it dx d:PySem.Addr}{fd:PySem.FuncData}{x qual:PySem.Str}{A:PySem.Around}{P prog:PySem.Program}{e b o c iter:PySem.Expr}{base h h':PySem.Heap}{α β:Type}{p apos bF eA p2 pos' tp:PySem.Pos}{O:HD}{u:PySem.Value}{y:Int}{B:Prop}{sc:PySem.Scope}{ord:List (Int×PySem.Value)}
abbrev HD:=List (Option PySem.Addr)
abbrev qaa:=List (PySem.Addr×PySem.Obj)
abbrev qad:=PySem.Value->PySem.Shared->Prop
abbrev qae:=80->Option PySem.Value
abbrev qaf:=PySem.W.Frag
abbrev qag:=List PySem.Value
abbrev zm:=List PySem.Addr
abbrev χ:=List 80
abbrev qan:=List Int
abbrev qao:=List Nat
abbrev qap:=List PySem.Expr
abbrev qaq:=List PySem.Stmt
abbrev qar:=Option PySem.Addr
abbrev qav:List 80:=["program"]
abbrev qaw:List 80:=["self","program"]
abbrev qax:List 80:=["place"]
abbrev qay:List 80:=["layout","place"]
abbrev qaz:List 80:=["thing"]
abbrev qaA:List 80:=["rows","row"]
abbrev qaB:List 80:=["rows"]
abbrev qaC:List 80:=["row"]
abbrev qaD:List 80:=["self","names","cells"]
abbrev qaE:List 80:=["sets","rows","kind"]
abbrev qaF:List 80:=["layout","names","place"]
abbrev qaG:List 80:=["layout","sets","place"]
abbrev qaH:List 80:=["layout"]
abbrev qaI:List 80:=["program","followers","row","name"]
abbrev qaJ:List 80:=["layout","function"]
abbrev qaK:List 80:=["table","home","name"]
abbrev qaL:List 80:=["facts","place","part"]
abbrev qaM:List 80:=["facts","getter","setter"]
abbrev qaN:List 80:=["facts","place"]
abbrev qaO:List 80:=["layout","other","place"]
abbrev qaP:List 80:=["facts","place","strict"]
abbrev qaQ:List 80:=["program","strict"]
abbrev qaR:List 80:=["net","rows"]
abbrev qaS:List 80:=["net","ones","others"]
abbrev qaT:List 80:=["program","rows","strict"]
abbrev qaU:List 80:=["_law_script","_law_k"]
abbrev qaV:List 80:=["_law_cell","_law_many"]
abbrev qaW:List 80:=["_law_number","_law_words_here"]
abbrev qaX:List 80:=["_law_number","_law_name","_law_words_here","_law_later"]
abbrev qaY:List 80:=["_law_number","_law_words_here","_law_later"]
abbrev qaZ:List 80:=["_law_rows","_law_stack","_law_cell","_law_words_here","_law_later"]
abbrev qba:List 80:=["_law_cell","_law_words_here"]
abbrev qbb:List 80:=["_law_cells","_law_words_here","_law_plan_here"]
abbrev qbc:List 80:=["_law_program_here"]
abbrev qbd:List 80:=["_law_real_here","_law_cell"]
abbrev qbe:List 80:=["_law_script"]
abbrev gD(x:80):Prop:=(x==("__debug__":80))=false
abbrev qt(x:80):Prop:=(x==("__classdict__":80))=false
abbrev c7:=@List.getElem?_eq_some_iff
abbrev bS:=@List.length_map
abbrev dF:=@PySem.Heap.get?_push_of_some
abbrev eY:=@List.getElem?_eq_getElem
abbrev cM:=@Nat.le_refl
abbrev fM:=@List.mem_of_getElem?
abbrev fE:=@List.mem_singleton
abbrev dQ:=@List.mem_cons
abbrev fU:=@List.length_append
abbrev fW:=@List.getElem?_map
abbrev hX:=@List.mem_append_left
abbrev gP:=@PySem.Heap.get?_push_size
abbrev iB:=@List.mem_cons_of_mem
abbrev fO:=@List.mem_append
abbrev iz:=@List.mem_cons_self
abbrev jY:=@List.mem_append_right
abbrev iC:=@Bool.false_ne_true
abbrev gQ:=@List.not_mem_nil
abbrev eR:=@PySem.Heap.lt_size
abbrev iD:=@List.size_toArray
abbrev i9:=@Int.toNat_natCast
abbrev pI:=@List.getElem?_append_left
abbrev fB:=@Nat.zero_le
abbrev qu:=@PySem.F.slot_list_append
abbrev qv:=@PySem.F.type_list_append
abbrev uF:=@List.getElem?_append_right
abbrev qw:=@Int.eq_ofNat_of_zero_le
abbrev hU:=@Nat.ne_of_lt
abbrev vI:=@List.getD_eq_getElem?_getD
abbrev kn:=@List.map_cons
abbrev pJ:=@List.length_range
abbrev nG:=@List.map_append
abbrev nH:=@PySem.PassesOwn.never
abbrev l0:=@PySem.boot_len
abbrev uG:=@List.getElem?_set_ne
abbrev pK:=@Bool.and_eq_true
abbrev tV:=@List.filterMap_cons
abbrev kJ:=@Nat.le_trans
abbrev tW:=@Nat.lt_of_lt_of_le
abbrev k5:=@List.mem_map
abbrev qx:=@Nat.lt_succ_self
abbrev qy:=@List.nodup_cons
abbrev Fp:=@List.getLast?_eq_getElem?
abbrev DC:=@List.getElem?_set_self
abbrev vJ:=@List.length_cons
abbrev Bo:=@List.length_dropLast
abbrev DD:=@Array.getElem?_toList
abbrev yt:=@List.append_assoc
abbrev uH:=@PySem.Heap.size_push
abbrev HV:=@List.getElem?_replicate
abbrev Be:=@Nat.lt_succ_of_lt
abbrev Bp:=@PySem.W.mg_none_of
abbrev Fq:=@Array.length_toList
abbrev Fs:=@Array.toList_append
abbrev yn:=@Bool.true_and
abbrev Iz:=@List.getElem?_eq_none
abbrev NC:=@List.length_eq_zero_iff
abbrev HW:=@List.replicate_succ
abbrev Bq:=@Int.emod_nonneg
abbrev NV:=@Array.getElem?_eq_getElem
abbrev Bf:=@List.mem_range
abbrev ND:=@List.length_replicate
abbrev NF:=@List.length_singleton
abbrev IA:=@PySem.Heap.SameBut.update
abbrev IB:=@List.map_congr_left
abbrev Ft:=@List.getElem_mem
abbrev yu:=@List.map_map
abbrev IC:=@Int.emod_lt_of_pos
abbrev Br:=@PySem.W.mg_of
abbrev HX:=@List.append_nil
abbrev NG:=@PySem.Obj.data_mapFields
abbrev NH:=@Bool.false_eq_true
abbrev RP:=@List.getElem?_range
abbrev Fu:=@Nat.lt_irrefl
abbrev Fv:=@List.any_cons
abbrev HY:=@Bool.false_and
abbrev RQ:=@List.length_filter_le
abbrev RS:=@List.getLast?_concat
abbrev Fw:=@Nat.ne_of_gt
abbrev HZ:=@Bool.false_or
abbrev TV:=@List.getElem?_dropLast
abbrev RT:=@PySem.mem_of_lookup
abbrev XY:=@List.mem_or_eq_of_mem_set
abbrev NI:=@List.length_zip
abbrev TX:=@PySem.Heap.get?_update_self
abbrev TY:=@List.mem_iff_getElem?
abbrev TZ:=@List.perm_append_comm
abbrev YE:=@PySem.F.slot_dict_itemiterator_next
abbrev NW:=@List.length_take
abbrev NX:=@List.lookup_cons
abbrev NY:=@Option.getD_some
abbrev NZ:=@List.take_length
abbrev RU:=@PySem.F.called_set
abbrev H_:=@Int.zero_add
abbrev NJ:=@List.nodup_nil
abbrev XZ:=@List.getElem?_cons_zero
abbrev RW:=@List.foldl_append
abbrev N0:=@List.mem_filter
abbrev N1:=@Bool.or_eq_true
abbrev X0:=@List.take_of_length_le
abbrev X1:=@Option.map_eq_some_iff
abbrev RX:=@List.all_eq_true
abbrev X2:=@List.take_append_drop
abbrev T1:=@List.zip_cons_cons
abbrev YF:=@List.drop_eq_getElem_cons
abbrev ID:=@Nat.le_succ
abbrev X3:=@List.getElem?_mapIdx
abbrev X4:=@List.dropLast_concat
abbrev T2:=@List.take_add_one
abbrev YG:=@List.filter_cons_of_pos
abbrev YH:=@List.filter_cons_of_neg
abbrev YI:=@PySem.F.plainAttrs_dict
abbrev X5:=@List.length_pos_iff
abbrev T3:=@List.any_eq_true
abbrev YJ:=@PySem.Calls.callWith_builtin
abbrev ab2:=@PyProof.Rows.callWith_type1
abbrev X6:=@List.set_cons_succ
abbrev ab4:=@PyProof.Rows.F.plain_set_update_loop
abbrev T4:=@PySem.W.kia_one
abbrev YK:=@PySem.Obj.isFreed_of_fields
abbrev T5:=@List.range_succ
abbrev YL:=@PySem.F.slot_dict_get
abbrev RY:=@PySem.Paired.length
abbrev aca:=@PySem.F.slot_tuple_iterator_next
abbrev acb:=@Array.perm_iff_toList_perm
abbrev X7:=@List.flatten_cons
abbrev YM:=@List.mem_iff_getElem
abbrev acf:=@List.pairwise_iff_getElem
abbrev YN:=@PySem.Around.under_plainId
abbrev YO:=@Array.toList_extract
abbrev X8:=@List.length_drop
abbrev X9:=@Option.bind_some
abbrev RZ:=@Nat.min_self
abbrev X_:=@List.mem_flatMap
abbrev acn:=@PyProof.Rows.slot_tuple_getitem
abbrev aco:=@PySem.F.plainAttrs_list
abbrev YQ:=@PySem.Calls.spliced_cons
abbrev X':=@List.find?_cons
abbrev YR:=@List.ext_getElem?
abbrev T6:=@Nat.le_of_lt
abbrev acu:=@Bool.beq_eq_decide_eq
abbrev T7:=@Nat.lt_trans
abbrev acw:=@List.dropLast_concat_getLast
abbrev T8:=@Nat.lt_or_ge
abbrev T9:=@Bool.true_or
abbrev acz:=@PySem.F.slot_list_pop
abbrev acA:=@PySem.F.type_list_pop
abbrev acB:=@Array.toList_reverse
abbrev acC:=@List.mem_of_mem_drop
abbrev acD:=@PySem.Heap.get?_update_ne
abbrev YS:=@List.foldl_cons
abbrev YT:=@Bool.eq_iff_iff
abbrev acG:=@PySem.Calls.call_function_entry
abbrev acH:=@List.getElem?_zip_eq_some
abbrev acI:=@Classical.byContradiction
abbrev acJ:=@List.mem_filterMap
abbrev Ya:=@Nat.le_of_eq
abbrev acL:=@PySem.F.args_tuple_add_2
abbrev Yb:=@List.map_nil
abbrev YU:=@Bool.and_false
abbrev acO:=@PySem.F.entry_tuple_add
abbrev acP:=@PySem.F.args_dict_get_3
abbrev acQ:=@Array.toList_push
abbrev acR:=@List.reverse_perm
abbrev acS:=@PySem.F.slot_tuple_add
abbrev acT:=@PySem.F.entry_dict_get
abbrev acU:=@Array.getElem?_eq_none
abbrev acV:=@List.zipWith_cons_cons
abbrev acW:=@Option.getD_none
abbrev acX:=@List.filter_cons
namespace L2
open PySem PySem.Spec PyProof.Rows
abbrev Key:=Sum Int Str
def uI:Key->Value->Bool
 |.inl k,v=>Value.isInt k v
 |.inr x,v=>Value.isStrOf x v
def aeW(w:World):Key->Int
 |.inl k=>hashInt k
 |.inr x=>hashStr w x
theorem cS:∀{k:Key}{v:Value},uI k v=true->(∃i t,k=Sum.inl i/\v=Value.int i t)\/(∃x t,k=Sum.inr x/\v=Value.str x t)
 |.inl i,v,h=>by let(t,e):=Value.isInt_shape h;calc .inl #[i,t,9,e]
 |.inr x,v,h=>by let(t,e):=Value.isStrOf_shape h;calc .inr #[x,t,9,e]
def Fx(i:Int)(t:Tok):uI (.inl i) (.int i t)=true:=by simp[uI,Value.isInt]
def Fy(x:Str)(t:Tok):uI (.inr x) (.str x t)=true:=by simp[uI,Value.isStrOf]
def T_(a b:Int):decide ((Sum.inl a:Key)=Sum.inl b)=(a==b):=by by_cases e:a=b;subst e;simp;let h:¬ (Sum.inl a:Key)=Sum.inl b:=λq=>e (Sum.inl.inj q);rw[ς h];calc (aag.mpr e).symm
def T'(a b:Str):decide ((Sum.inr a:Key)=Sum.inr b)=decide (a=b):=by by_cases e:a=b;subst e;simp;let h:¬ (Sum.inr a:Key)=Sum.inr b:=λq=>e (Sum.inr.inj q);rw[ς h,ς e]
def Ua(a:Int)(b:Str):decide ((Sum.inl a:Key)=Sum.inr b)=false:=ς (λq=>nomatch q)
def Ub(a:Str)(b:Int):decide ((Sum.inr a:Key)=Sum.inl b)=false:=ς (λq=>nomatch q)
def bN(prog:Program)(w:World):PySem.KeyKind prog w Key where
 is:=uI
 hash:=aeW w
 inj:=λv a b ha hb=>by
  rcases cS ha with⟨i,t,rfl,rfl⟩|⟨x,t,rfl,rfl⟩
  rcases cS hb with⟨j,u,rfl,e⟩|⟨y,u,rfl,e⟩
  injection e with e1 _;rw[e1]
  calc nomatch e;rcases cS hb with⟨j,u,rfl,e⟩|⟨y,u,rfl,e⟩
  calc nomatch e;injection e with e1 _;rw[e1]
 byValue:=λk v h=>by rcases cS h with⟨i,t,rfl,rfl⟩|⟨x,t,rfl,rfl⟩<;>rfl
 pyHash:=λhv h=>by
  rcases cS hv with⟨i,t,rfl,rfl⟩|⟨x,t,rfl,rfl⟩
  calc wpAny_pyHash_int h;exact wpAny_pyHash_str h
 eqBool:=λhu hv h=>by
  rcases cS hu with⟨i,t,rfl,rfl⟩|⟨x,t,rfl,rfl⟩
  rcases cS hv with⟨j,u,rfl,rfl⟩|⟨y,u,rfl,rfl⟩
  rw[T_] at h;calc wpAny_eqBool_int h;rw[Ua] at h;calc SeqAt.EqAt.int_str i t y u _ _ _ _ h;rcases cS hv with⟨j,u,rfl,rfl⟩|⟨y,u,rfl,rfl⟩
  rw[Ub] at h;calc SeqAt.EqAt.str_int x t j u _ _ _ _ h;rw[T'] at h;exact wpAny_eqBool_str h
 «strs»:=λk x t v h=>by
  rcases cS h with⟨i,u,rfl,e⟩|⟨y,u,rfl,e⟩
  calc nomatch e;injection e with e1 _
  subst e1;cases v<;>rfl
def yw(prog:Program)(w:World)(i:Int)(t:Tok):(bN prog w).is (.inl i) (.int i t)=true:=Fx i t
def yx(prog:Program)(w:World)(x:Str)(t:Tok):(bN prog w).is (.inr x) (.str x t)=true:=Fy x t
inductive V where
 |bY|bl (b:Bool)|int (i:Int)|str (x:Str)|byt (b:Array UInt8)|flt (b:UInt64)|ref (a:Addr)|ty (n:String)
 deriving DecidableEq
def RelV:V->Value->Prop
 |.bY,u=>u=Value.none
 |.bl b,u=>u=Value.bool b
 |.int i,u=>∃t,u=Value.int i t
 |.str x,u=>∃t,u=Value.str x t
 |.byt b,u=>∃t,u=Value.bytes b t
 |.flt b,u=>∃t,u=Value.float b t
 |.ref a,u=>u=Value.ref a
 |.ty n,u=>u=Value.type n
abbrev Vals:List V->qag->Prop:=Paired RelV
def Vals.length{xs:List V}{us:qag}(r:Vals xs us):46=517:=RY r
theorem Vals.get:∀{xs:List V}{us:qag}{i:Nat}{x:V},Vals xs us->xs[i]?\x->∃u,us[i]?\u/\RelV x u
 |_,_,_,_,.nil,e=>by simp at e
 |_,_,0,_,.cons r _,e=>by simp at e;subst e;calc#[_,9,r]
 |_,_,i+1,x,.cons _ t,e=>by let(u,h1,h2):=Vals.get t (by simpa using e);calc#[u,by simpa using h1,h2]
theorem Vals.set{x:V}{u:Value}(r:RelV x u):∀{xs:List V}{us:qag}(i:Nat),Vals xs us->Vals (xs.set i x) (us.set i u)
 |_,_,_,.nil=>.nil
 |_,_,0,.cons _ t=>.cons r t
 |_,_,i+1,.cons q t=>.cons q (Vals.set r i t)
theorem Vals.append:∀{xs ys:List V}{us ws:qag},Vals xs us->Vals ys ws->Vals (xs++ys) (us++ws)
 |_,_,_,_,.nil,s=>s
 |_,_,_,_,.cons r t,s=>.cons r (Vals.append t s)
theorem Vals.take:∀{xs:List V}{us:qag}(n:Nat),Vals xs us->Vals (xs.take n) (us.take n)
 |_,_,0,_=>.nil
 |_,_,_+1,.nil=>.nil
 |_,_,n+1,.cons r t=>.cons r (Vals.take n t)
theorem Vals.drop:∀{xs:List V}{us:qag}(n:Nat),Vals xs us->Vals (xs.drop n) (us.drop n)
 |_,_,0,r=>r
 |_,_,_+1,.nil=>.nil
 |_,_,n+1,.cons _ t=>Vals.drop n t
def l7:Option V->Option Value->Prop
 |some v,some u=>RelV v u
 |none,none=>True
 |_,_=>False
def KV{κ:Type}:List (κ×V)->List (κ×Value)->Prop:=Paired λ(p:κ×V) (q:κ×Value)=>p.1=q.1/\RelV p.2 q.2
def kV:Key->V
 |.inl i=>.int i
 |.inr x=>.str x
inductive HO where
 |lst (xs:List V)
 |tup (xs:List V)
 |dK (bj:List (Key×V))|dT (bj:List (List Key×V))
 |set (S:Int->Bool) (n:Nat)
 |ins (C dx:Addr) (fs:List (Str×V))
 |own (x:Addr)
 |xd (fs:List (Str×V))
 |met (f x:Addr)
 |rng (lo hi:Int)
 |k6 (o:Obj) (u:HO)
 |Uc (ps:Array Value)
 |ext (φ:Heap->Prop)
abbrev Hp:=Addr->Option HO
def upd(H:Hp)(a:Addr)(o:HO):Hp:=λb=>if b=a then some o else H b
def aK{H:Hp}{o:HO}:upd H a o a\o:=by unfold upd;rw[ι 9]
def aG{H:Hp}{b:Addr}{o:HO}(h:b≠a):upd H a o b=H b:=by unfold upd;rw[θ h]
def IE{H:Hp}{b:Addr}{o u:HO}(h:H a\o)(h':H b\u)(d:o≠u):a≠b:=by intro e;subst e;rw[h] at h';calc d (Option.some.inj h')
def bL{H:Hp}{b:Addr}{o:HO}(h:H a\o)(h':H b=none):a≠b:=by intro e;subst e;rw[h] at h';cases h'
section
variable(P:Program)(w:World)
def cb(H:Hp)(h:Heap)(a:Addr):HO->Prop
 |.lst xs=>46<=sizeLine/\∃(aR:qag)(n:Nat),Vals xs aR/\h.get? a=some {cls:=.type "list",data:=.seq 94 n}
 |.tup xs=>46<=sizeLine/\∃aR:qag,Vals xs aR/\IsTup h a 94
 |.dK bj=>531<=sizeLine/\495=false/\∃vs,KV bj vs/\h.DictOf (bN P w) a vs
 |.dT bj=>531<=sizeLine/\495=false/\∃xs:List (List Key×Addr×Value),
  Paired (λ(p:List Key×V) (q:List Key×Addr×Value)=>p.1=q.1/\H q.2.1\.tup (p.1.map kV)/\RelV p.2 q.2.2) bj xs /\
  ∃o es ep,h.get? a\o/\o.ExactDict/\496=.dict es ep/\es.toList=xs.map (entryOfKey (tupleKind (bN P w)))/\(xs.map (·.1)).Nodup
 |.set S n=>h.SetOf (intKind P w) a S n
 |.ins C dx fs=>H dx\.own a/\fs.length<=1000/\dx≠a/\h.get? a\W.instObj C dx /\
  ∃mA,h.Ns1 dx mA/\(∀f,l7 (fs.lookup f) (mA f))/\PySem.Within mA (fs.map (·.1))
 |.own _=>∃o,h.get? a\o
 |.xd fs=>∃mA,h.Ns1 a mA/\∀f,l7 (fs.lookup f) (mA f)
 |.rng lo hi=>∃t u v,h.get? a=some {cls:=.type "range",data:=.fields 484}
 |.k6 o u=>h.get? a\o/\cb H h a u
 |.Uc ps=>h.get? a=some {cls:=.none,data:=.fields ps}
 |.met f x=>h.get? a\W.methodObj 536 (.ref x)
 |.ext φ=>φ h/\(∃o,h.get? a\o)/\∀h1 h2:Heap,φ h1->(∀o,h1.get? a\o->h2.get? a\o)->φ h2
def kL(H:Hp)(h:Heap):Prop:=∀a o,H a\o->cb P w H h a o
end
section
variable{H H':Hp}{o:HO}
def cb.lt(x:cb P w H h a o):a<533:=by
 cases o with
 |lst xs=>let(_,_,_,_,e):=x;calc eR e
 |tup xs=>let(_,_,_,p):=x;calc p.lt
 |dK bj=>let(_,_,_,_,o,_,_,e,_):=x;calc eR e
 |dT bj=>let(_,_,_,_,o,_,_,e,_):=x;calc eR e
 |set S n=>let(o,_,_,_,e,_):=x;calc eR e
 |ins C dx fs=>let(_,_,_,e,_):=x;calc eR e
 |own y=>let(_,e):=x;calc eR e
 |xd fs=>let(_,(_,_,_,e,_),_):=x;calc eR e
 |rng lo hi=>let(_,_,_,e):=x;calc eR e
 |k6 ob u=>let(e,_):=x;calc eR e
 |Uc ps=>calc eR (show h.get? a\_ from x)
 |met f y=>calc eR (show h.get? a\_ from x)
 |ext φ=>let(_,(_,e),_):=x;calc eR e
theorem Paired.pL{α β:Type}{F G:α->β->Prop}:∀{l₁:List α}{l₂:List β},Paired F l₁ l₂->(∀a b,F a b->G a b)->Paired G l₁ l₂
 |_,_,.nil,_=>.nil
 |_,_,.cons r t,f=>.cons (f _ _ r) (Paired.pL t f)
def cb.Bs(x:cb P w H h a o)(k:∀b u,(b=a\/H b\.own a)->h.get? b\u->h'.get? b\u)(ho:∀b,H b\.own a->H' b\.own a)(ht:∀b xs,H b\.tup xs->H' b\.tup xs):cb P w H' h' a o:=by
 induction o with
 |lst xs=>let(z,aR,n,r,e):=x;calc#[z,aR,n,r,k _ _ 7 e]
 |tup xs=>let(z,aR,r,ob,e,c):=x;calc#[z,aR,r,ob,k _ _ 7 e,c]
 |dK bj=>let(z,y,vs,r,ob,es,ep,e,c):=x;calc#[z,y,vs,r,ob,es,ep,k _ _ 7 e,c]
 |dT bj=>let(z,y,xs,r,ob,es,ep,e,c):=x;calc#[z,y,xs,Paired.pL r λp q z=>#[z.1,ht _ _ z.2.1,z.2.2],ob,es,ep,k _ _ 7 e,c]
 |set S n=>let(ob,es,ep,t,e,c):=x;calc#[ob,es,ep,t,k _ _ 7 e,c]
 |ins C dx fs=>let(d,z,ne,e,mA,(od,es,ep,e2,c),r):=x;calc#[ho _ d,z,ne,k _ _ 7 e,mA,#[od,es,ep,k _ _ (.inr d) e2,c],r]
 |own y=>let(ob,e):=x;calc#[ob,k _ _ 7 e]
 |xd fs=>let(mA,(od,es,ep,e,c),r):=x;calc#[mA,#[od,es,ep,k _ _ 7 e,c],r]
 |rng lo hi=>let(t,u,v,e):=x;calc#[t,u,v,k _ _ 7 e]
 |k6 ob u ih=>let(e,q):=x;calc#[k _ _ 7 e,ih q]
 |Uc ps=>let e:=x;calc k a _ 7 e
 |met f y=>let e:=x;calc k a _ 7 e
 |ext φ=>let(p,(o,e),st):=x;calc#[st _ _ p λo q=>k _ _ 7 q,#[o,k _ _ 7 e],st]
def kL.lt(x:kL P w H h)(e:H a\o):a<533:=(x a o e).lt
def kL.fresh(x:kL P w H h)(e:533<=a):H a=none:=by
 cases q:H a with
 |none=>rfl
 |some u=>calc absurd (tW (x.lt q) e) (Fu _)
def kL.kept(x:kL P w H h)(k:∀b u,h.get? b\u->h'.get? b\u):kL P w H h':=λa o e=>
 (x a o e).Bs (λb u _ q=>k b u q) (λ_ q=>q) λ_ _ q=>q
def kL.laid(x:kL P w H h)(k:∀b u,h.get? b\u->h'.get? b\u)(hp:533<=a)(new:cb P w (upd H a o) h' a o):kL P w (upd H a o) h':=λb u e=>by let hn:=x.fresh hp;by_cases hb:b=a;subst hb;rw[aK] at e;cases e;calc new;rw[aG hb] at e;calc (x b u e).Bs (λc v _ q=>k c v q) (λc q=>by rw[aG (bL q hn)];calc q) λc xs q=>by rw[aG (bL q hn)];calc q
end
def Rd(H:Hp)(a:Addr)(u:HO):Prop:=H a=some u\/∃o,H a\.k6 o u
def Rd.ok{H:Hp}{u:HO}(r:Rd H a u)(x:kL P w H h):cb P w H h a u:=by
 obtain r|⟨o,r⟩:=r
 calc x a u r;let(_,q):=x a _ r;calc q
def YV:Option HO->Prop
 |some (.lst _)=>True
 |some (.dK _)=>True
 |some (.dT _)=>True
 |some (.set _ _)=>True
 |some (.ins _ _ _)=>True
 |some (.ext _)=>True
 |_=>False
section
variable{H:Hp}{x e:Addr}{o':HO}
def kL.write(ok:kL P w H h)(mu:YV (H x))(he:e=x\/H e\.own x)(k:∀b u,b≠e->h.get? b\u->h'.get? b\u)(R0:∃u,h'.get? e\u)(new:cb P w (upd H x o') h' x o'):kL P w (upd H x o') h':=λb u q=>by
 let YW:∀c y,H c\.own y->c≠x:=λc y r z=>by subst z;rw[r] at mu;exact mu
 let aeX:∀c xs,H c\.tup xs->c≠x:=λc xs r z=>by subst z;rw[r] at mu;exact mu
 by_cases hb:b=x;subst hb;rw[aK] at q;cases q;calc new;rw[aG hb] at q;by_cases Ia:b=e;let q':H b\.own x:=by
  obtain z|z:=he
  calc absurd (Ia.trans z) hb;rw[Ia];exact z
 rw[q] at q';cases q';let(v,hv):=R0;calc#[v,by rw[Ia];calc hv];show (ok b u q).Bs (λc v hc r=>k c v ?_ r) (λc r=>by rw[aG (YW c b r)];calc r) λc xs r=>by rw[aG (aeX c xs r)];exact r
 obtain rfl|hc:=hc
 calc Ia;rintro rfl;obtain z|z:=he
 calc YW c b hc z;rw[hc] at z;cases z;calc hb 9
end
structure Un(fs ex:zm)(H H':Hp)(h h':Heap):Prop where
 keep:∀b o,h.get? b\o->H b=none->b∉fs->b∉ex->h'.get? b\o
 slot:∀b o,h.get? b\o->H b=none->b∈fs->b∉ex->∃sl,h'.get? b=some {o with slots:=sl}
 free:∀b o,h.get? b\o->H b=none->b∉ex->H' b=none
 there:∀b o,h.get? b\o->b∉ex->∃o',h'.get? b\o'
 yy:∀b xs,H b\.tup xs->H' b\.tup xs
 vK:∀b o u,H b\.k6 o u->H' b\.k6 o u
 yz:∀b ps,H b\.Uc ps->∃more,H' b\.Uc (ps++more)
section
variable{fs fs' ex ex':zm}{H H1 H2:Hp}{h1 h2:Heap}{x e:Addr}{o:HO}
def Un.any(u:Un fs ex H H1 h h1){b:Addr}{ob:Obj}(q:h.get? b\ob)(n:H b=none)(hx:b∉ex):∃sl,h1.get? b=some {ob with slots:=sl}:=by by_cases hb:b∈fs;calc u.slot b ob q n hb hx;calc#[ob.slots,u.keep b ob q n hb hx]
def Un.kept(k:∀b u,h.get? b\u->h'.get? b\u):Un fs ex H H h h' :=
 #[λb ob q _ _ _=>k b ob q,λb ob q _ _ _=>#[ob.slots,k b ob q],λ_ _ _ n _=>n,λb ob q _=>#[ob,k b ob q],λ_ _ q=>q,λ_ _ _ q=>q,λ_ ps q=>#[83,by rw[q];simp]]
def Un.refl:Un fs ex H H h h:=Un.kept λ_ _ q=>q
def Un.laid(k:∀b u,h.get? b\u->h'.get? b\u)(hp:533<=a)(hn:H a=none):Un fs ex H (upd H a o) h h' where
 keep:=λb u q _ _ _=>k b u q
 slot:=λb u q _ _ _=>#[u.slots,k b u q]
 free:=λb u q n _=>by rw[aG (hU (tW (eR q) hp))];exact n
 there:=λb u q _=>#[u,k b u q]
 yy:=λb xs q=>by rw[aG (bL q hn)];exact q
 vK:=λb u xs q=>by rw[aG (bL q hn)];exact q
 yz:=λb ps q=>#[83,by rw[aG (bL q hn),q];simp]
def Un.write(mu:YV (H x))(he:e=x\/H e\.own x)(k:∀b u,b≠e->h.get? b\u->h'.get? b\u)(R0:∃u,h'.get? e\u):Un fs ex H (upd H x o) h h':=by
 let hx:∀b,H b=none->b≠x:=λb n z=>by subst z;rw[n] at mu;exact mu
 let hb:∀b,H b=none->b≠e:=λb n z=>by
  subst z;obtain r|r:=he
  calc hx b n r;rw[n] at r;cases r
 let hm:∀b u,H b\u->¬ YV (some u)->b≠x:=λb u q nm z=>by subst z;rw[q] at mu;exact nm mu
 show#[λb u q n _ _=>k b u (hb b n) q,λb u q n _ _=>#[u.slots,k b u (hb b n) q],λb u q n _=>by rw[aG (hx b n)];exact n,λb u q _=>?_,
  λb xs q=>by rw[aG (hm b _ q λz=>z)];calc q,λb u xs q=>by rw[aG (hm b _ q λz=>z)];calc q,λb ps q=>#[83,by rw[aG (hm b _ q λz=>z),q];simp]]
 by_cases Ia:b=e;subst Ia;calc R0;calc#[u,k b u Ia q]
end
def trk(h:Heap)(H:Hp):zm:=(List.range 533).filter λa=>(H a).isSome
def yA(h:Heap)(H:Hp):Heap:=W.hideAll h (trk h H)
def Fz(h:Heap)(H:Hp):(yA h H).objs.size=533:=W.hideAll_size _ _
def IF{H:Hp}{b:Addr}{o:Obj}(e:h.get? b\o)(n:H b=none):(yA h H).get? b\o :=
 W.hideAll_get _ e λhm=>by let q:=(N0.mp hm).2;rw[n] at q;simp at q
def N3{H:Hp}{b:Addr}{o:Obj}(e:(yA h H).get? b\o):h.get? b\o/\H b=none:=by
 let e':=W.of_hideAll (trk h H) e;show#[e',?_];cases q:H b with
 |none=>rfl
 |some x=>let hm:b∈trk h H:=N0.mpr #[Bf.mpr (eR e'),by simp[q]];let z:(yA h H).get? b=none:=W.hideAll_none (trk h H) hm;rw[z] at e;cases e
def N4(g h:Heap)(L:Addr):qaa:=(List.range 533).filterMap λa=>if a=L\/(g.get? a).isSome=true then none else (h.get? a).map λo=>(a,o)
def rest(g h:Heap)(L d:Addr):qaa:=(N4 g h L).filter λp=>decide (p.1≠d)
structure Mod(K:qaf)(mg:qae)(base:Heap):Prop where
 kin:K.In base
 glob:base.Ns mainGlobals mg
 blt:∃mb,base.Ns builtinsNs mb/\∀x:Str,x≠"__name__"->mb x=bootBuiltins x
 nolimit:base.NoLimit
structure Cx where
 prog:Program
 w:World
 K:qaf
 mg:qae
 base:Heap
 A:Around
 N:χ
 s₀:Shared
 H₀:Hp
 env:Env
 outer:List Env
 stack:List Env
 ex:zm
 fn:Str->Bool
 calm:Bool
 pn:qaa
 xe:qad
def Ib(l:List Env):zm:=l.filterMap (·.frame)
abbrev Cx.fs(X:Cx):zm:=Ib X.outer
def nI(sc:Scope)(x:Str):Prop:=sc.names.lookup x=some .local\/sc.names.lookup x\.cell\/sc.names.lookup x\.free
def Loc(sc:Scope)(x:Str):Prop:=sc.names.lookup x=some .local\/sc.names.lookup x\.cell
def Look(env:Env)(h:Heap)(m:qae)(x:Str)(u:Value):Prop :=
 (env.kindOf x\.local/\m x\u)\/((env.kindOf x\.cell\/env.kindOf x\.free)/\∃c,env.cells.lookup x\c/\h.IsCell c (some u))
structure Cx.Ok(X:Cx):Prop where
 mod:Mod X.K X.mg X.base
 kind:X.env.scope.kind=.function
 glob:X.env.globals=mainGlobals
 blt:X.env.builtins=builtinsNs
 above:458<=174
 inj:∀x y c,X.env.cells.lookup x\c->X.env.cells.lookup y\c->x=y
 has:∀x,(X.env.kindOf x\.cell\/X.env.kindOf x\.free)->∃c,X.env.cells.lookup x\c
 YX:∀x c,X.fn x=true->X.env.cells.lookup x\c->458<=c
 hd:X.calm=true->X.A.handled=none
 frames:X.A.frames\X.stack
 stk:X.stack=X.outer\/(X.stack=3::X.outer/\X.env.frame\174)
 exf:∀b∈X.ex,b≠174/\∀x c,X.env.cells.lookup x\c->c≠b
 bs:∀b o,X.base.get? b\o->X.s₀.heap.get? b\o/\X.H₀ b=none
 N5:X.base.objs.size<=458
 IG:∀b o,X.base.get? b\o->b∉X.ex
 N6:∀b∈X.ex,b∉X.fs
 pM:X.s₀.heap.FunFrames X.base X.outer
 Ud:∀b∈X.fs,X.H₀ b=none
structure Inv(X:Cx)(ε:qaa)(σ:List (Option V))(H:Hp)(s:Shared):Prop where
 ok:X.Ok
 os:s.os=X.s₀.os
 bare:AllBare s.gens
 base:Un X.fs X.ex X.H₀ H X.s₀.heap 69
 loc:∃m,s.heap.Ns 174 m/\∀(i:Nat)(x:Str)(v:V),X.N[i]?\x->σ[i]?\some v->nI 39 x->∃u,RelV v u/\Look 3 69 m x u
 cell:∀x c,X.env.cells.lookup x\c->∃v,s.heap.IsCell c v
 free:H 174=none
 i_:∀x c,X.env.cells.lookup x\c->H c=none
 pin:∀p∈X.pn++ε,s.heap.get? p.1\p.2/\H p.1=none/\p.1≠174/\p.1∉X.fs/\∀v,p.2.data≠.cell v
 bZ:kL 33 X.w H 69
 len:σ.length=X.N.length
section
variable{X:Cx}{ε:qaa}{σ:List (Option V)}{H H':Hp}
def Cx.Ok.aeY(ok:X.Ok){b:Addr}{o:Obj}(e:X.base.get? b\o):b∉X.fs:=λhb=>by have:=(ok.pM.mem hb).1;rw[e] at this;cases this
def Inv.bs(I:Inv X ε σ H s):∀b o,X.base.get? b\o->s.heap.get? b\o/\H b=none:=λb o e=>
 #[I.base.keep b o (I.ok.bs b o e).1 (I.ok.bs b o e).2 (I.ok.aeY e) (I.ok.IG b o e),I.base.free b o (I.ok.bs b o e).1 (I.ok.bs b o e).2 (I.ok.IG b o e)]
def Inv.bk(I:Inv X ε σ H s):∀b o,X.base.get? b\o->s.heap.get? b\o:=λb o e=>(I.bs b o e).1
def Inv.mod(I:Inv X ε σ H s):Mod X.K X.mg X.base:=I.ok.mod
def Inv.vL(I:Inv X ε σ H s):X.K.In 69:=I.ok.mod.kin.keeps I.bk
def Inv.lt(I:Inv X ε σ H s):174<8:=let #[_,hn,_]:=I.loc;hn.lt
def Inv.sz(I:Inv X ε σ H s):458<=8:=kJ I.ok.above (T6 I.lt)
def Inv.aeZ(I:Inv X ε σ H s)(h:8<=a):a∉X.fs:=λhb=>by let(_,o,ho,_):=I.ok.pM.mem hb;calc absurd (tW (eR ho) (kJ I.sz h)) (Fu _)
def Inv.N7(I:Inv X ε σ H s):∀x c,X.env.cells.lookup x\c->c≠174:=λx c e z=>by let(v,o,ho,hd):=I.cell x c e;let(m,(o',es,ep,qz,hd',_),_):=I.loc;rw[z,qz] at ho;cases ho;rw[hd'] at hd;cases hd
def Inv.pM(I:Inv X ε σ H s):s.heap.FunFrames X.base X.outer:=by
 let all:∀l,(∀b∈Ib l,b∈X.fs)->X.s₀.heap.FunFrames X.base l->s.heap.FunFrames X.base l:=by
  intro l;induction l with
  |nil=>intro _ _;trivial
  |cons env r ih=>intro hs hl;let(hk,(L,o,hf,hn,ho,hd),hr):=hl;let hL:=hs L (by unfold Ib;rw[tV,hf];calc iz);let(sl,e):=I.base.slot L o ho (I.ok.Ud L hL) hL λz=>I.ok.N6 L z hL;exact#[hk,#[L,_,hf,hn,e,hd],ih (λb hb=>hs b (by unfold Ib;rw[tV,hf];calc iB _ hb)) hr]
 calc all X.outer (λ_ hb=>hb) I.ok.pM
def Inv.stack(I:Inv X ε σ H s):s.heap.FunFrames X.base X.stack:=by
 obtain e|⟨e,hf⟩:=I.ok.stk
 rw[e];calc I.pM;rw[e];let(m,hn,_):=I.loc;calc .cons (by rw[I.ok.kind];decide) hf hn (Heap.get?_none_of_le (kJ I.ok.N5 I.ok.above)) I.pM
def Inv.Bt(I:Inv X ε σ H s):∀b∈Ib X.stack,b∈174::X.fs:=λb hb=>by
 obtain e|⟨e,hf⟩:=I.ok.stk
 rw[e] at hb;calc iB _ hb;rw[e] at hb;unfold Ib at hb;rw[tV,hf] at hb;calc hb
def Inv.DE(I:Inv X ε σ H s):∀b∈Ib X.stack,H b=none:=λb hb=>by
 rcases dQ.mp (I.Bt b hb) with e|hb
 rw[e];calc I.free;let(_,o,ho,_):=I.ok.pM.mem hb;calc I.base.free b o ho (I.ok.Ud b hb) λz=>I.ok.N6 b z hb
def Inv.step{g':Array GenState}{d':Drawn}{ch:zm}(I:Inv X ε σ H s)(NK:∀b∈ch,501/\b≠174/\(∀x c,X.env.cells.lookup x\c->c≠b)/\∀p∈X.pn++ε,p.1≠b)(keep:∀b o,b≠174->b∉X.fs->b∉ch->s.heap.get? b\o->H b=none->h'.get? b\o)(slot:∀b o,b≠174->b∈X.fs->b∉ch->s.heap.get? b\o->H b=none->∃sl,h'.get? b=some {o with slots:=sl})(free:∀b o,b∉ch->s.heap.get? b\o->H b=none->H' b=none)(there:∀b o,b∉ch->s.heap.get? b\o->∃o',h'.get? b\o')(yy:∀b xs,H b\.tup xs->H' b\.tup xs)(vK:∀b o u,H b\.k6 o u->H' b\.k6 o u)(yz:∀b ps,H b\.Uc ps->∃more,H' b\.Uc (ps++more))(ns:∀m,s.heap.Ns 174 m->h'.Ns 174 m)(bZ:kL 33 X.w H' h')(hg:AllBare g') :
  Inv X ε σ H' {s with heap:=h',gens:=g',drawn:=d',toks:=t'}:=by
 let neL:∀b o,X.s₀.heap.get? b\o->b≠X.env.locals:=λb o e=>hU (tW (eR e) I.ok.above);let neC:∀b o,X.s₀.heap.get? b\o->b∉X.ex->b∉ch:=λb o e hx hb=>by
  rcases (NK b hb).1 with z|z
  calc hx z;exact absurd (tW (eR e) z) (Fu _)
 let cellK:∀x c,X.env.cells.lookup x\c->∀v,s.heap.IsCell c v->h'.IsCell c v:=λx c e v #[o,ho,hd]=>by let IH:=λz=>(NK c z).2.2.1 x c e 9;by_cases hc:c∈X.fs;let(sl,q):=slot c o (I.N7 x c e) hc IH ho (I.i_ x c e);calc#[_,q,hd];exact#[o,keep c o (I.N7 x c e) hc IH ho (I.i_ x c e),hd]
 show#[I.ok,I.os,hg,#[λb o e n hb hx=>?_,λb o e n hb hx=>?_,λb o e n hx=>?_,λb o e hx=>?_,λb xs e=>yy b xs (I.base.yy b xs e),λb o xs e=>vK b o xs (I.base.vK b o xs e),λb ps e=>?_],?_,λx c e=>?_,?_,λx c e=>?_,λp hp=>?_,bZ,I.len];calc keep b o (neL b o e) hb (neC b o e hx) (I.base.keep b o e n hb hx) (I.base.free b o e n hx);let(sl,e1):=I.base.slot b o e n hb hx;let(sl',e2):=slot b _ (neL b o e) hb (neC b o e hx) e1 (I.base.free b o e n hx);calc#[sl',e2];let(o',e1):=I.base.there b o e hx;calc free b o' (neC b o e hx) e1 (I.base.free b o e n hx);let(o',e1):=I.base.there b o e hx;calc there b o' (neC b o e hx) e1;let(m1,e1):=I.base.yz b ps e;let(m2,e2):=yz b _ e1;calc#[m1++m2,by rw[e2,Array.append_assoc]];let(m,hn,hl):=I.loc;show#[m,ns m hn,λi x v e1 e2 e3=>?_];let(u,r,l):=hl i x v e1 e2 e3;show#[u,r,?_];obtain l|⟨k,c,e,z⟩:=l
 calc .inl l;calc .inr #[k,c,e,cellK x c e _ z];let(v,z):=I.cell x c e;calc#[v,cellK x c e v z];let(m,(o,_,_,ho,_),_):=I.loc;calc free _ o (λz=>(NK _ z).2.1 9) ho I.free;let(v,o,ho,hd):=I.cell x c e;calc free c o (λz=>(NK c z).2.2.1 x c e 9) ho (I.i_ x c e);let(e,n,ne,nf,d):=I.pin p hp;let IH:=λz=>(NK p.1 z).2.2.2 p hp 9;calc#[keep p.1 p.2 ne nf IH e n,free p.1 p.2 IH e n,ne,nf,d]
def Inv.un(I:Inv X ε σ H s)(u:Un X.fs [] H H' 69 h')(bZ:kL 33 X.w H' h'):Inv X ε σ H' {s with heap:=h',toks:=t'}:=by
 let(m,(o,es,ep,ho,r),_):=id I.loc;let(sl,hL):=u.any ho I.free 6;calc I.step (ch:=[]) (λ_ z=>nomatch z) (λb o _ hb _ e n=>u.keep b o e n hb 6) (λb o _ hb _ e n=>u.slot b o e n hb 6) (λb o _ e n=>u.free b o e n 6) (λb o _ e=>u.there b o e 6) u.yy u.vK u.yz (λm' hm=>by let(o',uJ,YY,qz,r'):=hm;rw[ho] at qz;cases qz;calc#[_,uJ,YY,hL,r']) bZ I.bare
def Inv.call{g':Array GenState}{d':Drawn}{ch:zm}(I:Inv X ε σ H s)(u:Un (Ib X.stack) ch H H' 69 h')(bZ:kL 33 X.w H' h')(hg:AllBare g')(NK:∀b∈ch,501/\b≠174/\(∀x c,X.env.cells.lookup x\c->c≠b)/\∀p∈X.pn++ε,p.1≠b) :
  Inv X ε σ H' {s with heap:=h',gens:=g',drawn:=d',toks:=t'}:=by
 let(m,(o,es,ep,ho,r),_):=id I.loc;let(sl,hL):=u.any ho I.free λz=>(NK _ z).2.1 9;calc I.step NK (λb o hL hb hc e n=>u.keep b o e n (λz=>(dQ.mp (I.Bt b z)).elim hL hb) hc) (λb o _ _ hc e n=>u.any e n hc) (λb o hc e n=>u.free b o e n hc) (λb o hc e=>u.there b o e hc) u.yy u.vK u.yz (λm' hm=>by let(o',uJ,YY,qz,r'):=hm;rw[ho] at qz;cases qz;calc#[_,uJ,YY,hL,r']) bZ hg
def Inv.turned(I:Inv X ε σ H s)(k:∀b o,b≠it->s.heap.get? b\o->h'.get? b\o)(hn:H it=none)(hL:it≠174)(h1:it∈X.ex\/458<=it)(h2:∀x c,X.env.cells.lookup x\c->c≠it)(h3:∀p∈X.pn++ε,p.1≠it):Inv X ε σ H {s with heap:=h',toks:=t'}:=by
 let N8:∀b u,H b\u->b≠it:=λb u e z=>by rw[z,hn] at e;cases e
 show I.step (ch:=[it]) (λb hb=>?_) (λb o _ _ hc e _=>k b o (λz=>hc (by simp[z])) e) (λb o _ _ hc e _=>#[o.slots,k b o (λz=>hc (by simp[z])) e]) (λ_ _ _ _ n=>n)
  (λb o hc e=>#[o,k b o (λz=>hc (by simp[z])) e]) (λ_ _ e=>e) (λ_ _ _ e=>e) (λb ps e=>#[83,by rw[e];simp]) (λm hm=>?_) (λb u e=>?_) I.bare
 let e:b=it:=by simpa using hb
 subst e;calc#[h1,hL,h2,h3];let(o,es,ep,ho,r):=hm;calc#[o,es,ep,k _ o (Ne.symm hL) ho,r];show (I.bZ b u e).Bs (λc v hc q=>k c v ?_ q) (λ_ q=>q) λ_ _ q=>q;obtain z|z:=hc
 rw[z];calc N8 b u e;calc N8 c _ z
def Inv.tok(I:Inv X ε σ H s)(t:Nat):Inv X ε σ H {s with toks:=t}:=I.un Un.refl I.bZ
def Inv.kept(I:Inv X ε σ H s)(k:∀b u,s.heap.get? b\u->h'.get? b\u):Inv X ε σ H {s with heap:=h',toks:=t'}:=I.un (Un.kept k) (I.bZ.kept k)
def Inv.laid{o:HO}(I:Inv X ε σ H s)(k:∀b u,s.heap.get? b\u->h'.get? b\u)(hp:8<=a)(new:cb 33 X.w (upd H a o) h' a o) :
 Inv X ε σ (upd H a o) {s with heap:=h',toks:=t'}:=I.un (Un.laid k hp (I.bZ.fresh hp)) (I.bZ.laid k hp new)
def Inv.write{x e:Addr}{o:HO}(I:Inv X ε σ H s)(mu:YV (H x))(he:e=x\/H e\.own x)(k:∀b u,b≠e->s.heap.get? b\u->h'.get? b\u)(R0:∃u,h'.get? e\u)(new:cb 33 X.w (upd H x o) h' x o):Inv X ε σ (upd H x o) {s with heap:=h',toks:=t'}:=I.un (Un.write mu he k R0) (I.bZ.write mu he k R0 new)
def Inv.weak{σ':List (Option V)}(I:Inv X ε σ H s)(hl:σ'.length=σ.length)(w:∀(i:Nat) v,σ'[i]?\some v->σ[i]?\some v):Inv X ε σ' H s :=
 #[I.ok,I.os,I.bare,I.base,let #[m,hn,N9]:=I.loc;#[m,hn,λi x v e1 e2 e3=>N9 i x v e1 (w i v e2) e3],I.cell,I.free,I.i_,I.pin,I.bZ,hl.trans I.len]
def Inv.DF{DG:qaa}(I:Inv X ε σ H s)(h:∀p∈DG,s.heap.get? p.1\p.2/\H p.1=none/\p.1≠174/\p.1∉X.fs/\∀v,p.2.data≠.cell v):Inv X DG σ H s :=
 #[I.ok,I.os,I.bare,I.base,I.loc,I.cell,I.free,I.i_,λp hp=>(fO.mp hp).elim (λz=>I.pin p (hX _ z)) (h p),I.bZ,I.len]
def yB{N:χ}(hN:N.Nodup)(a:N[i]?\x)(b:N[j]?\x):i=j:=by let(h1,e1):=c7.mp a;let(h2,e2):=c7.mp b;calc (List.getElem_inj hN).mp (e1.trans e2.symm)
def uK{M:Model}{E:qad}{v:V}{Q:Unit->Shared->Prop}(I:Inv X ε σ H s)(hN:X.N.Nodup)(hi:X.N[i]?\x)(hx:Loc 39 x)(r:RelV v u)(h:∀s',Inv X ε (σ.set i (some v)) H s'->(∃a,Heap.SameBut a 69 s'.heap/\(a=174\/X.env.cells.lookup x\a))->Q Unit.unit s')(hf:X.fn x=true\/X.env.scope.names.lookup x\.local:=by first|calc .inl rfl|calc .inr rfl|assumption):wpAny M A (storeName 3 x u) Q E s:=by
 let(m,hn,hl):=id I.loc;let ae0:(X.env.scope.kind==.class || (X.env.scope.kind==.module && X.env.locals != X.env.globals))=false:=by rw[I.ok.kind];rfl
 let hiσ:i<σ.length:=by rw[I.len];exact (c7.mp hi).1
 let N7:=I.N7;let tracked:∀{a:Addr}{h':Heap},(∃o,s.heap.get? a\o/\H a=none)->Heap.SameBut a s.heap h'->kL X.prog X.w H h':=λ{a h'} ha hs b ob e=>by
  let(_,_,R3):=ha;show (I.bZ b ob e).Bs (λc w' hc q=>(hs.2 c ?_).trans q) (λ_ q=>q) λ_ _ q=>q;rintro rfl;obtain rfl|hc:=hc
  rw[R3] at e;cases e;rw[R3] at hc;cases hc
 obtain hk|hk:=hx
 show wpAny_storeName_local hk hn (λh' hn' hs=>?_) ae0;let(oL,_,_,N_,_):=id hn;show h _ #[I.ok,I.os,I.bare,#[λb o e n hb hx=>?_,λb o e n hb hx=>?_,I.base.free,λb o e hx=>?_,I.base.yy,I.base.vK,I.base.yz],#[_,hn',λj y v' e1 e2 e3=>?_],λy c e=>?_,I.free,I.i_,λp hp=>?_,tracked #[oL,N_,I.free] hs,by simpa using I.len] #[_,hs,.inl 9];calc (hs.2 b (hU (tW (eR e) I.ok.above))).trans (I.base.keep b o e n hb hx);let(sl,e1):=I.base.slot b o e n hb hx;calc#[sl,(hs.2 b (hU (tW (eR e) I.ok.above))).trans e1];let(o',e1):=I.base.there b o e hx;calc#[o',(hs.2 b (hU (tW (eR e) I.ok.above))).trans e1];by_cases hj:j=i;subst hj;rw[hi] at e1;cases e1;rw[DC hiσ] at e2;cases e2;calc#[u,r,.inl #[hk,by simp]];rw[uG (Ne.symm hj)] at e2;let(u',r',q):=hl j y v' e1 e2 e3;show#[u',r',?_];obtain⟨k,e⟩|⟨k,c,e,z⟩:=q
 show .inl #[k,?_];have:y≠x:=λe=>hj (yB hN e1 (e▸hi));simp[this,e];calc .inr #[k,c,e,z.sameBut hs (N7 y c e)];let(w',z):=I.cell y c e;calc#[w',z.sameBut hs (N7 y c e)];let(e,n,ne,nf,d):=I.pin p hp;calc#[(hs.2 p.1 ne).trans e,n,ne,nf,d];let hfn:X.fn x=true:=by
  obtain z|z:=hf
  calc z;rw[z] at hk;cases hk
 let(c,hc):=I.ok.has x (.inl hk);let(w',z):=I.cell x c hc;show wpAny_storeName_cell I.ok.kind hk hc z (λh' tX hs=>?_);let(oc,hoc,ae1):=id z;show h {s with heap:=h'} #[I.ok,I.os,I.bare,#[λb o e n hb hx=>?_,λb o e n hb hx=>?_,I.base.free,λb o e hx=>?_,I.base.yy,I.base.vK,I.base.yz],#[m,hn.sameBut hs (Ne.symm (N7 x c hc)),λj y v' e1 e2 e3=>?_],λy c' e=>?_,I.free,I.i_,λp hp=>?_,tracked #[oc,hoc,I.i_ x c hc] hs,by simpa using I.len] #[c,hs,.inr hc];calc (hs.2 b (hU (tW (eR e) (I.ok.YX x c hfn hc)))).trans (I.base.keep b o e n hb hx);let(sl,e1):=I.base.slot b o e n hb hx;calc#[sl,(hs.2 b (hU (tW (eR e) (I.ok.YX x c hfn hc)))).trans e1];let(o',e1):=I.base.there b o e hx;calc#[o',(hs.2 b (hU (tW (eR e) (I.ok.YX x c hfn hc)))).trans e1];by_cases hj:j=i;subst hj;rw[hi] at e1;cases e1;rw[DC hiσ] at e2;cases e2;calc#[u,r,.inr #[.inl hk,c,hc,tX]];rw[uG (Ne.symm hj)] at e2;let(u',r',q):=hl j y v' e1 e2 e3;show#[u',r',?_];obtain q|⟨k,c',e,z'⟩:=q
 calc .inl q;show .inr #[k,c',e,z'.sameBut hs ?_];rintro rfl;calc hj (yB hN e1 (I.ok.inj _ _ _ e hc▸hi));by_cases hcc:c'=c;subst hcc;calc#[_,tX];let(w2,z2):=I.cell y c' e;calc#[w2,z2.sameBut hs hcc];let(e,n,ne,nf,d):=I.pin p hp;show#[(hs.2 p.1 ?_).trans e,n,ne,nf,d];intro q;rw[q,hoc] at e;let q':=Option.some.inj e;calc d w' (by rw[<- q'];calc ae1)
def qA{M:Model}{E:qad}{v:V}{Q:Unit->Shared->Prop}(I:Inv X ε σ H s)(hN:X.N.Nodup)(hi:X.N[i]?\x)(hx:Loc 39 x)(r:RelV v u)(h:∀s',Inv X ε (σ.set i (some v)) H s'->Q Unit.unit s')(hf:X.fn x=true\/X.env.scope.names.lookup x\.local:=by first|calc .inl rfl|calc .inr rfl|assumption):wpAny M A (storeName 3 x u) Q E s :=
 uK I hN hi hx r (λs' I' _=>h s' I') hf
def Inv.YZ{ch:zm}(I:Inv X ε σ H s)(ho:s'.os=s.os)(u:Un (Ib X.stack) ch H H' 69 s'.heap)(bZ:kL 33 X.w H' s'.heap)(hg:AllBare s'.gens)(NK:∀b∈ch,501/\b≠174/\(∀x c,X.env.cells.lookup x\c->c≠b)/\∀p∈X.pn++ε,p.1≠b):Inv X ε σ H' s':=by let(h',g',d',t',o'):=s';let e:=ho;subst e;calc I.call u bZ hg NK
end
abbrev XK:=Value->qar->Hp->Prop
abbrev St:=List (Option V)
abbrev VK:=V->Hp->Prop
abbrev TE:=St->Hp->VK->Prop
abbrev TT:=St->Hp->(Bool->Hp->Prop)->Prop
abbrev TA:=St->Hp->(List V->Hp->Prop)->Prop
structure Ends where
 nx:St->Hp->Prop
 rt:VK
 bk:St->Hp->Prop:=λ_ _=>False
 ct:St->Hp->Prop:=λ_ _=>False
abbrev TS:=Ends->St->Hp->Prop
def EP(X:Cx)(ε:qaa)(σ:St)(Q:VK)(u:Value)(s':Shared):Prop:=∃v H',Inv X ε σ H' s'/\RelV v u/\Q v H'
def TP(X:Cx)(ε:qaa)(σ:St)(Q:Bool->Hp->Prop)(b:Bool)(s':Shared):Prop:=∃H',Inv X ε σ H' s'/\Q b H'
def AP(X:Cx)(ε:qaa)(σ:St)(Q:List V->Hp->Prop)(us:qag)(s':Shared):Prop:=∃vs H',Inv X ε σ H' s'/\Vals vs us/\Q vs H'
def SP(X:Cx)(ε:qaa)(D:Ends)(f:Flow)(s':Shared):Prop :=
 match f with
 |.next=>∃σ' H',Inv X ε σ' H' s'/\D.nx σ' H'
 |.brk=>∃σ' H',Inv X ε σ' H' s'/\D.bk σ' H'
 |.cont=>∃σ' H',Inv X ε σ' H' s'/\D.ct σ' H'
 |.ret u=>∃v σ' H',Inv X ε σ' H' s'/\RelV v u/\D.rt v H'
def PE(X:Cx)(e:Expr)(t:TE):Prop :=
 ∀(ε:qaa)(s:Shared)(σ:St)(H:Hp)(Q:VK),Inv X ε σ H s->t σ H Q->wpAny 17 X.A (eval e 3) 491 X.xe s
def PT(X:Cx)(e:Expr)(t:TT):Prop :=
 ∀(ε:qaa)(s:Shared)(σ:St)(H:Hp)(Q:Bool->Hp->Prop),Inv X ε σ H s->t σ H Q->wpAny 17 X.A (isTrue e 3 (eval e 3)) (TP X ε σ Q) X.xe s
def PW(X:Cx)(e:Expr)(t:TT):Prop :=
 ∀(whole:Sem Value)(ε:qaa)(s:Shared)(σ:St)(H:Hp)(Q:Bool->Hp->Prop),Inv X ε σ H s->t σ H Q->wpAny 17 X.A (isTrue e 3 whole) (TP X ε σ Q) X.xe s
def PW.pt{X:Cx}{t:TT}(h:PW X e t):PT X e t:=h _
def PA(X:Cx)(es:qap)(t:TA):Prop :=
 ∀(pos:Pos)(ε:qaa)(s:Shared)(σ:St)(H:Hp)(Q:List V->Hp->Prop),Inv X ε σ H s->t σ H Q->wpAny 17 X.A (spliced (backTo pos 90)) (AP X ε σ Q) X.xe s
def PS(X:Cx)(st:Stmt)(t:TS):Prop :=
 ∀(ε:qaa)(s:Shared)(σ:St)(H:Hp)(D:Ends),Inv X ε σ H s->t D σ H->wpAny 17 X.A (exec st 3) (SP X ε D) X.xe s
def ko(X:Cx)(st:qaq)(t:TS):Prop :=
 ∀(ε:qaa)(s:Shared)(σ:St)(H:Hp)(D:Ends),Inv X ε σ H s->t D σ H->wpAny 17 X.A (execs st 3) (SP X ε D) X.xe s
def cT{t:Sem α}{Q Q':α->Shared->Prop}{M:Model}{E:qad}(h:wpAny M A t Q E s)(hQ:∀a s,Q a s->Q' a s):wpAny M A t Q' E s:=F1 h hQ λ_ _ x=>x
section
variable{X:Cx}
def FC(i:Nat):TE:=λσ H Q=>∃v,σ[i]?\some v/\Q v H
def tC(v:V):TE:=λ_ H Q=>Q v H
def cF{pos:Pos}(hN:X.N[i]?\x)(hv:nI 39 x)(hd:gD x:=by decide)(fL:qt x:=by decide):PE X (.Name x pos) (FC i):=by
 intro ε s σ H Q I h;let(v,e,h):=h;let(m,hn,hl):=I.loc;let(u,r,l):=hl i x v hN e hv;let fin:EP X ε σ Q u s:=#[v,H,I,r,h];obtain⟨hk,hm⟩|⟨hk,c,hc,DH⟩:=l
 calc wpAny_Name (wpAny_loadName_local I.ok.kind hk hn hm fin) hd;obtain hk|hk:=hk
 calc wpAny_Name (wpAny_loadName_cell I.ok.kind hk hc DH fin) hd;calc wpAny_Name (wpAny_loadName_free I.ok.kind hk hc DH fin fL) hd
def Ue{i j pos}:PE X (.Constant (.int i) j pos) (tC (.int i)):=λ_ _ _ H _ I h=>wpAny_Constant_int #[.int i,H,I.tok _,#[_,9],h]
def Y4{b j pos}:PE X (.Constant (.bool b) j pos) (tC (.bl b)):=λ_ _ _ H _ I h=>Constant_bool #[.bl b,H,I,9,h]
def Ug{j pos}:PE X (.Constant .none j pos) (tC .bY):=λ_ _ _ H _ I h=>Constant_none #[.bY,H,I,9,h]
def Uh{x j pos}:PE X (.Constant 535 j pos) (tC 535):=λ_ _ _ H _ I h=>Calls.Constant_str #[.str x,H,I.tok _,#[_,9],h]
def Gl(X:Cx)(x:Str):Prop:=X.env.kindOf x=some .globalImplicit
def vM{E:qad}{ε:qaa}{σ:St}{H:Hp}{pos:Pos}{Q:qad}(I:Inv X ε σ H s)(hg:Gl X x)(hm:X.mg x\u)(h:Q u s)(hd:gD x:=by decide):wpAny 17 X.A (eval (.Name x pos) 3) Q E s :=
 Calls.Name_function_global I.ok.kind hg (Calls.loadGlobal_global (by rw[I.ok.glob];calc I.mod.glob.keeps I.bk) hm h) hd
def nL{E:qad}{ε:qaa}{σ:St}{H:Hp}{pos:Pos}{Q:qad}(I:Inv X ε σ H s)(hg:Gl X x)(hm:X.mg x=none)(hv:bootBuiltins x\u)(h:Q u s)(hn:x≠"__name__":=by decide)(hd:gD x:=by decide):wpAny 17 X.A (eval (.Name x pos) 3) Q E s:=by let(mb,h1,h2):=I.mod.blt;calc Calls.Name_function_global I.ok.kind hg (Calls.loadGlobal_builtin (by rw[I.ok.glob];calc I.mod.glob.keeps I.bk) hm (by rw[I.ok.blt];calc h1.keeps I.bk) ((h2 x hn).trans hv) h) hd
def DI{v:V}{pos:Pos}(hg:Gl X x)(hm:X.mg x\u)(r:RelV v u)(hd:gD x:=by decide):PE X (.Name x pos) (tC v) :=
 λ_ _ _ H _ I h=>vM I hg hm #[v,H,I,r,h] hd
def N'{v:V}{pos:Pos}(hg:Gl X x)(hm:X.mg x=none)(hv:bootBuiltins x\u)(r:RelV v u)(hn:x≠"__name__":=by decide)(hd:gD x:=by decide):PE X (.Name x pos) (tC v) :=
 λ_ _ _ H _ I h=>nL I hg hm hv #[v,H,I,r,h] hn hd
variable{a:Expr}{ta tb:TE}{pos:Pos}
def tB(t:TE):TT:=λσ H Q=>t σ H λx H1=>∃c,x=.bl c/\Q c H1
def II{t:TE}(h:PE X e t)(he:∀whole,isTrue e 3 whole=(do let v <- whole;standAt e.pos;holding [v] (truthy v)):=by intro _;rfl):PT X e (tB t):=by intro ε s σ H Q I hw;show isTrue_plain (cT (h ε s σ H _ I hw) λv s1 #[x,H1,I1,r1,q1]=>?_) (he _);let(d,rfl,q):=q1;cases r1;calc v9 #[H1,I1,q]
variable{tA Y5:TT}{rest:qap}
def ae2(t u:TT):TT:=λσ H Q=>t σ H λc H1=>if c=true then u σ H1 Q else Q false H1
def tOr(t u:TT):TT:=λσ H Q=>t σ H λc H1=>if c=true then Q true H1 else u σ H1 Q
def ae3(t:TT):TT:=λσ H Q=>t σ H λc H1=>Q (!c) H1
def pw_and1(ha:PT X a tA):PW X (.BoolOp .And [a] pos) tA:=by
 intro wh ε s σ H Q I h;show isTrue_and (cT (ha ε s σ H Q I h) λc s1 e=>?_);cases c with
 |true=>calc isTrue_and_nil e
 |false=>calc e
def pw_or1(ha:PT X a tA):PW X (.BoolOp .Or [a] pos) tA:=by
 intro wh ε s σ H Q I h;show isTrue_or (cT (ha ε s σ H Q I h) λc s1 e=>?_);cases c with
 |false=>calc isTrue_or_nil e
 |true=>calc e
def pw_and(ha:PT X a tA)(hb:PW X (.BoolOp .And (b::rest) pos) Y5):PW X (.BoolOp .And (a::b::rest) pos) (ae2 tA Y5):=by
 intro wh ε s σ H Q I h;show isTrue_and (cT 469 λc s1 #[H1,I1,q1]=>?_);cases c with
 |true=>calc hb wh ε s1 σ H1 Q I1 q1
 |false=>calc#[H1,I1,q1]
def pw_or(ha:PT X a tA)(hb:PW X (.BoolOp .Or (b::rest) pos) Y5):PW X (.BoolOp .Or (a::b::rest) pos) (tOr tA Y5):=by
 intro wh ε s σ H Q I h;show isTrue_or (cT 469 λc s1 #[H1,I1,q1]=>?_);cases c with
 |true=>calc#[H1,I1,q1]
 |false=>calc hb wh ε s1 σ H1 Q I1 q1
def Ui(ha:PT X a tA):PT X (.UnaryOp .Not a pos) (ae3 tA):=by intro ε s σ H Q I h;calc isTrue_not (ha ε s σ H (λc H1=>Q (!c) H1) I h)
def Y6(ta tb:TE):TE:=λσ H Q=>ta σ H λx H1=>∃c,x=.bl c/\if c=true then tb σ H1 Q else Q (.bl false) H1
def ae4(ta tb:TE):TE:=λσ H Q=>ta σ H λx H1=>∃c,x=.bl c/\if c=true then Q (.bl true) H1 else tb σ H1 Q
def Uj{op}{t:TE}(h:PE X a t):PE X (.BoolOp op [a] pos) t:=λε s σ H Q I hw=>BoolOp_one (h ε s σ H Q I hw)
def Uk(ha:PE X a ta)(hb:PE X (.BoolOp .And (b::rest) pos) tb):PE X (.BoolOp .And (a::b::rest) pos) (Y6 ta tb):=by
 intro ε s σ H Q I h;show BoolOp_and (cT 469 λv s1 #[x,H1,I1,r1,q1]=>?_);let(c,rfl,q1):=q1;cases r1;show v9 ?_;cases c with
 |true=>calc hb ε s1 σ H1 Q I1 q1
 |false=>calc#[.bl false,H1,I1,9,q1]
def Y7(ha:PE X a ta)(hb:PE X (.BoolOp .Or (b::rest) pos) tb):PE X (.BoolOp .Or (a::b::rest) pos) (ae4 ta tb):=by
 intro ε s σ H Q I h;show BoolOp_or (cT 469 λv s1 #[x,H1,I1,r1,q1]=>?_);let(c,rfl,q1):=q1;cases r1;show v9 ?_;cases c with
 |false=>calc hb ε s1 σ H1 Q I1 q1
 |true=>calc#[.bl true,H1,I1,9,q1]
def tIf(t:TT)(ta tb:TE):TE:=λσ H Q=>t σ H λc H1=>if c=true then ta σ H1 Q else tb σ H1 Q
def IJ(hc:PT X c tA)(ha:PE X a ta)(hb:PE X b tb):PE X (.IfExp c a b pos) (tIf tA ta tb):=by
 intro ε s σ H Q I h;show wpAny_IfExp (cT (hc ε s σ H _ I h) λd s1 #[H1,I1,q1]=>?_);cases d with
 |true=>calc ha ε s1 σ H1 Q I1 q1
 |false=>calc hb ε s1 σ H1 Q I1 q1
end
def f_(K:qaf)(H:Hp)(a:Addr)(xs:List V):Prop :=
 Rd H a (.lst xs) \/
  ∃(o:Obj)(aR:Array Value)(n:Nat),K.lookup a\o/\o.cls=.type "list"/\o.dict=none/\496=.seq aR n/\aR.size<=sizeLine/\Vals xs aR.toList
def eZ(K:qaf)(H:Hp)(a:Addr)(xs:List V):Prop :=
 Rd H a (.tup xs) \/
  ∃(o:Obj)(aR:Array Value)(n:Nat),K.lookup a\o/\o.cls=.type "tuple"/\496=.seq aR n/\aR.size<=sizeLine/\Vals xs aR.toList
def ae5:Value->Option V
 |.none=>some .bY
 |.bool b=>some (.bl b)
 |.int i _=>some (.int i)
 |.str x _=>some 535
 |.bytes b _=>some (.byt b)
 |.float b _=>some (.flt b)
 |.ref a=>some 110
 |.type n=>some (.ty n)
 |_=>none
def RelV.abs{x:V}(r:RelV x u):ae5 u\x:=by
 cases x with
 |bY=>cases r;rfl
 |bl _=>cases r;rfl
 |ref _=>cases r;rfl
 |ty _=>cases r;rfl
 |_=>let(t,rfl):=r;rfl
def RelV.inj{x y:V}(r:RelV x u)(q:RelV y u):x=y:=Option.some.inj (r.abs.symm.trans q.abs)
theorem Vals.inj:∀{xs ys:List V}{us:qag},Vals xs us->Vals ys us->xs=ys
 |_,_,_,.nil,.nil=>rfl
 |_,_,_,.cons r t,.cons r' t'=>by rw[r.inj r',Vals.inj t t']
section
variable{X:Cx}{ε:qaa}{σ:St}{H:Hp}{xs ys:List V}
def f_.of{K:qaf}(h:H a\.lst xs):f_ K H a xs:=.inl (.inl h)
def eZ.of{K:qaf}(h:H a\.tup xs):eZ K H a xs:=.inl (.inl h)
theorem Inv.list(I:Inv X ε σ H s)(h:f_ X.K H a xs):∃aR:qag,Vals xs aR/\PlainL 69 a 94/\46<=sizeLine:=by
 obtain h|⟨o,aR,n,hk,hc,hd,hs,hz,r⟩:=h
 let(z,aR,n,r,e):=h.ok I.bZ;calc#[aR,r,#[_,n,e,9,9,9],z];show#[aR.toList,r,#[o,n,I.vL a o hk,hc,hd,by simpa using hs],?_];let e:=r.length;erw[Fq] at e
 lia
theorem Inv.tuple(I:Inv X ε σ H s)(h:eZ X.K H a xs):∃aR:qag,Vals xs aR/\IsTup 69 a 94/\46<=sizeLine:=by
 obtain h|⟨o,aR,n,hk,hc,hs,hz,r⟩:=h
 let(z,aR,r,p):=h.ok I.bZ;calc#[aR,r,p,z];show#[aR.toList,r,#[o,I.vL a o hk,hc,n,by simpa using hs],?_];let e:=r.length;erw[Fq] at e
 lia
def Inv.qB(I:Inv X ε σ H s)(h:f_ X.K H a xs)(h':f_ X.K H a ys):xs=ys:=by
 let(aR,r,(o,n,e,_,_,d),_):=I.list h;let(its',r',(o',n',e',_,_,d'),_):=I.list h';rw[e] at e';cases e';rw[d] at d';injection d' with d1 _
 have:aR=its':=by simpa using aaa Array.toList d1
 subst this;calc r.inj r'
def Inv.uL(I:Inv X ε σ H s)(h:eZ X.K H a xs)(h':eZ X.K H a ys):xs=ys:=by
 let(aR,r,(o,e,_,n,d),_):=I.tuple h;let(its',r',(o',e',_,n',d'),_):=I.tuple h';rw[e] at e';cases e';rw[d] at d';injection d' with d1 _
 have:aR=its':=by simpa using aaa Array.toList d1
 subst this;calc r.inj r'
end
abbrev Cx.tY(X:Cx)(E:qad):Cx:={X with xe:=E}
abbrev Cx.vN(X:Cx):Cx:=X.tY λ_ _=>False
def Cx.Ok.tY{X:Cx}(ok:X.Ok)(E:qad):(X.tY E).Ok :=
 #[ok.mod,ok.kind,ok.glob,ok.blt,ok.above,ok.inj,ok.has,ok.YX,ok.hd,ok.frames,ok.stk,ok.exf,ok.bs,ok.N5,ok.IG,ok.N6,ok.pM,ok.Ud]
def Cx.Ok.nM{X:Cx}{E:qad}(ok:(X.tY E).Ok):X.Ok :=
 #[ok.mod,ok.kind,ok.glob,ok.blt,ok.above,ok.inj,ok.has,ok.YX,ok.hd,ok.frames,ok.stk,ok.exf,ok.bs,ok.N5,ok.IG,ok.N6,ok.pM,ok.Ud]
section
variable{X:Cx}{ε:qaa}{σ:St}{H:Hp}{E:qad}
def Inv.tY(I:Inv X ε σ H s)(E:qad):Inv (X.tY E) ε σ H s:=#[I.ok.tY E,I.os,I.bare,I.base,I.loc,I.cell,I.free,I.i_,I.pin,I.bZ,I.len]
def Inv.nM(I:Inv (X.tY E) ε σ H s):Inv X ε σ H s:=#[I.ok.nM,I.os,I.bare,I.base,I.loc,I.cell,I.free,I.i_,I.pin,I.bZ,I.len]
def SP.nM{D:Ends}{f:Flow}(h:SP (X.tY E) ε D f s'):SP X ε D f s':=by
 cases f with
 |ret u=>let(v,σ',H',I,r,q):=h;calc#[v,σ',H',I.nM,r,q]
 |_=>let(σ',H',I,q):=h;calc#[σ',H',I.nM,q]
def ko.vN{st:qaq}{t:TS}(h:ko X.vN st t):ko X st t:=λε s σ H D I hw=>
 F1 (h ε s σ H D (I.tY _) hw) (λ_ _ q=>q.nM) λ_ _ z=>False.elim z
end
section
variable{X:Cx}{st:Stmt}{rest:qaq}{t u:TS}{te:TE}{pos:Pos}
def R5:TS:=λD σ H=>D.nx σ H
def ae6(t u:TS):TS:=λD σ H=>t {D with nx:=u D} σ H
def DJ:ko X [] R5:=λ_ _ σ H _ I h=>aaE #[σ,H,I,h]
def jl(h1:PS X st t)(h2:ko X rest u):ko X (st::rest) (ae6 t u):=by
 intro ε s σ H D I h;show wpAny_execs_cons (cT (h1 ε s σ H {D with nx:=u D} I h) λf s1 q=>?_);cases f with
 |next=>let(σ',H',I',q):=q;calc h2 ε s1 σ' H' D I' q
 |ret v=>calc q
 |_=>calc q
def l8(h1:PS X st t):ko X [st] t:=by
 intro ε s σ H D I h;show wpAny_execs_cons (cT (h1 ε s σ H D I h) λf s1 q=>?_);cases f with
 |next=>calc aaE q
 |ret v=>calc q
 |_=>calc q
def Oa:PS X (.Pass pos) R5:=λ_ _ σ H _ I h=>wpAny_Pass #[σ,H,I,h]
def Inv.quiet{ε:qaa}{σ:St}{H:Hp}(I:Inv X ε σ H s):interactive 3=false:=by simp[interactive,I.ok.kind]
def Y8(te:TE):TS:=λD σ H=>te σ H λ_ H1=>D.nx σ H1
def Ob(he:PE X e te)(hs:swapsWith e none pos.line 3=pure false:=by rfl):PS X (.Expr e pos) (Y8 te):=by intro ε s σ H D I h;calc wpAny_Expr_any (cT 520 λv s1 #[x,H1,I1,r1,q1]=>#[σ,H1,I1,q1]) I.quiet hs
def ae7(te:TE):TS:=λD σ H=>te σ H D.rt
def Bu(he:PE X e te):PS X (.Return (some e) pos) (ae7 te):=by intro ε s σ H D I h;calc wpAny_Return_some (cT 520 λv s1 #[x,H1,I1,r1,q1]=>#[x,σ,H1,I1,r1,q1])
def ae8(c:TT)(t u:TS):TS:=λD σ H=>c σ H λb H1=>if b=true then t D σ H1 else u D σ H1
def R6{a b:qaq}{tc:TT}(hc:PT X c tc)(ha:ko X a t)(hb:ko X b u):PS X (.If c a b pos) (ae8 tc t u):=by
 intro ε s σ H D I h;show wpAny_If (cT (hc ε s σ H _ I h) λd s1 #[H1,I1,q1]=>?_);cases d with
 |true=>calc ha ε s1 σ H1 D I1 q1
 |false=>calc hb ε s1 σ H1 D I1 q1
end
abbrev TG:=V->St->Hp->(St->Hp->Prop)->Prop
abbrev Oc:=List V->St->Hp->(St->Hp->Prop)->Prop
def PG(X:Cx)(target:Expr)(t:TG):Prop :=
 ∀(ε:qaa)(s:Shared)(σ:St)(H:Hp)(v:V)(u:Value)(Q:St->Hp->Prop),Inv X ε σ H s->RelV v u->t v σ H Q ->
  wpAny 17 X.A (assign target 3 u) (λ_ s'=>∃σ' H',Inv X ε σ' H' s'/\Q σ' H') X.xe s
def IK(X:Cx)(ts:qap)(t:Oc):Prop :=
 ∀(ε:qaa)(s:Shared)(σ:St)(H:Hp)(vs:List V)(us:qag)(Q:St->Hp->Prop),Inv X ε σ H s->Vals vs us->t vs σ H Q ->
  wpAny 17 X.A (assignInOrder ((assignEach ts 3).map (·.2)) us) (λ_ s'=>∃σ' H',Inv X ε σ' H' s'/\Q σ' H') X.xe s
abbrev IL:=V->V->V->Hp->(Hp->Prop)->Prop
def Ul(X:Cx)(t:IL):Prop :=
 ∀(ε:qaa)(s:Shared)(σ:St)(H:Hp)(o i v:V)(ov iv u:Value)(Q:Hp->Prop),Inv X ε σ H s->RelV o ov->RelV i iv->RelV v u->t o i v H Q ->
  wpAny 17 X.A (setItem ov iv u) (λ_ s'=>∃H',Inv X ε σ H' s'/\Q H') X.xe s
abbrev Y9:=V->V->Hp->VK->Prop
def PIp(X:Cx)(op:Operator)(t:Y9):Prop :=
 ∀(ε:qaa)(s:Shared)(σ:St)(H:Hp)(x y:V)(v u:Value)(Q:VK),Inv X ε σ H s->RelV x v->RelV y u->t x y H Q ->
  wpAny 17 X.A (inplaceOp op v u) 491 X.xe s
section
variable{X:Cx}{pos:Pos}
def l9(i:Nat):TG:=λv σ H Q=>Q (σ.set i (some v)) H
def Od(hN:X.N.Nodup)(hi:X.N[i]?\x)(hx:Loc 39 x)(hf:X.fn x=true\/X.env.scope.names.lookup x\.local:=by first|calc .inl rfl|calc .inr rfl|assumption):PG X (.Name x pos) (l9 i):=by intro ε s σ H v u Q I r h;calc wpAny_assign_Name (qA I hN hi hx r (λs' I'=>#[_,H,I',h]) hf)
def ae9:Oc:=λvs σ H Q=>vs=[]/\Q σ H
def Y_(t:TG)(u:Oc):Oc:=λvs σ H Q=>∃v r,vs=v::r/\t v σ H λσ' H'=>u r σ' H' Q
def Oe:IK X [] ae9:=by intro ε s σ H vs us Q I r h;let(e,h):=h;subst e;cases r;calc assignInOrder_nil #[σ,H,I,h]
def IM{es:qap}{t:TG}{u:Oc}(h1:PG X e t)(h2:IK X es u)(hs:(assignEach (e::es) 3).map (·.2)=assign e 3::(assignEach es 3).map (·.2):=by rfl):IK X (e::es) (Y_ t u):=by
 intro ε s σ H vs us Q I r h;let(v,vr,e1,h):=h;subst e1;cases r with
 |cons r rr=>rw[hs];calc assignInOrder_cons (cT (h1 ε s σ H _ _ _ I r h) λ_ s1 #[σ1,H1,I1,q1]=>h2 ε s1 σ1 H1 _ _ Q I1 rr q1)
def afa(K:qaf)(n:Nat)(t:Oc):TG:=λv σ H Q=>∃a xs,v=.ref a/\eZ K H a xs/\46=n/\t xs σ H Q
def Um{es:qap}{k:Nat}{t:Oc}(hc:X.calm=true)(h:IK X es t)(hn:(assignEach es 3).length=n:=by rfl)(yC:(assignEach es 3).findIdx? (·.1)=none:=by rfl):PG X (.Tuple es k pos) (afa X.K n t):=by intro ε s σ H v u Q I r hw;let(a,xs,e1,hq,hl,hw):=hw;subst e1;cases r;let(aR,rv,ht,hz):=I.tuple hq;show assign_Tuple_tuple 498 ht (by simp[hn,<- hl,rv.length]) yC λh' hx=>?_;let I1:=I.kept (t':=528) λb o e=>hx b o (hU (eR e)) e;calc h ε _ σ H xs _ Q I1 (by simpa using rv) hw
def afb(to ti:TE)(t:IL):TG:=λv σ H Q=>to σ H λo H1=>ti σ H1 λi H2=>t o i v H2 λH3=>Q σ H3
def Uo{i:Expr}{to ti:TE}{t:IL}(ho:PE X o to)(hi:PE X i ti)(hs:Ul X t)(ha:∀v,assign (.Subscript o i pos) 3 v=(do
    let ov <- holding [v] (eval o X.env)
    let iv <- holding [v,ov] (eval i X.env)
    standAt pos
    holding [v,ov,iv] (setItem ov iv v)
    release [v,ov,iv] []):=by intro _;rfl):PG X (.Subscript o i pos) (afb to ti t):=by
 intro ε s σ H v u Q I r h;calc ζ (Ω (cT (ho ε s σ H _ I h) λov s1 #[x,H1,I1,r1,q1]=>ζ (Ω (cT (hi ε s1 σ H1 _ I1 q1) λiv s2 #[y,H2,I2,r2,q2]=>ζ (wpAny_standAt (ζ (Ω (cT (hs ε s2 σ H2 x y v ov iv u _ I2 r1 r2 r q2) λ_ s3 #[H3,I3,q3]=>wpAny_release #[σ,H3,I3,q3]))))))))
def Og(te:TE)(g:TG):TS:=λD σ H=>te σ H λx H1=>g x σ H1 D.nx
def IP{tg:Expr}{te:TE}{g:TG}(he:PE X e te)(hg:PG X tg g)(hs:swapsWithSole [tg] e pos.line 3=pure false:=by rfl)(hw:swappedStores [tg] e 3=pure none:=by rfl)(h1:(assignEach [tg] 3).map (·.2)=[assign tg 3]:=by rfl):PS X (.Assign [tg] e pos) (Og te g):=by intro ε s σ H D I h;show wpAny_Assign_stores (cT 520 λv s1 #[x,H1,I1,r1,q1]=>?_) hs hw;rw[h1];calc cT (hg ε s1 σ H1 x v _ I1 r1 q1) λ_ s2 q=>q
def vO{te:TE}(hN:X.N.Nodup)(hi:X.N[i]?\x)(hx:Loc 39 x)(he:PE X e te)(hs:swapsWith e (some (.Name x pos')) pos.line 3=pure false:=by rfl)(hf:X.fn x=true\/X.env.scope.names.lookup x\.local:=by first|calc .inl rfl|calc .inr rfl|assumption) :
  PS X (.Assign [.Name x pos'] e pos) (Og te (l9 i)):=by
 intro ε s σ H D I h;calc wpAny_Assign_Name (cT 520 λv s1 #[y,H1,I1,r1,q1]=>qA I1 hN hi hx r1 (λs2 I2=>#[_,H1,I2,q1]) hf) hs
def afc(i:Nat)(te:TE)(ti:Y9):TS:=λD σ H=>∃x,σ[i]?\some x/\te σ H λy H1=>ti x y H1 λz H2=>D.nx (σ.set i (some z)) H2
def Up{te:TE}{op:Operator}{ti:Y9}(hN:X.N.Nodup)(hi:X.N[i]?\x)(hx:Loc 39 x)(he:PE X e te)(ho:PIp X op ti)(hf:X.fn x=true\/X.env.scope.names.lookup x\.local:=by first|calc .inl rfl|calc .inr rfl|assumption) :
  PS X (.AugAssign (.Name x pos') op e pos) (afc i te ti):=by
 intro ε s σ H D I h;let(v,e1,h):=h;let(m,hn,hl):=I.loc;let vis:nI X.env.scope x:=by obtain k|k:=hx;calc .inl k;exact .inr (.inl k)
 let(u,r,l):=hl i x v hi e1 vis;show wpAny_AugAssign_Name ?_;let go:wpAny (model X.prog X.w) X.A (eval e X.env) (λw s₂=>wpAny (model X.prog X.w) X.A (inplaceOp op u w) (λr s₃=>wpAny (model X.prog X.w) X.A (storeName X.env x r) (λ_=>SP X ε D .next) X.xe s₃) X.xe s₂) X.xe s:=cT 520 λw s1 #[y,H1,I1,r1,q1]=>cT (ho ε s1 σ H1 v y u w _ I1 r r1 q1) λz s2 #[zv,H2,I2,r2,q2]=>qA I2 hN hi hx r2 (λs3 I3=>#[_,H2,I3,q2]) hf;obtain⟨hk,hm⟩|⟨hk,c,hc,DH⟩:=l
 calc wpAny_loadName_local I.ok.kind hk hn hm go;obtain hk|hk:=hk
 calc wpAny_loadName_cell I.ok.kind hk hc DH go;obtain k|k:=hx
 have:X.env.scope.names.lookup x\.free:=hk;rw[k] at this;cases this;have:X.env.scope.names.lookup x\.free:=hk;rw[k] at this;cases this
def Y'(to ti te:TE)(Oh:V->V->Hp->VK->Prop)(tip:Y9)(Oi:IL):TS:=λD σ H=>to σ H λo H1=>ti σ H1 λi H2=>Oh o i H2 λx H3=>te σ H3 λy H4=>tip x y H4 λz H5=>Oi o i z H5 λH6=>D.nx σ H6
def Za(X:Cx)(t:V->V->Hp->VK->Prop):Prop :=
 ∀(ε:qaa)(s:Shared)(σ:St)(H:Hp)(o i:V)(ov iv:Value)(Q:VK),Inv X ε σ H s->RelV o ov->RelV i iv->t o i H Q ->
  wpAny 17 X.A (getItem ov iv) 491 X.xe s
def Oj{i:Expr}{to ti te:TE}{Oh:V->V->Hp->VK->Prop}{tip:Y9}{Oi:IL}{op:Operator}(ho:PE X o to)(hi:PE X i ti)(hg:Za X Oh)(he:PE X e te)(hp:PIp X op tip)(hs:Ul X Oi)(ha:∀ov iv new,augStore i ov iv new=(do holding [new,ov,iv] (setItem ov iv new);release [new,ov,iv] [];pure .next):=by intros;rfl):PS X (.AugAssign (.Subscript o i eA) op e pos) (Y' to ti te Oh tip Oi):=by intro ε s σ H D I h;show wpAny_AugAssign_SubscriptAny (cT (ho ε s σ H _ I h) λov s1 #[x1,H1,I1,r1,q1]=>?_) ha;show cT (hi ε s1 σ H1 _ I1 q1) λiv s2 #[x2,H2,I2,r2,q2]=>?_;show cT (hg ε s2 σ H2 x1 x2 ov iv _ I2 r1 r2 q2) λold s3 #[x3,H3,I3,r3,q3]=>?_;show cT (he ε s3 σ H3 _ I3 q3) λv s4 #[x4,H4,I4,r4,q4]=>?_;show cT (hp ε s4 σ H4 x3 x4 old v _ I4 r3 r4 q4) λnew s5 #[x5,H5,I5,r5,q5]=>?_;calc cT (hs ε s5 σ H5 x1 x2 x5 ov iv new _ I5 r1 r2 r5 q5) λ_ s6 #[H6,I6,q6]=>#[σ,H6,I6,q6]
end
section
variable{X:Cx}{pos:Pos}
def Uq(c:TT)(tb:TS):TS:=λD σ H=>∃W:Nat->St->Hp->Prop,(∃m,W m σ H)/\∀m σ H,W m σ H ->
 c σ H λb H1=>if b=true then ∃N:St->Hp->Prop,(∀σ' H',N σ' H'->∃m',m'<m/\W m' σ' H')/\tb {D with nx:=N,ct:=N,bk:=D.nx} σ H1 else D.nx σ H1
def yD{body:qaq}{tc:TT}{tb:TS}(hp:PassesOwn 17 X.A 3 X.xe)(hc:PT X c tc)(hb:ko X body tb):PS X (.While c body [] pos) (Uq tc tb):=by
 intro ε s σ H D I h;let(W,(m0,w0),turn):=h;show wpAny_While (codeAny_whileLoop (λn s'=>∃σ' H',Inv X ε σ' H' s'/\W n σ' H') ?_ m0 #[σ,H,I,w0]);rintro n s1 ⟨σ1,H1,I1,w1⟩;show aam hp (cT (hc ε s1 σ1 H1 _ I1 (turn n σ1 H1 w1)) λb s2 #[H2,I2,q2]=>?_);cases b with
 |true=>
  let(N,hN,q2):=q2;show aam hp (cT (hb ε s2 σ1 H2 _ I2 q2) λf s3 q3=>?_);cases f with
  |next=>let(σ3,H3,I3,n3):=q3;let(m',hm,w3):=hN σ3 H3 n3;calc#[m',hm,σ3,H3,I3,w3]
  |cont=>let(σ3,H3,I3,n3):=q3;let(m',hm,w3):=hN σ3 H3 n3;calc#[m',hm,σ3,H3,I3,w3]
  |brk=>calc q3
  |ret v=>calc q3
 |false=>calc aaE #[σ1,H2,I2,q2]
end
structure It where
 go:Nat->Hp->Prop
 Yc:Nat->Hp->V->Hp->Prop
 stop:Nat->Hp->Prop
def nN(X:Cx)(ε:qaa)(H:Hp)(b:Addr):Prop :=
 H b=none/\b≠174/\b∉X.fs/\501/\(∀x c,X.env.cells.lookup x\c->c≠b)/\∀p∈X.pn++ε,p.1≠b
def Inv.qC{X:Cx}{ε:qaa}{σ:St}{H H':Hp}{b:Addr}(I:Inv X ε σ H s)(hb:8<=b)(hn:H' b=none):nN X ε H' b:=by show#[hn,Fw (tW I.lt hb),I.aeZ hb,.inr (kJ I.sz hb),λx c e z=>?_,λp hp z=>?_];let(v,q):=I.cell x c e;calc absurd (tW q.lt (by rw[z];calc hb)) (Fu _);calc absurd (tW (eR (I.pin p hp).1) (by rw[z];calc hb)) (Fu _)
structure Turn(P:Program)(w:World)(K:qaf)(tg:Expr)(J:It)(fp:zm)(it:Addr)(tn:Nat->Heap->Prop):Prop where
 mem:it∈fp
 obj:∀i h,tn i h->∀b∈fp,∃o,h.get? b\o/\∀v,496≠.cell v
 keep:∀i h h',tn i h->(∀b∈fp,∀o,h.get? b\o->h'.get? b\o)->tn i h'
 item:∀(X:Cx),33=P->X.w=w->X.K=K->X.calm=true->∀(i:Nat)(ε:qaa)(s:Shared)(σ:St)(H:Hp)(E:qad),Inv X ε σ H s->(∀b∈fp,nN X ε H b)->tn i 69->J.go i H ->
  wpAny (model P w) X.A 516 (λr s1=>∃u,r\u /\
   wpAny (model P w) X.A (letOwnedTupleGo tg 476 u) (λ_ s2=>∃x H',Inv X ε σ H' s2/\RelV x u/\J.Yc i H x H'/\tn 525 s2.heap/\∀b∈fp,H' b=none) E s1) E s
 done:∀(X:Cx),33=P->X.w=w->X.K=K->X.calm=true->∀(i:Nat)(ε:qaa)(s:Shared)(σ:St)(H:Hp)(E:qad),Inv X ε σ H s->(∀b∈fp,nN X ε H b)->tn i 69->J.stop i H ->
  wpAny (model P w) X.A 516 (λr s1=>r=none/\Inv X ε σ H s1) E s
 self:∀(A:Around)(i:Nat)(s:Shared)(Q:qad)(E:qad),tn i 69->Q 476 s->wpAny (model P w) A (pyIter 476) Q E s
abbrev TI:=St->Hp->(It->Hp->Prop)->Prop
def PIE(X:Cx)(ε:qaa)(σ:St)(tg:Expr)(R:It->Hp->Prop)(itv:Value)(s2:Shared):Prop :=
 ∃(it:Addr)(fp:zm)(tn:Nat->Heap->Prop)(J:It)(H':Hp),itv=.ref it/\Inv X ε σ H' s2/\Turn 33 X.w X.K tg J fp it tn/\tn 0 s2.heap/\(∀b∈fp,nN X ε H' b)/\R J H'
def PI(X:Cx)(tg iter:Expr)(wi:TI):Prop :=
 ∀(ε:qaa)(s:Shared)(σ:St)(H:Hp)(R:It->Hp->Prop),Inv X ε σ H s->wi σ H R ->
  wpAny 17 X.A (eval iter 3) (λv s1=>wpAny 17 X.A (pyIter v) (PIE X ε σ tg R) X.xe s1) X.xe s
def DK{M:Model}{E:qad}{tg:Expr}{o:Obj}{n:String}{vs:Array Value}{Q:Unit->Shared->Prop}(ho:s.heap.get? it\o)(hc:o.cls=.type n)(hd:496=.fields vs)(hn:["enumerate","zip","dict_itemiterator","dict_reverseitemiterator","odict_iterator","itertools.zip_longest","itertools.pairwise"].contains n=false)(hQ:Q Unit.unit s):wpAny M A (letOwnedTupleGo tg 476 u) Q E s:=by
 cases tg<;>first
  |calc η hQ
  | (cases u<;>first
      |calc η hQ
      | (show ζ (wpAny_load ho ?_)
         rw[hc,hd];change wpAny M A (if (["enumerate","zip","dict_itemiterator","dict_reverseitemiterator","odict_iterator","itertools.zip_longest","itertools.pairwise"].contains n && vs[0]?==some (rawInt _))=true then _ else _) Q E s;rw[θ (by intro h;rw[hn,HY] at h;cases h)];calc η hQ))
def Itl(K:qaf)(a:Addr):It :=
 #[λi H=>∃xs x,f_ K H a xs/\xs[i]?\x,λi H x H'=>H'=H/\∀xs,f_ K H a xs->xs[i]?\x,λi H=>∃xs,f_ K H a xs/\46<=i]
def Itt(K:qaf)(a:Addr):It :=
 #[λi H=>∃xs x,eZ K H a xs/\xs[i]?\x,λi H x H'=>H'=H/\∀xs,eZ K H a xs->xs[i]?\x,λi H=>∃xs,eZ K H a xs/\46<=i]
def Itr(lo:Int)(n:Nat):It:=#[λi _=>i<n,λi H x H'=>H'=H/\x=.int (lo+i),λi _=>n<=i]
def FD{K:qaf}{tg:Expr}(a it:Addr):Turn P w K tg (Itl K a) [it] it (λi h=>h.IsListIter it a i) where
 mem:=by simp
 obj:=λi h st b hb=>by
  let e:b=it:=by simpa using hb
  subst e;let(o,e,c,d):=st;exact#[o,e,λv z=>by rw[d] at z;cases z]
 keep:=λi h h' st k=>st.at λo e=>k it 6 o e
 item:=by intro X hP hw hK hc i ε s σ H E I hf st hg;subst hP hw hK;let(xs,x,hq,hx):=hg;let(aR,rv,p,hz):=I.list hq;let(u,hu,ru):=rv.get hx;let(f0,f1,f2,f3,f4,f5):=hf it 6;show wpAny_pyNext_list_item st p.isList (by simpa using hu) λh' bp sb=>?_;let I1:=I.turned (t':=528) (λb o hb e=>(sb.2 b hb).trans e) f0 f1 f3 f4 f5;let(o,e,c,d):=id bp;exact#[u,9,DK e c d 15 #[x,H,I1,ru,#[9,λys hy=>by rw[I.qB hy hq];calc hx],bp,λb hb=>(hf b hb).1]]
 done:=by intro X hP hw hK hc i ε s σ H E I hf st hg;subst hP hw hK;let(xs,hq,hx):=hg;let(aR,rv,p,hz):=I.list hq;let(f0,f1,f2,f3,f4,f5):=hf it 6;let hl:=rv.length;exact wpAny_pyNext_list_end 498 st p.isList (by simp;lia) λh' eb=>#[9,I.turned (t':=528) (λb o hb e=>eb b o hb e) f0 f1 f3 f4 f5]
 self:=λ_ _ _ _ _ st h=>wpAny_pyIter_listiter st h
def Bv{K:qaf}{tg:Expr}(a it:Addr):Turn P w K tg (Itt K a) [it] it (λi h=>h.IsTupleIter it a i) where
 mem:=by simp
 obj:=λi h st b hb=>by
  let e:b=it:=by simpa using hb
  subst e;let(o,e,c,d):=st;exact#[o,e,λv z=>by rw[d] at z;cases z]
 keep:=λi h h' st k=>st.at λo e=>k it 6 o e
 item:=by intro X hP hw hK hc i ε s σ H E I hf st hg;subst hP hw hK;let(xs,x,hq,hx):=hg;let(aR,rv,p,hz):=I.tuple hq;let(u,hu,ru):=rv.get hx;let(f0,f1,f2,f3,f4,f5):=hf it 6;show wpAny_pyNext_tuple_item st (show s.heap.IsTuple a 94 from p) (by simpa using hu) λh' bp sb=>?_;let I1:=I.turned (t':=528) (λb o hb e=>(sb.2 b hb).trans e) f0 f1 f3 f4 f5;let(o,e,c,d):=id bp;exact#[u,9,DK e c d 15 #[x,H,I1,ru,#[9,λys hy=>by rw[I.uL hy hq];calc hx],bp,λb hb=>(hf b hb).1]]
 done:=by intro X hP hw hK hc i ε s σ H E I hf st hg;subst hP hw hK;let(xs,hq,hx):=hg;let(aR,rv,p,hz):=I.tuple hq;let(f0,f1,f2,f3,f4,f5):=hf it 6;let hl:=rv.length;exact wpAny_pyNext_tuple_end 498 st (show s.heap.IsTuple a 94 from p) (by simp;lia) λh' eb=>#[9,I.turned (t':=528) (λb o hb e=>eb b o hb e) f0 f1 f3 f4 f5]
 self:=λ_ _ _ _ _ st h=>wpAny_pyIter_tupleiter st h
def Bw{K:qaf}{tg:Expr}(it:Addr)(lo:Int)(n:Nat):Turn P w K tg (Itr lo n) [it] it (λi h=>IsRangeIter h it (lo+(i:Nat) * 1) ((n:Int)-(i:Nat)) 1) where
 mem:=by simp
 obj:=λi h st b hb=>by
  let e:b=it:=by simpa using hb
  subst e;exact#[_,st,λv z=>by let z':=z;cases z']
 keep:=λi h h' st k=>k it 6 _ st
 item:=by intro X hP hw hK hc i ε s σ H E I hf st hg;subst hP hw hK;let(f0,f1,f2,f3,f4,f5):=hf it 6;let W:=Walks.range (prog:=33) (w:=X.w) 498 it lo 1 n;show W.item i s _ _ hg st λv h' tk hv bp kk=>?_;let(t,rfl):=hv;let I1:Inv X ε σ H {s with heap:=h',toks:=tk}:=I.turned (λb o hb e=>kk b o (by simpa using hb) e) f0 f1 f3 f4 f5;show#[_,9,DK bp 9 9 15 #[.int (lo+i),H,I1,#[t,?_],#[9,9],bp,λb hb=>(hf b hb).1]];rw[Int.mul_one]
 done:=by intro X hP hw hK hc i ε s σ H E I hf st hg;subst hP hw hK;let(f0,f1,f2,f3,f4,f5):=hf it 6;exact wpAny_pyNext_range_end 498 st (by have:n<=i:=hg;lia) λh' eb=>#[9,I.turned (λb o hb e=>eb b o hb e) f0 f1 f3 f4 f5]
 self:=λ_ _ _ _ _ st h=>wpAny_pyIter_rangeiter st h
section
variable{X:Cx}{tg:Expr}
theorem IQ{ε:qaa}{σ:St}{H:Hp}{R:It->Hp->Prop}{E:qad}{lo hi:Int}{t u v:Tok}{tk:Nat}(I:Inv X ε σ H s)(h1 : -(2 ^ 62)<=lo)(h2:lo<2 ^ 62)(h3 : -(2 ^ 62)<=hi)(h4:hi<2 ^ 62)(q:R (Itr lo (hi-lo).toNat) H):wpAny 17 X.A (pyIter 59) (PIE X ε σ tg R) E {s with heap:=s.heap.push {cls:=.type "range",data:=.fields 484},toks:=tk}:=by
 show wpAny_pyIter_range (IsRange.new ..) (small_one h1 h2 h3 h4) ?_;let I1:Inv X ε σ H {s with heap:=s.heap.push {cls:=.type "range",data:=.fields ([.int lo t,.int hi u,.int 1 v].toArray)},toks:=tk}:=I.kept λb o e=>dF _ e;show#[(s.heap.push {cls:=.type "range",data:=.fields 484}).objs.size,[(s.heap.push {cls:=.type "range",data:=.fields 484}).objs.size],_,_,H,9,
  I1.kept λb o e=>dF _ e,Bw _ lo (hi-lo).toNat,?_,λb hb=>?_,q]
 let e1:lo+((0:Nat):Int) * 1=lo:=by simp
 let e2:(((hi-lo).toNat:Nat):Int)-((0:Nat):Int)=Builtin.Range.rangeSize lo hi 1:=by rw[rangeSize_one];split<;>lia
 rw[e1,e2];calc gP _ 9;let e:b=(s.heap.push {cls:=.type "range",data:=.fields ([.int lo t,.int hi u,.int 1 v].toArray)}).objs.size:=by simpa using hb
 subst e;calc I1.qC 82 (I1.bZ.fresh 82)
def Zb(ta:TA):TI:=λσ H R=>ta σ H λvs H1=>∃j:Int,vs=[.int j]/\-(2 ^ 62)<=j/\j<2 ^ 62/\R (Itr 0 j.toNat) H1
theorem FH{a:Expr}{ta:TA}{pos:Pos}(hg:Gl X "range")(hm:X.mg "range"=none)(ha:PA X [a] ta)(hs:starEach [a] 3=[(false,eval a 3)]:=by rfl):PI X tg (.Call (.Name "range" p) [a] [] pos) (Zb ta):=by
 intro ε s σ H R I h;show Call_ (nL I hg hm boot_range (ab2 (cT 478 λus s1 #[vs,H1,I1,r1,q1]=>?_) hs 9));let(j,e,q1,q2,q):=q1;subst e;cases r1 with
 |cons r rr=>cases rr;let(t,rfl):=r;calc call_range_1 (IQ I1 () () q1 q2 (by simpa using q))
def afd(wi:TI)(g:TG)(tb:TS):TS:=λD σ H=>wi σ H λJ H1=>∃W:Nat->Nat->St->Hp->Prop,(∃m,W 0 m σ H1)/\∀i m σ H,W i m σ H ->
 (J.stop i H/\D.nx σ H)\/(J.go i H/\∃N:St->Hp->Prop,(∀σ' H',N σ' H'->∃m',m'<m/\W 525 m' σ' H')/\∀x H',J.Yc i H x H'->g x σ H' λσ2 H2=>tb {D with nx:=N,ct:=N,bk:=D.nx} σ2 H2)
def qD(fp:zm)(h:Heap):qaa:=fp.filterMap λb=>(h.get? b).map λo=>(b,o)
def iE{fp:zm}{b:Addr}{o:Obj}(hb:b∈fp)(e:h.get? b\o):(b,o)∈qD fp h:=acJ.mpr #[b,hb,by rw[e];rfl]
def FJ{fp:zm}{p:Addr×Obj}(hp:p∈qD fp h):p.1∈fp/\h.get? p.1\p.2:=by
 let(b,hb,e):=acJ.mp hp;cases q:h.get? b with
 |none=>rw[q] at e;cases e
 |some o=>rw[q] at e;let e':=Option.some.inj e;subst e';calc#[hb,q]
def Inv.pinned{ε:qaa}{σ:St}{H:Hp}{fp:zm}(I:Inv X ε σ H s)(hf:∀b∈fp,nN X ε H b)(ho:∀b∈fp,∃o,s.heap.get? b\o/\∀v,496≠.cell v):Inv X (ε++qD fp 69) σ H s :=
 I.DF λp hp=>(fO.mp hp).elim (λz=>I.pin p (jY _ z)) λz=>by let(hb,e):=FJ z;let(f0,f1,f2,_):=hf p.1 hb;let(o,e',d):=ho p.1 hb;rw[e] at e';cases e';calc#[e,f0,f1,f2,d]
def Inv.l_{ε pl:qaa}{σ:St}{H:Hp}(I:Inv X (ε++pl) σ H s):Inv X ε σ H s:=I.DF λp hp=>I.pin p (jY _ (hX _ hp))
def By{body:qaq}{wi:TI}{g:TG}{tb:TS}{pos:Pos}(hp:PassesOwn 17 X.A 3 X.xe)(hc:X.calm=true)(hi:PI X tg iter wi)(hg:PG X tg g)(hb:ko X body tb)(hs:∀x,foldedSetIterable iter 3 x=pure x:=by intro _;rfl):PS X (.For tg iter body [] pos) (afd wi g tb):=by
 intro ε s σ H D I h;show wpAny_For (cT (hi ε s σ H _ I h) λv s1 h1=>cT h1 λitv s2 h2=>?_) hs;let(it,fp,tn,J,H2,e,I2,T,vP,f2,W,(m0,w0),turn):=h2;subst e;let Ur:∀{H':Hp},(∀b∈fp,H' b=none)->∀b∈fp,nN X ε H' b:=λhn b hb=>#[hn b hb,(f2 b hb).2];show codeAny_forLoop_any (λn s'=>∃i σ' H',Inv X ε σ' H' s'/\tn i s'.heap/\(∀b∈fp,H' b=none)/\W i n σ' H') ?_ m0 #[0,σ,H2,I2,vP,λb hb=>(f2 b hb).1,w0];rintro n s3 ⟨i,σ3,H3,I3,Ut,Zd,w3⟩;rcases turn i n σ3 H3 w3 with⟨stop,qn⟩|⟨go,N,hN,step⟩
 . show aam hp (cT (T.done X 9 9 9 hc i ε s3 σ3 H3 X.xe I3 (Ur Zd) Ut stop) λr s4 #[hr,I4]=>?_);subst hr;exact aaE #[σ3,H3,I4,qn]
 show aam hp (cT (T.item X 9 9 9 hc i ε s3 σ3 H3 X.xe I3 (Ur Zd) Ut go) λr s4 #[u,hr,h4]=>?_);subst hr;show aam hp (cT h4 λ_ s5 #[x,H5,I5,r5,y5,R7,fr5]=>?_);let I5':=I5.pinned (Ur fr5) (T.obj _ _ R7);show aam hp (cT (hg _ s5 σ3 H5 x u _ I5' r5 (step x H5 y5)) λ_ s6 #[σ6,H6,I6,q6]=>aam hp (cT (hb _ s6 σ6 H6 _ I6 q6) λf s7 q7=>?_));let again:∀{σ7:St}{H7:Hp},Inv X (ε++qD fp s5.heap) σ7 H7 s7->N σ7 H7->∃m,m<n/\∃i σ' H',Inv X ε σ' H' s7/\tn i s7.heap/\(∀b∈fp,H' b=none)/\W i m σ' H':=λ{σ7 H7} I7 n7=>by let(m',hm,w7):=hN σ7 H7 n7;show#[m',hm,i+1,σ7,H7,I7.l_,T.keep _ _ _ R7 λb hb o e=>(I7.pin (b,o) (jY _ (jY _ (iE hb e)))).1,λb hb=>?_,w7];let(o,e,d):=T.obj _ _ R7 b hb;exact (I7.pin (b,o) (jY _ (jY _ (iE hb e)))).2.1
 cases f with
 |brk=>let(σ7,H7,I7,q7):=q7;calc#[σ7,H7,I7.l_,q7]
 |ret v=>let(x7,σ7,H7,I7,r7,q7):=q7;calc#[x7,σ7,H7,I7.l_,r7,q7]
 |_=>let(σ7,H7,I7,n7):=q7;calc again I7 n7
end
abbrev R2:=V->V->Hp->VK->Prop
def fF(X:Cx)(f:Value->Value->Sem Value)(r:R2):Prop :=
 ∀(ε:qaa)(s:Shared)(σ:St)(H:Hp)(x y:V)(v u:Value)(Q:VK),Inv X ε σ H s->RelV x v->RelV y u->r x y H Q ->
  wpAny 17 X.A (f v u) 491 X.xe s
def UnR(X:Cx)(f:Value->Sem Value)(r:V->Hp->VK->Prop):Prop :=
 ∀(ε:qaa)(s:Shared)(σ:St)(H:Hp)(x:V)(v:Value)(Q:VK),Inv X ε σ H s->RelV x v->r x H Q ->
  wpAny 17 X.A (f v) 491 X.xe s
def dh(X:Cx)(f:Value)(r:List V->Hp->VK->Prop):Prop :=
 ∀(ε:qaa)(s:Shared)(σ:St)(H:Hp)(xs:List V)(us:qag)(Q:VK),Inv X ε σ H s->Vals xs us->r xs H Q ->
  wpAny 17 X.A (call f us) 491 X.xe s
def Ze(r:R2)(ta tb:TE):TE:=λσ H Q=>ta σ H λx H1=>tb σ H1 λy H2=>r x y H2 Q
def tUn(r:V->Hp->VK->Prop)(ta:TE):TE:=λσ H Q=>ta σ H λx H1=>r x H1 Q
def rI(C:Int->Int->Prop)(g:Int->Int->V):R2:=λx y H Q=>∃i j,x=.int i/\y=.int j/\C i j/\Q (g i j) H
def tP(g:Int->Int->V):R2:=λx y H Q=>∃i j,x=.int i/\y=.int j/\Q (g i j) H
def rU(g:Int->V):V->Hp->VK->Prop:=λx H Q=>∃i,x=.int i/\Q (g i) H
section
variable{X:Cx}{a:Expr}{ta tb tc:TE}{pos:Pos}
def Uu(ha:PE X a ta)(hb:PE X b tb){ε:qaa}{σ:St}{H:Hp}{R:V->V->Hp->Prop}(I:Inv X ε σ H s)(h:ta σ H λx H1=>tb σ H1 λy H2=>R x y H2){Q:qad}{f:Value->Value->Sem Value}(hf:∀v u s2 x y H2,Inv X ε σ H2 s2->RelV x v->RelV y u->R x y H2->wpAny 17 X.A (f v u) Q X.xe s2) :
 wpAny 17 X.A (eval a 3) (λv s₁=>wpAny 17 X.A (eval b 3) (λu s₂=>wpAny 17 X.A (f v u) Q X.xe s₂) X.xe s₁) X.xe s:=cT 469 λv s1 #[x,H1,I1,r1,q1]=>cT (hb ε s1 σ H1 _ I1 q1) λu s2 #[y,H2,I2,r2,q2]=>hf v u s2 x y H2 I2 r1 r2 q2
def IS{op:Operator}{r:R2}(ho:fF X (binaryOp op) r)(ha:PE X a ta)(hb:PE X b tb):PE X (.BinOp a op b pos) (Ze r ta tb):=by intro ε s σ H Q I h;calc wpAny_BinOp (Uu ha hb I h λv u s2 x y H2 I2 rx ry q=>ho ε s2 σ H2 x y v u Q I2 rx ry q)
def R8{op:UnaryOp}{r:V->Hp->VK->Prop}(ho:UnR X (unaryOp op) r)(ha:PE X a ta):PE X (.UnaryOp op a pos) (tUn r ta):=by intro ε s σ H Q I h;calc UnaryOp_ (cT 469 λv s1 #[x,H1,I1,r1,q1]=>ho ε s1 σ H1 x v Q I1 r1 q1)
def Yd{f:Value->Value->Sem Value}{C:Int->Int->Prop}{g:Int->Int->Int}(rule:∀(i j:Int) (t u:Tok) (s:Shared) (Q:qad) (E:qad),C i j->Q (.int (g i j) 528) {s with toks:=528+1}->wpAny 17 X.A (f (.int i t) (.int j u)) Q E s) :
  fF X f (rI C λi j=>.int (g i j)):=by
 intro ε s σ H x y v u Q I rx ry h;let(i,j,rfl,rfl,hc,q):=h;let(t,rfl):=rx;let(t',rfl):=ry;calc rule i j t t' s _ _ hc #[.int (g i j),H,I.tok _,#[_,9],q]
def FK{f:Value->Value->Sem Value}{g:Int->Int->Int}(rule:∀(i j:Int) (t u:Tok) (s:Shared) (Q:qad) (E:qad),Q (.int (g i j) 528) {s with toks:=528+1}->wpAny 17 X.A (f (.int i t) (.int j u)) Q E s) :
  fF X f (tP λi j=>.int (g i j)):=by
 intro ε s σ H x y v u Q I rx ry h;let(i,j,rfl,rfl,q):=h;let(t,rfl):=rx;let(t',rfl):=ry;calc rule i j t t' s _ _ #[.int (g i j),H,I.tok _,#[_,9],q]
def Uv{f:Value->Value->Sem Value}{g:Int->Int->Bool}(rule:∀(i j:Int) (t u:Tok) (s:Shared) (Q:qad) (E:qad),Q (.bool (g i j)) s->wpAny 17 X.A (f (.int i t) (.int j u)) Q E s) :
  fF X f (tP λi j=>.bl (g i j)):=by
 intro ε s σ H x y v u Q I rx ry h;let(i,j,rfl,rfl,q):=h;let(t,rfl):=rx;let(t',rfl):=ry;calc rule i j t t' s _ _ #[.bl (g i j),H,I,9,q]
def Zf(i j:Int):Prop:=0<j/\j<1073741824
def Ol(i j:Int):Prop:=0<=j/\j<=1000000/\i.natAbs<2 ^ 64
def IT(i j:Int):Prop:=(-(2 ^ 64)<i/\i<2 ^ 64)\/(-(2 ^ 64)<j/\j<2 ^ 64)
def IT.ok{i j:Int}(h:IT i j):IntMulOk i j:=by
 obtain⟨h1,h2⟩|⟨h1,h2⟩:=h
 calc .of_left (intBits_le_64 h1 h2);calc .of_right (intBits_le_64 h1 h2)
def Bz(k:Nat):(0:Int)<=2 ^ k:=Int.natCast_nonneg _
def Uw:fF X (binaryOp .Add) (tP λi j=>.int (i+j)):=FK λ_ _ _ _ _ _ _ q=>add_int q
def Ux:fF X (binaryOp .Sub) (tP λi j=>.int (i-j)):=FK λ_ _ _ _ _ _ _ q=>sub_int q
def Uy:fF X (binaryOp .Mult) (rI IT λi j=>.int (i * j)):=Yd λ_ _ _ _ _ _ _ hc q=>mul_int q hc.ok
theorem Om:fF X (binaryOp .FloorDiv) (rI Zf λi j=>.int (i / j)):=Yd λi j _ _ _ _ _ hc q=>by let h1:=hc.1;let h2:=hc.2;calc floordiv_int () (by rw[Int.fdiv_eq_ediv_of_nonneg i ()];calc q) (.inl (PyProof.noPylong_small ()))
theorem Uz:fF X (binaryOp .Mod) (rI (λ_ j=>0<j) λi j=>.int (i % j)):=Yd λi j _ _ _ _ _ hc q=>mod_int' () (by rw[Int.fmod_eq_emod_of_nonneg i ()];calc q)
def UA:fF X (binaryOp .Pow) (rI Ol λi j=>.int (i ^ j.toNat)):=Yd λ_ _ _ _ _ _ _ hc q=>pow_int_small hc.1 hc.2.1 hc.2.2 q
def UB:fF X (binaryOp .LShift) (rI Ol λi j=>.int (i * 2 ^ j.toNat)):=Yd λ_ _ _ _ _ _ _ hc q=>lshift_int_small hc.1 hc.2.1 hc.2.2 q
def UC:fF X (binaryOp .RShift) (rI (λ_ j=>0<=j) λi j=>.int (i / 2 ^ j.toNat)):=Yd λi j _ _ _ _ _ hc q=>
 rshift_int hc (by rw[Int.fdiv_eq_ediv_of_nonneg i (Bz _)];calc q)
def IU:fF X (binaryOp .BitAnd) (tP λi j=>.int (Builtin.bitAnd i j)):=FK λ_ _ _ _ _ _ _ q=>and_int q
def Zg:fF X (binaryOp .BitOr) (tP λi j=>.int (Builtin.bitOr i j)):=FK λ_ _ _ _ _ _ _ q=>or_int q
def Oo:fF X (inplaceOp .Add) (tP λi j=>.int (i+j)):=FK λ_ _ _ _ _ _ _ q=>iadd_int q
def k7:fF X (inplaceOp .BitOr) (tP λi j=>.int (Builtin.bitOr i j)):=FK λ_ _ _ _ _ _ _ q=>ior_int q
def unI{f:Value->Sem Value}{g:Int->Int}(rule:∀(i:Int) (t:Tok) (s:Shared) (Q:qad) (E:qad),Q (.int (g i) 528) {s with toks:=528+1}->wpAny 17 X.A (f (.int i t)) Q E s) :
  UnR X f (rU λi=>.int (g i)):=by
 intro ε s σ H x v Q I rx h;let(i,rfl,q):=h;let(t,rfl):=rx;calc rule i t s _ _ #[.int (g i),H,I.tok _,#[_,9],q]
def UD:UnR X (unaryOp .USub) (rU λi=>.int (-i)):=unI λ_ _ _ _ _ q=>neg_int q
def UE:UnR X (unaryOp .Invert) (rU λi=>.int (Builtin.bitNot i)):=unI λ_ _ _ _ _ q=>invert_int q
end
section
variable{X:Cx}{a:Expr}{ta tb tc:TE}{pos:Pos}
def BA{ε:qaa}{σ:St}{H:Hp}{Q:VK}{k k':Bool}(I:Inv X ε σ H s)(q:Q (.bl k) H)(e:k=k'):EP X ε σ Q (.bool k') s:=by subst e;calc#[.bl k,H,I,9,q]
def Zh:fF X (compareOp .Lt) (tP λi j=>.bl (decide (i<j))):=Uv λ_ _ _ _ _ _ _ q=>lt_int q
def R9:fF X (compareOp .LtE) (tP λi j=>.bl (decide (i<=j))):=Uv λ_ _ _ _ _ _ _ q=>le_int q
def Zi:fF X (compareOp .Gt) (tP λi j=>.bl (decide (j<i))):=Uv λ_ _ _ _ _ _ _ q=>gt_int q
def FL:fF X (compareOp .In) (λx y H Q=>∃i j,x=.str i/\y=.str j/\Q (.bl 481) H):=by intro ε s σ H x y v u Q I rx ry h;let(i,j,rfl,rfl,q):=h;let(t,rfl):=rx;let(t',rfl):=ry;calc in_str (BA I q 9)
def UG:fF X (compareOp .Is) (λx y H Q=>y=.bY/\Q (.bl (decide (x=.bY))) H):=by
 intro ε s σ H x y v u Q I rx ry h;let(rfl,q):=h;cases ry;show is_none_gen (BA I q ?_);cases x<;>first
  | (cases rx;rfl)
  | (let(t,rfl):=rx;rfl)
def Oq:fF X (compareOp .IsNot) (λx y H Q=>y=.bY/\Q (.bl (!decide (x=.bY))) H):=by
 intro ε s σ H x y v u Q I rx ry h;let(rfl,q):=h;cases ry;show isnot_none_gen (BA I q ?_);cases x<;>first
  | (cases rx;rfl)
  | (let(t,rfl):=rx;rfl)
def fF.or{f:Value->Value->Sem Value}{r r':R2}(h:fF X f r)(h':fF X f r'):fF X f (λx y H Q=>r x y H Q\/r' x y H Q):=by
 intro ε s σ H x y v u Q I rx ry q;obtain q|q:=q
 calc h ε s σ H x y v u Q I rx ry q;calc h' ε s σ H x y v u Q I rx ry q
def jm(b:Expr){op:CmpOp}(h:op≠.In:=by decide)(h2:op≠.NotIn:=by decide):behindInMarks op b=false:=by
 let e1:(op==CmpOp.In)=false:=by cases op<;>first|rfl|exact absurd 9 h
 let e2:(op==CmpOp.NotIn)=false:=by cases op<;>first|rfl|exact absurd 9 h2
 cases b<;>simp[behindInMarks,e1,e2]
def Ot{op:CmpOp}{r:R2}(ho:fF X (compareOp op) r)(ha:PE X a ta)(hb:PE X b tb)(hm:behindInMarks op b=false):PE X (.Compare a [op] [b] pos) (Ze r ta tb):=by intro ε s σ H Q I h;calc wpAny_Compare1 (Uu ha hb I h λv u s2 x y H2 I2 rx ry q=>ho ε s2 σ H2 x y v u Q I2 rx ry q) hm
def R_(t:TE):TT:=λσ H Q=>t σ H λx H'=>∃k,x=.bl k/\Q k H'
def Ou{op:CmpOp}{r:R2}(ho:fF X (compareOp op) r)(ha:PE X a ta)(hb:PE X b tb)(hm:behindInMarks op b=false):PT X (.Compare a [op] [b] pos) (R_ (Ze r ta tb)):=by
 intro ε s σ H Q I h;show wpAny_isTrue_Compare1 (cT 469 λv s1 #[x,H1,I1,r1,q1]=>cT (hb ε s1 σ H1 _ I1 q1) λu s2 #[y,H2,I2,r2,q2] =>
  cT (ho ε s2 σ H2 x y v u _ I2 r1 r2 q2) λc s3 #[z,H3,I3,r3,k,e,q3]=>?_) hm
 subst e;cases r3;calc v9 #[H3,I3,q3]
def IV(r r':R2)(ta tb tc:TE):TE:=λσ H Q=>ta σ H λx H1=>tb σ H1 λy H2=>r x y H2 λz H3=>∃k,z=.bl k /\
 (if k=true then tc σ H3 λw' H4=>r' y w' H4 Q else Q (.bl false) H3)
def IW{op UH:CmpOp}{r r':R2}(ho:fF X (compareOp op) r)(qz:fF X (compareOp UH) r')(ha:PE X a ta)(hb:PE X b tb)(hc:PE X c tc)(hm:lastMarks [op,UH] [b,c]=false:=by with_unfolding_all rfl):PT X (.Compare a [op,UH] [b,c] pos) (R_ (IV r r' ta tb tc)):=by
 intro ε s σ H Q I h;show isTrue_chain (cT 469 λv s1 #[x,H1,I1,r1,q1]=>test_link (cT (hb ε s1 σ H1 _ I1 q1) λu s2 #[y,H2,I2,r2,q2] =>
  cT (ho ε s2 σ H2 x y v u _ I2 r1 r2 q2) λd s3 #[z,H3,I3,r3,k,e,q3]=>?_)) hm
 subst e;cases r3;show v9 ?_;cases k with
 |false=>let(k',e',q'):=q3;cases e';calc ite_ff #[H3,I3,q']
 |true=>show ite_tt (test_last (cT (hc ε s3 σ H3 _ I3 q3) λw' s4 #[z',H4,I4,r4,q4]=>cT (qz ε s4 σ H4 y z' u w' _ I4 r2 r4 q4) λd' s5 #[z2,H5,I5,r5,k2,e2,q5]=>?_));subst e2;cases r5;calc v9 #[H5,I5,q5]
def k8:(sizeLine:Nat)<2 ^ 63:=by rw[π];decide
def BB:fF X (binaryOp .Add) (λx y H Q=>∃i j,x=.str i/\y=.str j/\i.length+j.length<=sizeLine/\Q (.str (i++j)) H):=by intro ε s σ H x y v u Q I rx ry h;let(i,j,rfl,rfl,hz,q):=h;let(t,rfl):=rx;let(t',rfl):=ry;calc add_str (λt' tk=>#[.str (i++j),H,I.tok _,#[_,9],q]) hz
def vals1{x:V}{us:qag}(r:Vals [x] us):∃u,us=[u]/\RelV x u:=by
 cases r with
 |cons r1 r2=>cases r2;calc#[_,9,r1]
def vals2{x y:V}{us:qag}(r:Vals [x,y] us):∃u w',us=[u,w']/\RelV x u/\RelV y w':=by
 cases r with
 |cons r1 r2=>
  cases r2 with
  |cons r3 r4=>cases r4;calc#[_,_,9,r1,r3]
end
structure FN(h:Heap)(x dx C:Addr)(mA:qae):Prop where
 obj:h.get? x\W.instObj C dx
 ns:h.Ns1 dx mA
 ne:dx≠x
def FQ{mA:qae}(n:h.Ns1 dx mA):∃od,h.get? dx\od/\∀name,W.lookIn name od\mA name:=by
 let(o,es,ep,ho,hd,hk,_,hm):=n;show#[o,ho,λname=>?_];let e:=hm name;unfold nsFind findBy at e;rw[<- Array.find?_toList] at e;unfold W.lookIn;rw[hd];dsimp only;split
 rename_i y q
 rw[q] at e;exact aaa some e
 rename_i q
 rw[q] at e;let a:es.toList.any (·.refKey)=false:=by rw[List.any_eq_false];intro y hy;let(z,t,yE):=hk y (Array.mem_toList_iff.mp hy);simp[DictEntry.refKey,yE]
 let a':¬ es.toList.any (·.refKey)=true:=by rw[a];exact iC
 rw[θ a'];calc aaa some e
def FN.look{x:Addr}{mA:qae}(I:FN h x dx C mA):∃od,PySem.W.InstAt h x (W.instObj C dx) C (some od)/\∀name,W.lookIn name od\mA name :=
 let #[od,ho,hl]:=FQ I.ns
 #[od,#[I.obj,9,9,ho],hl]
section
variable{E:qad}{K:qaf}{x:Addr}{mA:qae}{name:Str}{v:Value}
def get_map{expr:Bool}{Q:qad}(X:K.In 69)(I:FN 69 x dx C mA)(hg:W.plainGet K C name=true)(hh:W.hasDictIn K C=true)(ha:W.findIn K (.ref C) name\none)(hv:mA name\v)(yF:W.handedIn v=true)(h:Q v {s with toks:=528+1}) :
  wpAny 14 A (getAttr (.ref x) name expr) Q E s:=by
 let(od,J,hl):=I.look;calc W.get_value X J (W.plainGet_of hg).1 (W.findObj_own hh ha 9 (by rw[hl,hv])) yF h
theorem Ov{ns:χ}{Q:Unit->Shared->Prop}(X:K.In 69)(I:FN 69 x dx C mA)(hs:W.findIn K (.ref C) "__setattr__"\some (.builtin "object.__setattr__"))(hp:W.plainOver K C=true)(ht:W.takerIn K C name\none)(hh:W.hasDictIn K C=true)(hw:PySem.Within mA ns)(kq:ns.length<=sizeLine)(h:∀h',FN h' x dx C (λy=>if y=name then some v else mA y)->Heap.SameBut dx 69 h'->Q Unit.unit {s with heap:=h',toks:=528+2}) :
  wpAny 14 A (setAttr (.ref x) name v) Q E s:=by
 let(od,J,hl):=I.look;show W.set_plain X J hs (W.osa_open X J hp ht λb=>?_);let(cd,hc,hd'):=W.any_some hh;let hx:=I.obj;show ζ (η (ζ (ζ (wpAny_loadPart hx (ζ (PySem.W.Looks.here (W.looks_clsIn X hc) ?_))))));rw[hd'];show η (ζ (η (ζ (wpAny_nsSet1 I.ns λh' R' BC=>?_))));let(oD,esD,epD,hoD,hdD,hcD):=R'.count (PySem.Within.cons name v hw);calc ζ (wpAny_lookBehind hoD (by rw[hdD];calc pastItsLine_dict (kJ hcD (by rw[vJ];lia))) (η (h _ #[(BC.2 _ (Ne.symm I.ne)).trans I.obj,R',I.ne] BC)))
def IX{R:Result->Shared->Prop}{vs:qag}{kw:List (Str×Value)}(X:K.In 69)(hm:W.makesIn K C=true)(hi:W.findIn K (.ref C) "__init__"\some 536)(hf:W.typeIn K 536\.type "function")(h:codeAny 14 (A.under (.builtin "type.__call__" #[.ref C::vs,kw])) (.call 536 #[.ref 77::vs,kw]) (PySem.W.InitBack 77 R)
   {s with heap:=(s.heap.push W.emptyDict).push (W.instObj C 8)}) :
 codeAny 14 A (.call (.ref C) #[vs,kw]) R s:=W.make_core (W.makes_of X hm) (W.looks_findIn X hi) (λself=>W.bind_fn X self hf) 7 h
end
def jn(f:Str)(v:V):List (Str×V)->List (Str×V)
 |[]=>[(f,v)]
 | (g,x)::r=>if g=f then (g,v)::r else (g,x)::jn f v r
theorem oS(f g:Str)(v:V):∀fs:List (Str×V),(jn f v fs).lookup g=if g=f then some v else fs.lookup g
 |[]=>by change List.lookup g [(f,v)]=_;by_cases h:g=f;let hb:=aaS.mpr h;erw[List.lookup,hb,ι h];let hb:=aag.mpr h;erw[List.lookup,hb,θ h]
 | (k,x)::r=>by let ih:=oS f g v r;rw[show jn f v ((k,x)::r)=(if k=f then (k,v)::r else (k,x)::jn f v r) from 9];by_cases hk:k=f;rw[ι hk];by_cases h:g=k;let hb:=aaS.mpr h;erw[List.lookup,hb,ι (h.trans hk)];let hb:=aag.mpr h;erw[List.lookup,hb,θ (λe:g=f=>h (e.trans hk.symm))];rw[θ hk];by_cases h:g=k;let hb:=aaS.mpr h;erw[List.lookup,hb,θ (λe:g=f=>hk (h.symm.trans e))];let hb:=aag.mpr h;erw[List.lookup,hb];calc ih
theorem nP(f:Str)(v:V):∀fs:List (Str×V),f∈(jn f v fs).map (·.1)/\∀g,g∈fs.map (·.1)->g∈(jn f v fs).map (·.1)
 |[]=>#[by simp[jn],λg h=>by simp at h]
 | (k,x)::r=>by
  let(i1,i2):=nP f v r;rw[show jn f v ((k,x)::r)=(if k=f then (k,v)::r else (k,x)::jn f v r) from 9];by_cases hk:k=f;rw[ι hk];subst hk;calc#[by simp,λg h=>by simpa using h];rw[θ hk];show#[?_,λg h=>?_];rw[kn];calc iB _ i1;rw[kn] at h ⊢;rcases dQ.mp h with e|e
  calc dQ.mpr (.inl e);calc iB _ (i2 g e)
theorem oU(f:Str)(v:V):∀fs:List (Str×V),(jn f v fs).length<=fs.length+1
 |[]=>by simp[jn]
 | (k,x)::r=>by let ih:=oU f v r;rw[show jn f v ((k,x)::r)=(if k=f then (k,v)::r else (k,x)::jn f v r) from 9];by_cases hk:k=f;rw[ι hk,vJ,vJ];lia;rw[θ hk,vJ,vJ];lia
def l7.some_of{v:V}{o:Option Value}(r:l7 (some v) o):∃u,o\u/\RelV v u:=by
 cases o with
 |none=>calc (show False from r).elim
 |some u=>calc#[u,9,r]
def FR{v:V}(r:RelV v u):W.handedIn u=true:=by
 cases v with
 |bY=>cases (show u=Value.none from r);rfl
 |bl b=>cases (show u=Value.bool b from r);rfl
 |int i=>let(t,e):=(show ∃t,u=Value.int i t from r);cases e;rfl
 |str x=>let(t,e):=(show ∃t,u=Value.str x t from r);cases e;rfl
 |byt b=>let(t,e):=(show ∃t,u=Value.bytes b t from r);cases e;rfl
 |flt b=>let(t,e):=(show ∃t,u=Value.float b t from r);cases e;rfl
 |ref a=>cases (show u=Value.ref a from r);rfl
 |ty n=>cases (show u=Value.type n from r);rfl
section
variable{H H':Hp}{fs fs':List (Str×V)}
def DM(bZ:kL P w H h)(e:H a\.ins C dx fs):∃mA,FN h a dx C mA/\(∀f,l7 (fs.lookup f) (mA f))/\PySem.Within mA (fs.map (·.1))/\fs.length<=1000/\H dx\.own a:=by let(d,z,ne,ob,mA,n,r,q):=(show cb P w H h a (.ins C dx fs) from bZ a _ e);calc#[mA,#[ob,n,ne],r,q,z,d]
end
structure Ic(K:qaf)(C:Addr):Prop where
 pg:W.plainGet K C Str.empty=true
 hd:W.hasDictIn K C=true
 po:W.plainOver K C=true
 sa:W.findIn K (.ref C) "__setattr__"\some (.builtin "object.__setattr__")
def Ic.get{K:qaf}{C:Addr}(c:Ic K C)(f:Str):W.plainGet K C f=true:=c.pg
def cN(K:qaf)(C:Addr)(f:Str):Prop:=W.findIn K (.ref C) f=some none
def cN.Zj{K:qaf}{f:Str}(n:cN K C f):W.takerIn K C f\none:=by unfold W.takerIn;rw[show W.findIn K (.ref C) f\none from n];rfl
section
variable{X:Cx}{ε:qaa}{σ:St}{H:Hp}{fs:List (Str×V)}{f:Str}{v:V}{E:qad}
def BD{b:Bool}{Q:qad}(I:Inv X ε σ H s)(e:H a\.ins C dx fs)(c:Ic X.K C)(n:cN X.K C f)(l:fs.lookup f\v)(h:∀u s',Inv X ε σ H s'->RelV v u->Q u s'):wpAny 17 A (getAttr 110 f b) Q E s:=by let(mA,O,r,_,_,_):=DM I.bZ e;let(u,hu,ru):=l7.some_of (by rw[<- l];calc r f);calc get_map I.vL O (c.get f) c.hd n hu (FR ru) (h u _ (I.tok _) ru)
theorem BE{y:V}{Q:Unit->Shared->Prop}(I:Inv X ε σ H s)(e:H a\.ins C dx fs)(c:Ic X.K C)(n:cN X.K C f)(hl:fs.length<1000)(ry:RelV y u)(h:∀s',Inv X ε σ (upd H a (.ins C dx (jn f y fs))) s'->Q Unit.unit s'):wpAny 17 A (setAttr 110 f u) Q E s:=by
 let(mA,O,r,wi,_,ho):=DM I.bZ e;let hz:(fs.map (·.1)).length<=sizeLine:=by rw[bS,π];lia
 show Ov I.vL O c.sa c.po n.Zj c.hd wi hz λh' O' sb=>h _ ?_;let hd:∃o,h'.get? dx\o:=let #[o,_,_,e',_]:=O'.ns;#[o,e'];show I.write (by rw[e];calc True.intro) (.inr ho) (λb q hb z=>(sb.2 b hb).trans z) hd #[by rw[aG O.ne];calc ho,?_,O.ne,O'.obj,_,O'.ns,λg=>?_,λg hg=>?_];have:=oU f y fs;lia;rw[oS];by_cases q:g=f;rw[ι q,ι q];calc ry;rw[θ q,θ q];calc r g;by_cases q:g=f;rw[q];calc (nP f y fs).1;show (nP f y fs).2 g (wi g λz=>hg ?_);change (if g=f then some u else mA g)=none;rw[θ q];calc z
def Inv.made(I:Inv X ε σ H s):Inv X ε σ (upd (upd H 8 (.own 77)) 77 (.ins C 8 []))
  {s with heap:=(s.heap.push W.emptyDict).push (W.instObj C 8)}:=by
 let e1:(s.heap.push W.emptyDict).get? s.heap.objs.size\W.emptyDict:=gP 69 9;let e2:((s.heap.push W.emptyDict).push (W.instObj C s.heap.objs.size)).get? (s.heap.objs.size+1)\W.instObj C s.heap.objs.size:=by
  have:=gP (s.heap.push W.emptyDict) (o:=W.instObj C 8) 9
  rwa [uH] at this
 let e3:(s.heap.push W.emptyDict).Ns s.heap.objs.size (λ_=>none):=#[W.emptyDict,83,_,e1,9,(λe he=>absurd he 6),λ_=>rfl];let I1:=I.laid (o:=.own 77) (t':=528) (λb u q=>dF _ q) 82 #[_,e1];show I1.laid (t':=528) (λb u q=>dF _ q) (Ya (uH _ _)) ?_;let ne:s.heap.objs.size≠s.heap.objs.size+1:=hU (qx _);show#[by rw[aG ne,aK],fB _,ne,e2,λ_=>none,(Heap.Ns1.of_empty e3).at λo q=>dF _ q,λ_=>True.intro,λy hy=>absurd 9 hy]
def Ow{env:Env}{f:Str}{pos:Pos}{Q:qad}(hb:attributeBase e f env (eval e env)=eval e env)(h:wpAny 14 A (eval e env) (λo s₁=>wpAny 14 A (getAttr o f true) Q E s₁) E s):wpAny 14 A (eval (.Attribute e f pos) env) Q E s :=
 Attribute_any_ h (by rw[arm_eval_Attribute,hb])
end
def afe(K:qaf)(ta:TE)(f:Str):TE:=λσ H Q=>ta σ H λx H1=>∃a C dx fs v,x=.ref a/\H1 a\.ins C dx fs/\Ic K C/\cN K C f/\fs.lookup f\v/\Q v H1
def aff(K:qaf)(ta tv:TE)(f:Str):TS:=λD σ H=>tv σ H λy H1=>ta σ H1 λx H2=>∃a C dx fs,x=.ref a/\H2 a\.ins C dx fs/\Ic K C/\cN K C f/\fs.length<1000 /\
 D.nx σ (upd H2 a (.ins C dx (jn f y fs)))
section
variable{X:Cx}{value:Expr}{f:Str}{pos:Pos}{ta tv:TE}
def BF(he:PE X e ta)(hb:attributeBase e f 3 (eval e 3)=eval e 3):PE X (.Attribute e f pos) (afe X.K ta f):=by intro ε s σ H Q I h;show Ow hb (cT 520 λu s1 #[x,H1,I1,rx,a,C,dx,fs,v,ex,ea,c,n,l,q]=>?_);subst ex;obtain rfl:=rx;calc BD I1 ea c n l λu' s2 I2 ru=>#[v,H1,I2,ru,q]
def UI(ha:PE X o ta)(hv:PE X value tv)(hs:swapsWith value (some (.Attribute o f pos')) pos.line 3=pure false):PS X (.Assign [.Attribute o f pos'] value pos) (aff X.K ta tv f):=by intro ε s σ H D I h;show plainObj_wpAny_Assign_Attribute (cT (hv ε s σ H _ I h) λu s1 #[y,H1,I1,ry,q]=>cT (ha ε s1 σ H1 _ I1 q) λov s2 #[x,H2,I2,rx,a,C,dx,fs,ex,ea,c,n,l,q2]=>?_) hs;subst ex;obtain rfl:=rx;calc BE I2 ea c n l ry λs3 I3=>#[σ,_,I3,q2]
end
structure bH(k:Nat)(A:Around):Prop where
 hd:538=none
 dp:A.depth+03 * k+05<recursionLimit
 un:A.units+16 * k+200<cLine
def bH.mono{k:Nat}(r:bH k A)(h:j<=k):bH j A:=#[r.hd,by have:=r.dp;lia,by have:=r.un;lia]
def bH.deeper{k:Nat}(r:bH 93 A)(env:Env):bH k (A.deeper env) :=
 #[r.hd,by have:=r.dp;change A.depth+1+03 * k+05<_;lia,by have:=r.un;change A.units+03+16 * k+200<_;lia]
def BG{us:qag}{kw:List (Str×Value)}:(A.under (.builtin "type.__call__" #[.ref C::us,kw])).depth=A.depth+1:=by first|rfl|simp[Around.under,Code.weight,Code.isCreation,Code.isGuard,Code.isCaller,Code.frames,Code.isFrame,guardIds]
def BH{us:qag}{kw:List (Str×Value)}:(A.under (.builtin "type.__call__" #[.ref C::us,kw])).units=A.units+1:=by first|rfl|simp[Around.under,Code.cUnits,Code.frames,Code.isFrame]
def bH.make{k:Nat}(r:bH 93 A)(C:Addr)(us:qag)(kw:List (Str×Value)):bH k (A.under (.builtin "type.__call__" #[.ref C::us,kw])) :=
 #[r.hd,by have:=r.dp;rw[BG];lia,by have:=r.un;rw[BH];lia]
def bH.depth{k:Nat}(r:bH k A):A.depth<recursionLimit:=by have:=r.dp;lia
def afg:TA:=λ_ H Q=>Q [] H
def Zk(ta:TE)(tr:TA):TA:=λσ H Q=>ta σ H λx H1=>tr σ H1 λxs H2=>Q (x::xs) H2
section
variable{X:Cx}{es:qap}{te:TE}{t:TA}{pos:Pos}
def cV:PA X [] afg:=λ_ _ _ _ H Q I h=>Calls.spliced_nil #[[],H,I,.nil,h]
def bD(ha:PE X e te)(hr:PA X es t)(hs:starEach (e::es) 3=(false,eval e 3)::starEach es 3:=by rfl):PA X (e::es) (Zk te t):=by intro pos ε s σ H Q I h;rw[hs];calc YQ (cT 469 λu s1 #[x,H1,I1,r1,q1]=>cT (hr pos ε s1 σ H1 _ I1 q1) λus s2 #[xs,H2,I2,r2,q2]=>#[x::xs,H2,I2,.cons r1 r2,q2])
def afh(t:TA):TE:=λσ H Q=>t σ H λxs H1=>46<=sizeLine/\∀p,H1 p=none->Q (.ref p) (upd H1 p (.tup xs))
def afi(t:TA):TE:=λσ H Q=>t σ H λxs H1=>46<=sizeLine/\∀p,H1 p=none->Q (.ref p) (upd H1 p (.lst xs))
def qF{x1}(h:PA X es t):PE X (.Tuple es x1 pos) (afh t):=by intro ε s σ H Q I hq;show wpAny_Tuple_spliced (cT (h pos ε s σ H _ I hq) λus s1 #[xs,H1,I1,r,z,q]=>#[by rw[<- r.length];calc z,?_]);let hf:=I1.bZ.fresh 82;show#[.ref 96,upd H1 96 (.tup xs),I1.laid (λb u e=>dF _ e) 82 ?_,9,q _ hf];calc#[z,us,r,#[_,gP _ 9,9,_,9]]
def UJ(h:PA X es t):PE X (.List es pos) (afi t):=by intro ε s σ H Q I hq;show wpAny_List_spliced (cT (h pos ε s σ H _ I hq) λus s1 #[xs,H1,I1,r,z,q]=>#[by rw[<- r.length];calc z,?_]);let hf:=I1.bZ.fresh 82;show#[.ref 96,upd H1 96 (.lst xs),I1.laid (λb u e=>dF _ e) 82 ?_,9,q _ hf];calc#[z,us,0,r,gP _ 9]
end
abbrev Sp:=List V->Hp->VK->XK->Prop
abbrev Ie:=List Env->Hp->Shared->XK->qad
structure BI(P:Program)(w:World)(K:qaf)(mg:qae)(base:Heap)(A:Around)(outer:List Env)(s:Shared)(H:Hp):Prop where
 frames:A.frames\outer
 mod:Mod K mg base
 bs:∀b o,base.get? b\o->s.heap.get? b\o/\H b=none
 N5:base.objs.size<=8
 pM:s.heap.FunFrames base outer
 Ud:∀b∈Ib outer,H b=none
 bZ:kL P w H 69
 bare:AllBare s.gens
def CE(outer:List Env)(P:Program)(w:World)(H:Hp)(s:Shared)(Q:VK)(u:Value)(s':Shared):Prop :=
 ∃v H',s'.os=s.os/\AllBare s'.gens/\Un (Ib outer) [] H H' 69 s'.heap/\kL P w H' s'.heap/\RelV v u/\Q v H'
def CR(CX:Ie)(outer:List Env)(P:Program)(w:World)(H:Hp)(s:Shared)(Q:VK)(E:XK)(r:Result)(s':Shared):Prop :=
 match r with
 |.ok (.ret u)=>CE outer P w H s Q u s'
 |.ok _=>False
 |.error e=>CX outer H s E e s'
structure eD(P:Program)(w:World)(K:qaf)(mg:qae)(base:Heap)(CX:Ie)(k:Nat)(f:Addr)(fd:FuncData)(ps:χ)(sp:Sp):Prop where
 len:∀vs H Q E,sp vs H Q E->87=471
 run:∀(A:Around)(outer:List Env)(s:Shared)(H:Hp)(args:Args)(us:qag)(vs:List V)(Q:VK)(E:XK),bH k A->BI P w K mg base A outer s H->BindsTo s fd args (ps.zip us)->Vals vs us->sp vs H Q E ->
  codeAny (model P w) A (.call 536 args) (CR CX outer P w H s Q E) s
def BI.make{K:qaf}{mg:qae}{outer:List Env}{H:Hp}(e:BI P w K mg base A outer s H)(C:Addr)(us:qag)(kw:List (Str×Value)) :
 BI P w K mg base (A.under (.builtin "type.__call__" #[.ref C::us,kw])) outer s H:=#[by first|calc e.frames|(simpa[Around.under,Code.envs,Code.isFrame,pushEnvs] using e.frames),e.mod,e.bs,e.N5,e.pM,e.Ud,e.bZ,e.bare]
section
variable{X:Cx}{ε:qaa}{σ:St}{H:Hp}
def Inv.Zl(I:Inv X ε σ H s):BI 33 X.w X.K X.mg X.base X.A X.stack s H :=
 #[I.ok.frames,I.ok.mod,I.bs,kJ I.ok.N5 I.sz,I.stack,I.DE,I.bZ,I.bare]
def Inv.after{Q:VK}(I:Inv X ε σ H s)(h:CE X.stack 33 X.w H s Q u s'):EP X ε σ Q u s':=by let(v,H',os,bare,un,bZ,r,q):=h;let(hh,g,d,t,os'):=s';obtain rfl:=os;calc#[v,H',I.call un bZ bare (λb z=>absurd z 6),r,q]
end
def Zm(sp:Sp)(yG:List V)(E:XK)(t:TA):TE:=λσ H Q=>t σ H λvs H1=>sp (vs++yG) H1 Q E
def Zn(C:Addr)(sp:Sp)(yG:List V)(E:XK)(t:TA):TE:=λσ H Q=>t σ H λvs H1=>∀x dx,H1 x=none->H1 dx=none->dx≠x ->
 sp (.ref x::(vs++yG)) (upd (upd H1 dx (.own x)) x (.ins C dx [])) (λv H2=>v=.bY/\Q (.ref x) H2) E
def Binds(K:qaf)(fd:FuncData)(ps:χ)(ds:qag):Prop :=
 ∀(s:Shared)(us:qag),K.In 69->(us++ds).length=471->BindsTo s fd #[us,[]] (ps.zip (us++ds))
def Binds.all{K:qaf}{ps:χ}(h:∀us:qag,517=471->bindArgs fd #[us,[]]=pure (ps.zip us)):Binds K fd ps []:=λs us _ hl=>by rw[HX] at hl ⊢;calc .of_eq (h us hl)
def Passes(CX:Ie)(X:Cx)(E:XK):Prop:=∀(ε:qaa)(σ:St)(H:Hp)(s:Shared)(e:Value)(s':Shared),Inv X ε σ H s->CX X.stack H s E e s'->X.xe e s'
section
variable{X:Cx}{CX:Ie}{k:Nat}{ps:χ}{sp:Sp}{yG:List V}{ds:qag}{E:XK}{m:Str}{pos:Pos}{es:qap}{ta:TE}{t:TA}
def UK{ε:qaa}{σ:St}{H:Hp}{Q:VK}{us:qag}{vs:List V}(F:eD 33 X.w X.K X.mg X.base CX k f fd ps sp)(hr:bH k X.A)(hb:Binds X.K fd ps ds)(hd:Vals yG ds)(hx:Passes CX X E)(I:Inv X ε σ H s)(r:Vals vs us)(h:sp (vs++yG) H Q E):wpAny 17 X.A (call 536 us) 491 X.xe s:=by
 let r2:=r.append hd;let hl:(us++ds).length=ps.length:=by rw[<- r2.length];exact F.len _ _ _ _ h
 show wpAny_call (aax (F.run X.A X.stack s H #[us,[]] (us++ds) (vs++yG) Q E hr I.Zl (hb s us I.vL hl) r2 h) λr s' hq=>?_);cases r with
 |error e=>calc hx ε σ H s e s' I hq
 |ok fl=>
  cases fl with
  |ret u=>calc I.after hq
  |_=>calc False.elim hq
def jZ(F:eD 33 X.w X.K X.mg X.base CX k f fd ps sp)(hr:bH k X.A)(hg:Gl X x)(hm:X.mg x\.ref f)(hk:W.keepIn X.K 536=true)(hb:Binds X.K fd ps ds)(hd:Vals yG ds)(hx:Passes CX X E)(ha:PA X (e::es) t)(tZ:gD x:=by decide)(he:starEach (e::es) 3=(false,eval e 3)::starEach es 3:=by rfl)(j1:(backTo pos 90).any (·.1)=false:=by rfl) :
  PE X (.Call 31 (e::es) [] pos) (Zm sp yG E t):=by
 intro ε s σ H Q I h;calc aaw (vM I hg hm (W.callWith_K I.ok.mod.kin hk (cT 478 λus s1 #[vs,H1,I1,r,q]=>#[I1.vL,UK F hr hb hd hx I1 r q]) he j1) tZ)
structure Mk(K:qaf)(C f:Addr):Prop where
 makes:W.makesIn K C=true
 init:W.findIn K (.ref C) "__init__"\some 536
 fn:W.isFn K 536=true
 kp:W.keepIn K (.ref C)=true
theorem IY{ε:qaa}{σ:St}{H:Hp}{Q:VK}{us:qag}{vs:List V}(M:Mk X.K C f)(F:eD 33 X.w X.K X.mg X.base CX k f fd ps sp)(hr:bH 93 X.A)(hb:Binds X.K fd ps ds)(hd:Vals yG ds)(hx:Passes CX X E)(I:Inv X ε σ H s)(r:Vals vs us)(h:∀x dx,H x=none->H dx=none->dx≠x->sp (.ref x::(vs++yG)) (upd (upd H dx (.own x)) x (.ins C dx [])) (λv H2=>v=.bY/\Q (.ref x) H2) E) :
  wpAny 17 X.A (call (.ref C) us) 491 X.xe s:=by
 let hq:=h 77 8 (I.bZ.fresh (ID _)) 532 (hU (qx _));let I2:=Inv.made (C:=C) I;let r2:Vals (V.ref (s.heap.objs.size+1)::(vs++yG)) (Value.ref (s.heap.objs.size+1)::(us++ds)):=.cons 9 (r.append hd);let hl:(Value.ref (s.heap.objs.size+1)::us++ds).length=ps.length:=by let e:=r2.length;rw[F.len _ _ _ _ hq] at e;exact e.symm
 show wpAny_call (IX I.vL M.makes M.init (aaS.mp M.fn) (aax (F.run _ X.stack _ _ #[Value.ref 77::us,[]] (Value.ref 77::(us++ds)) _ _ E (hr.make C us [])
  (I2.Zl.make C us []) (hb _ (Value.ref 77::us) I2.vL hl) r2 hq) λr s' tQ=>?_))
 cases r with
 |error e=>calc hx ε σ _ _ e s' I2 tQ
 |ok fl=>
   cases fl with
   |ret u=>let(v,H',I3,rv,ev,q3):=I2.after tQ;subst ev;calc#[rv,#[V.ref 77,H',I3,9,q3]]
   |_=>calc False.elim tQ
def DN(M:Mk X.K C f)(F:eD 33 X.w X.K X.mg X.base CX k f fd ps sp)(hr:bH 93 X.A)(hg:Gl X x)(hm:X.mg x\.ref C)(hb:Binds X.K fd ps ds)(hd:Vals yG ds)(hx:Passes CX X E)(ha:PA X (e::es) t)(tZ:gD x:=by decide)(he:starEach (e::es) 3=(false,eval e 3)::starEach es 3:=by rfl)(j1:(backTo pos 90).any (·.1)=false:=by rfl) :
  PE X (.Call 31 (e::es) [] pos) (Zn C sp yG E t):=by
 intro ε s σ H Q I h;calc aaw (vM I hg hm (W.callWith_K I.ok.mod.kin M.kp (cT 478 λus s1 #[vs,H1,I1,r,q]=>#[I1.vL,IY M F hr hb hd hx I1 r q]) he j1) tZ)
end
section
variable{X:Cx}{CX:Ie}{k:Nat}{ps ks:χ}{sp:Sp}{E:XK}{m:Str}{pos Oy:Pos}{es:qap}{kws:List Keyword}{te ta:TE}{t tk:TA}{nm:Option Str}
variable{g:qag->qag->qag}{gV:List V->List V->List V}
end
structure az(N P:χ)(sc:Scope):Prop where
 kind:sc.kind=.function
 co:sc.isCoroutine=false
 gen:sc.isGenerator=false
 nd:N.Nodup
 pre:N.take P.length=P
 par:∀x∈P,sc.names.lookup x\.local\/sc.names.lookup x\.cell
 UL:∀y∈sc.names,y.2≠.free
def eS{N P:χ}(a:sc.kind=.function:=by rfl)(b:sc.isCoroutine=false:=by rfl)(c:sc.isGenerator=false:=by rfl)(d:N.Nodup:=by decide +kernel)(e:N.take P.length=P:=by rfl)(f:∀x∈P,sc.names.lookup x\.local\/sc.names.lookup x\.cell:=by decide +kernel)(g:∀y∈sc.names,y.2≠.free:=by decide +kernel):az N P sc:=#[a,b,c,d,e,f,g]
theorem uM{kindOf:Str->Option NameKind}{x:Str}:∀{binds:List (Str×Value)}{m:qae},(∀v,(x,v)∉binds)->bindL kindOf binds m x=m x
 |[],_,_=>rfl
 | (n,v)::r,m,h=>by
  unfold bindL;rw[uM λw hw=>h w (iB _ hw)];split;have:x≠n:=by rintro rfl;exact h v iz
  simp[this];rfl
theorem uN{kindOf:Str->Option NameKind}{x:Str}:∀{binds:List (Str×Value)}{m:qae},(∀v,(x,v)∉binds)->bindC kindOf binds m x=m x
 |[],_,_=>rfl
 | (n,v)::r,m,h=>by
  unfold bindC;rw[uN λw hw=>h w (iB _ hw)];split;rfl;have:x≠n:=by rintro rfl;exact h v iz
  simp[this]
theorem uO{kindOf:Str->Option NameKind}{x:Str}{v:Value}:∀{P:χ}{vs:qag}{i:Nat}{m:qae},P.Nodup->P[i]?\x->vs[i]?\v->kindOf x\.local ->
  bindL kindOf (P.zip vs) m x\v
 |[],_,_,_,_,h,_,_=>by simp at h
 |_::_,[],_,_,_,_,h,_=>by simp at h
 |p::P,w::vs,0,m,nd,h1,h2,hk=>by simp at h1 h2;subst h1;subst h2;change bindL kindOf ((p,w)::P.zip vs) m p=_;unfold bindL;rw[uM λv hv=>(qy.mp nd).1 (List.of_mem_zip hv).1,ι hk];simp
 |p::P,w::vs,i+1,m,nd,h1,h2,hk=>by unfold bindL;calc uO (qy.mp nd).2 (by simpa using h1) (by simpa using h2) hk
theorem uP{kindOf:Str->Option NameKind}{x:Str}{v:Value}:∀{P:χ}{vs:qag}{i:Nat}{m:qae},P.Nodup->P[i]?\x->vs[i]?\v->kindOf x≠some .local ->
  bindC kindOf (P.zip vs) m x\v
 |[],_,_,_,_,h,_,_=>by simp at h
 |_::_,[],_,_,_,_,h,_=>by simp at h
 |p::P,w::vs,0,m,nd,h1,h2,hk=>by simp at h1 h2;subst h1;subst h2;change bindC kindOf ((p,w)::P.zip vs) m p=_;unfold bindC;rw[uN λv hv=>(qy.mp nd).1 (List.of_mem_zip hv).1,θ hk];simp
 |p::P,w::vs,i+1,m,nd,h1,h2,hk=>by unfold bindC;calc uP (qy.mp nd).2 (by simpa using h1) (by simpa using h2) hk
def start(N:χ)(vs:List V):St:=vs.map some++List.replicate (N.length-87) none
def hY(CX:Ie)(P:Program)(w:World)(K:qaf)(mg:qae)(base:Heap)(N:χ)(qual:Str)(scope:Scope)(f:Addr)(cd:Value)(A:Around)(outer:List Env)(s:Shared)(H:Hp)(E:XK):Cx where
 prog:=P
 w:=w
 K:=K
 mg:=mg
 base:=base
 A:=A.deeper (envOfC qual scope 8 f cd)
 N:=N
 s₀:=s
 H₀:=H
 env:=envOfC qual scope 8 f cd
 outer:=outer
 stack:=envOfC qual scope 8 f cd::outer
 ex:=[]
 calm:=true
 fn:=λ_=>true
 pn:=[]
 xe:=λe s'=>wpAny (model P w) (A.deeper (envOfC qual scope 8 f cd)) (leaving (envOfC qual scope 8 f cd) e) (λ_ UM=>CX outer H s E e UM) (λe' UM=>CX outer H s E e' UM) s'
def yH(h:sc.names.lookup x\.cell):∃c,(cellsFrom n sc.names []).lookup x\c:=by let q:=W.cellsFrom_some sc.names n [] (.inl h);calc Option.isSome_iff_exists.mp q
def FT{CX:Ie}{K:qaf}{mg:qae}{N ps:χ}{scope:Scope}{cd:Value}{outer:List Env}{s1:Shared}{H:Hp}{E:XK}{us:qag}{vs:List V}(S:az N ps scope)(hd:538=none)(e0:BI P w K mg base A outer s H)(hl:87=471)(r:Vals vs us)(x:InCallC s 8 (bindL (envOfC qual scope 8 f cd).kindOf (ps.zip us) λ_=>none) (cellsFrom 77 scope.names []) (bindC (envOfC qual scope 8 f cd).kindOf (ps.zip us) λ_=>none) s1) :
  Inv (hY CX P w K mg base N qual scope f cd A outer s H E) [] (start N vs) H s1:=by
 let j1:ps.length<=N.length:=by have:=aaa List.length S.pre;rw[NW] at this;lia
 let(h1,tk,rfl,hk):=x.done;let Zo:∀b:Addr,b∉(hY CX P w K mg base N qual scope f cd A outer s H E).ex:=λb z=>absurd (show b∈([]:zm) from z) 6;show#[#[e0.mod,S.kind,9,9,cM _,λy z c h1 h2=>?_,λy hy=>?_,λy c _ h=>?_,λ_=>hd,Around.frames_deeper e0.frames,.inr #[9,9],λb z=>absurd z (Zo b),e0.bs,e0.N5,λb _ _=>Zo b,λb z=>absurd z (Zo b),e0.pM,e0.Ud],
  rfl,e0.bare,Un.kept hk,#[_,x.toInCall.ns,λi y v h1 h2 h3=>?_],λy c h=>#[_,x.cell y c h],e0.bZ.fresh 82,λy c h=>?_,λp hp=>absurd (show p∈([]:qaa) from hp) 6,e0.bZ.kept hk,?_]
 calc name_of_addr x.apart (RT h1) (RT h2);let hy:=hy;obtain hy|hy:=hy
 calc yH hy;calc absurd 9 (S.UL _ (RT hy));calc T6 (x.above y c (RT h));let hi:i<vs.length:=by unfold start at h2;by_cases hi:i<87;calc hi;rw[uF (by simpa using hi)] at h2;rw[HV] at h2;split at h2<;>cases h2
 let ha:vs[i]?\v:=by
  unfold start at h2;rw[pI (by simpa using hi),fW] at h2;cases e:vs[i]? with
  |none=>rw[e] at h2;cases h2
  |some a=>rw[e] at h2;cases h2;rfl
 let(u,hu,rv):=r.get ha;let hp:ps[i]?\y:=by rw[<- S.pre,List.getElem?_take_of_lt ()];exact h1
 let ndP:ps.Nodup:=by rw[<- S.pre];exact S.nd.sublist (List.take_sublist _ _)
 show#[u,rv,?_];rcases S.par y (fM hp) with k|k
 calc .inl #[k,uO ndP hp hu k];let(c,e):=yH k;show .inr #[.inl k,c,e,?_];let q:=x.cell y c e;rw[uP ndP hp hu (by change scope.names.lookup y≠_;rw[k];decide)] at q;calc q;calc e0.bZ.fresh (T6 (x.above y c (RT h)));unfold start;change _=N.length;rw[fU,bS,ND]
 lia
theorem DO{CX:Ie}{K:qaf}{mg:qae}{k:Nat}{name:Str}{params:Arguments}{body:qaq}{scope:Scope}{dV kV doc pm bM ct oc:Value}{an od:qar}{BJ:Array 474}{N ps:χ}{sp:Sp}(lk:K.lookup f=some #[oc,od,.func (W.fnOf name qual params body scope dV kV doc pm an bM ct),BJ])(fL:W.codeIn K bM qual=true)(S:az N ps scope)(len:∀vs H Q E,sp vs H Q E->87=471)(fG:∀(A:Around) (outer:List Env) (s:Shared) (H:Hp) (vs:List V) (Q:VK) (E:XK),bH k (A.deeper (envOfC qual scope 8 f bM))->sp vs H Q E ->
    ∃t,ko (hY CX P w K mg base N qual scope f bM A outer s H E) body t/\t {nx:=λ_ H'=>Q .bY H',rt:=Q} (start N vs) H) :
  eD P w K mg base CX 93 f (W.fnOf name qual params body scope dV kV doc pm an bM ct) ps sp:=by
 show#[len,λA outer s H args us vs Q E hr e0 hb r Sa=>?_];let hl:=len _ _ _ _ Sa;let KX:=e0.mod.kin.keeps λb o e=>(e0.bs b o e).1;let lim:=e0.mod.nolimit.keeps λb o e=>(e0.bs b o e).1;let Zp:∀y∈ps.zip us,scope.names.lookup y.1\.local\/(scope.names.lookup y.1\.cell/\((cellsFrom (s.heap.objs.size+1) scope.names []).lookup y.1).isSome=true):=λ#[n,v] hy=>by
  rcases S.par n (List.of_mem_zip hy).1 with q|q
  calc .inl q;exact .inr #[q,W.cellsFrom_some _ _ _ (.inl q)]
 show codeAny_call_function hr.depth (KX _ _ lk) 9 S.co S.gen 9 (W.codeRec_of KX fL) (hb _ _ _ _ (wpAny_newFunctionEnv_cells S.kind Zp λenv he s1 x=>?_));subst he;show#[lim.keeps x.toInCall.keep,codeAny_func ?_];let(t,ht,hq):=fG A outer s H vs Q E (hr.deeper _) Sa;let I:Inv (hY CX P w K mg base N qual scope f bM A outer s H E) [] (start N vs) H s1:=FT S hr.hd e0 hl r x;show F1 (ht [] s1 (start N vs) H _ I hq) (λfl s' hs=>?_) λe s' hs=>hs;let fin:∀{σ':St}{H':Hp}{v:V}{u:Value},Inv (hY CX P w K mg base N qual scope f bM A outer s H E) [] σ' H' s'->RelV v u->Q v H'->CE outer P w H s Q u s' :=
  λ{σ' H' v u} J rv q=>#[v,H',J.os,J.bare,J.base,J.bZ,rv,q]
 cases fl with
 |ret u=>let(v,σ',H',J,rv,q):=hs;calc fin J rv q
 |next=>let(σ',H',J,q):=hs;calc fin (v:=V.bY) J 9 q
 |brk=>let(_,_,_,q):=hs;calc False.elim q
 |cont=>let(_,_,_,q):=hs;calc False.elim q
section
variable{X:Cx}{pos:Pos}{es:qap}{t:TA}{id T:String}{r:List V->Hp->VK->Prop}
def tCB(r:List V->Hp->VK->Prop)(t:TA):TE:=λσ H Q=>t σ H λvs H1=>r vs H1 Q
def jo(hc:dh X 541 r)(hg:Gl X x)(hm:X.mg x=none)(hv:bootBuiltins x\.builtin id)(ha:PA X (e::es) t)(hn:x≠"__name__":=by decide)(tZ:gD x:=by decide)(he:starEach (e::es) 3=(false,eval e 3)::starEach es 3:=by rfl)(j1:(backTo pos 90).any (·.1)=false:=by rfl):PE X (.Call 31 (e::es) [] pos) (tCB r t):=by intro ε s σ H Q I h;calc aaw (nL I hg hm hv (PyProof.Rows.callWith_builtin1 (cT 478 λus s1 #[vs,H1,I1,r1,q1]=>hc ε s1 σ H1 vs us Q I1 r1 q1) he j1) hn tZ)
def nQ(hc:dh X (.type T) r)(hg:Gl X x)(hm:X.mg x=none)(hv:bootBuiltins x\.type T)(ha:PA X (e::es) t)(hn:x≠"__name__":=by decide)(tZ:gD x:=by decide)(he:starEach (e::es) 3=(false,eval e 3)::starEach es 3:=by rfl)(j1:(backTo pos 90).any (·.1)=false:=by rfl):PE X (.Call 31 (e::es) [] pos) (tCB r t):=by intro ε s σ H Q I h;calc aaw (nL I hg hm hv (ab2 (cT 478 λus s1 #[vs,H1,I1,r1,q1]=>hc ε s1 σ H1 vs us Q I1 r1 q1) he j1) hn tZ)
end
end L2
variable{X:L2.Cx}{K:qaf}{H H':L2.Hp}{σ:L2.St}{E Q:qad}{v:L2.V}{ε:qaa}{mg:qae}{ps ys:χ}{es elts:qap}{te ta:L2.TE}{net:qan}{fp:zm}{us:qag}{ks:List (List L2.Key)}{sp:L2.Sp}{bj:List (List L2.Key×L2.V)}
abbrev qac:=List (80×L2.V)
abbrev qak:=List L2.V
namespace HT
open PySem PyProof.Rows
section
open PySem.SeqAt
open PySem.AutoSeq1 (wpAny_loadPart')
open PySem.MeetsSeq PySem.MeetsSeq2 PySem.MeetsSeq3
end
section
def Oz{t b:Addr}{vs ws:qag}(ht:IsTup 69 t 515)(hb:IsTup 69 b ws.toArray)(hv:vs≠[])(h1:ws=[]->Q (.ref t) s)(h2:ws≠[]->Q 59 {s with heap:=s.heap.push {cls:=.type "tuple",data:=.seq (vs++ws).toArray} })(kq:87+ws.length<=sizeLine):wpAny 14 A (binaryOp .Add (.ref t) (.ref b)) Q E s:=by
 let((cls,dd,data,sl),ho,hc,n,hd):=id ht;let((Zq,Ye,data2,Yf),Ig,OA,n2,hd2):=id hb;subst hc hd OA hd2;let e:vs.toArray++ws.toArray=(vs++ws).toArray:=by simp
 by_cases hw:ws=[];exact concat_meets #[_,ho,9] #[_,Ig,9] noFill_tuple_add seq_tuple_add acS acO (acL _ _)
  (tuple_addW1 t b 515 ws.toArray n n2 dd Ye sl Yf (by simpa using hv) (by simp[hw])) #[ho,Ig,h1 hw]
 show concat_meets #[_,ho,9] #[_,Ig,9] noFill_tuple_add seq_tuple_add acS acO (acL _ _)
  (tuple_addW2 t b 515 ws.toArray n n2 dd Ye sl Yf (by simpa using hv) (by simpa using hw) (by rw[iD,iD];calc kq)) #[ho,Ig,?_]
 rw[e];calc h2 hw
def fD(n d:Nat):Option Int->Nat
 |none=>d
 |some v=>if v<0 then (v+(n:Int)).toNat else min v.toNat n
def IZ(n d:Nat):fD n d none=d:=rfl
def OB(n d k:Nat):fD n d (some (k:Int))=min k n:=by change (if k<0 then (k+(n:Int)).toNat else min (k:Int).toNat n)=min k n;rw[θ (),i9]
def afj(n d:Nat)(hd:d<=n)(o:Option Int):fD n d o<=n:=by
 cases o with
 |none=>calc hd
 |some v=>change (if v<0 then (v+n).toNat else min v.toNat n)<=n;by_cases hv:v<0;rw[ι hv];lia;rw[θ hv];calc Nat.min_le_right _ _
def DP(v:Int)(n d:Nat):(if v<0 then max (v+(n:Int)) 0 else min v (n:Int))=((fD n d (some v):Nat):Int):=by change (if v<0 then max (v+n) 0 else min v n)=(((if v<0 then (v+n).toNat else min v.toNat n):Nat):Int);by_cases hv:v<0;erw[ι hv];lia;erw[θ hv];lia
def BK(lo hi:Option Int)(n:Nat):Builtin.Slice.sliceAdjust lo hi 1 (n:Int)=(((fD n 0 lo:Nat):Int),((fD n n hi:Nat):Int)):=by
 unfold Builtin.Slice.sliceAdjust;show Prod.ext ?_ ?_;cases lo with
 |none=>rfl
 |some v=>exact DP v n 0
 cases hi with
 |none=>rfl
 |some v=>calc DP v n n
def BL(i j:Nat):Builtin.Slice.slicePlaces (i:Int) (j:Int) 1=j-i:=by unfold Builtin.Slice.slicePlaces;split<;>lia
def qG{v:Value}{o:Option Int}{Q:Option Int->Shared->Prop}(p:IsPart v o)(h:Q o s):wpAny 14 A (Builtin.Slice.slicePartIndex v) Q E s:=by
 cases p with
 |none=>calc slicePart_none h
 |int i t=>calc slicePart_int h
def nR{sl:Addr}{vl vu:Value}{lo hi:Option Int}{Q:Int×Int×Nat->Shared->Prop}(hs:s.heap.IsSliceOf sl vl vu .none)(pl:IsPart vl lo)(pu:IsPart vu hi)(h:Q (((fD n 0 lo:Nat):Int),1,fD n n hi-fD n 0 lo) s):wpAny 14 A (Builtin.Slice.sliceApplied (.ref sl) (pure (n:Int))) Q E s:=by let(os,Zr,hcs,hds):=id hs;show ζ (ζ (Φ Zr hds 9 (ζ (Φ Zr hds 9 (ζ (Φ Zr hds 9 (η (ζ (slicePart_none (ζ (qG pl (ζ (qG pu (ζ (η ?_)))))))))))))));change wpAny _ _ (match Builtin.Slice.sliceAdjust lo hi 1 n with|(lo,hi)=>pure (lo,(1:Int),Builtin.Slice.slicePlaces lo hi 1)) _ _ s;rw[BK lo hi n];change wpAny _ _ (pure (((fD n 0 lo:Nat):Int),(1:Int),Builtin.Slice.slicePlaces ((fD n 0 lo:Nat):Int) ((fD n n hi:Nat):Int) 1)) _ _ s;rw[BL];calc η h
def I8(xs:Array Value)(i k:Nat):((List.range k).filterMap λ(m:Nat)=>xs[((i:Int)+(m:Int) * 1).toNat]?).toArray=((xs.toList.drop i).take k).toArray:=by
 let e:(λ(m:Nat)=>xs[(i+(m:Int) * 1).toNat]?)=λm=>xs[i+m]?:=by
  funext m;have:(i+(m:Int) * 1).toNat=i+m:=by lia
  rw[this]
 rw[e];have:=pick_run xs i k;rw[List.filterMap_map] at this;let e2:((λx=>xs[x]?) ∘ λx=>i+x)=λm=>xs[i+m]?:=rfl;rw[e2] at this;rw[this]
def ma{t sl:Addr}{items:Array Value}{vl vu:Value}{lo hi:Option Int}(ht:IsTup 69 t items)(hs:s.heap.IsSliceOf sl vl vu .none)(pl:IsPart vl lo)(pu:IsPart vu hi)(hw:¬ (fD 98 0 lo=0/\fD 98 98 hi=98))(h:Q 59 {s with heap:=s.heap.push {cls:=.type "tuple",data:=.seq ((items.toList.drop (fD 98 0 lo)).take (fD 98 98 hi-fD 98 0 lo)).toArray} })(kq:98<=sizeLine):wpAny 14 A (getItem (.ref t) (.ref sl)) Q E s:=by
 let DQ:sizeOk (.seq ((items.toList.drop (fD items.size 0 lo)).take (fD items.size items.size hi-fD items.size 0 lo)).toArray):=by
  change ((items.toList.drop (fD 98 0 lo)).take (fD 98 98 hi-fD 98 0 lo)).toArray.size<=sizeLine;rw[iD,NW,X8,Fq]
  lia
 let(os,Zr,hcs,hds):=id hs;let hTs:s.TypeIs (.ref sl) "slice":=#[os,Zr,hcs];unfold getItem
 try with_reducible show Ω ?_
 first|show ζ (η ?_)|skip
 show ζ (wpAny_sequenceKey ht.typeIs 15 ?_);show ζ (ψ ht.typeIs acn
  (υ acn ht.typeIs entry_tuple_getitem ?_ (args_tuple_getitem _ _)))
 change wpAny _ _ (Builtin.Tuple.tupleItemsOf (.ref t) >>= _) _ _ s;show ζ (tupleItemsOf_ ht (ζ (wpAny_typeOf hTs (ζ (nR hs pl pu ?_)))));let hno:¬ ((((fD items.size 0 lo:Nat):Int)==0 && (1:Int)==1 && (fD items.size items.size hi-fD items.size 0 lo)==items.size)=true):=by intro q;rw[pK,pK] at q;let q1:=eq_of_beq q.1.1;let q2:=eq_of_beq q.2;exact hw #[(),()]
 change wpAny _ _ (if (((fD 98 0 lo:Nat):Int)==0 && (1:Int)==1 && (fD 98 98 hi-fD 98 0 lo)==98)=true then _ else _) _ _ s;rw[θ hno,I8]
 first
  |calc ζ (Δ (η #[_,9,η h]) DQ)
  |calc ζ (Δ (ζ (η (η #[_,9,η h]))) DQ)
  |calc ζ (ζ (Δ (η (η #[_,9,η h])) DQ))
  |calc ζ (ζ (Δ (η #[_,9,η h]) DQ))
end
end HT
variable{vs xs:qak}
namespace L2
open PySem PySem.Spec PyProof.Rows
abbrev TO:=St->Hp->(Option Int->Hp->Prop)->Prop
def PO(X:Cx)(e:Option Expr)(t:TO):Prop :=
 ∀(ε:qaa)(s:Shared)(σ:St)(H:Hp)(Q:Option Int->Hp->Prop),Inv X ε σ H s->t σ H Q ->
  wpAny 17 X.A (evalPart e 3) (λu s'=>∃o H',Inv X ε σ H' s'/\IsPart u o/\Q o H') X.xe s
def OC:TO:=λ_ H Q=>Q none H
def Zs(t:TE):TO:=λσ H Q=>t σ H λx H1=>∃i,x=.int i/\Q (some i) H1
def intsAre_of{ns:qan}:∀{us:qag},Vals (ns.map V.int) us->IntsAre us ns:=by
 induction ns with
 |nil=>intro us r;rw[Yb] at r;cases r;calc .nil
 |cons n ns ih=>
  intro us r;cases r with
  |cons r1 r2=>let(t,e):=r1;subst e;calc .cons n t (ih r2)
section
variable{lo hi:Option Expr}{tl th:TO}{pos:Pos}
def OD:PO X none OC:=by intro ε s σ H Q I h;calc η #[none,H,I,.none,h]
def OE(h:PE X e te):PO X (some e) (Zs te):=by intro ε s σ H Q I hw;show cT (h ε s σ H _ I hw) λu s1 #[x,H1,I1,r1,q1]=>?_;let(i,rfl,q):=q1;let(t,rfl):=r1;calc#[some i,H1,I1,.int i t,q]
def I9(X:Cx)(r:V->Option Int->Option Int->Hp->VK->Prop):Prop :=
 ∀(ε:qaa)(s:Shared)(σ:St)(H:Hp)(x:V)(v vl vu:Value)(lo hi:Option Int)(sl:Addr)(Q:VK),Inv X ε σ H s->RelV x v->s.heap.IsSliceOf sl vl vu .none->IsPart vl lo->IsPart vu hi->r x lo hi H Q ->
  ∃T id,typeLookup (.type T) "__getitem__"=pure (some 541)/\s.TypeIs v T/\wpAny 17 X.A (getItem v (.ref sl)) 491 X.xe s
def I9.or{r r':V->Option Int->Option Int->Hp->VK->Prop}(h:I9 X r)(h':I9 X r'):I9 X (λx lo hi H Q=>r x lo hi H Q\/r' x lo hi H Q):=by
 intro ε s σ H x v vl vu lo hi sl Q I rx hs pl pu q;obtain q|q:=q
 calc h ε s σ H x v vl vu lo hi sl Q I rx hs pl pu q;calc h' ε s σ H x v vl vu lo hi sl Q I rx hs pl pu q
def tSl(r:V->Option Int->Option Int->Hp->VK->Prop)(te:TE)(tl th:TO):TE:=λσ H Q=>te σ H λx H1=>tl σ H1 λl H2=>th σ H2 λu H3=>r x l u H3 Q
def I_{r:V->Option Int->Option Int->Hp->VK->Prop}(hr:I9 X r)(he:PE X e te)(hl:PO X lo tl)(hu:PO X hi th):PE X (.Subscript e (.Slice lo hi none p2) pos) (tSl r te tl th):=by intro ε s σ H Q I h;show Subscript_ (cT 520 λv s1 #[x,H1,I1,r1,q1]=>wpAny_Slice (cT (hl ε s1 σ H1 _ I1 q1) λvl s2 #[l,H2,I2,pl,q2]=>cT (hu ε s2 σ H2 _ I2 q2) λvu s3 #[u,H3,I3,pu,q3]=>η ?_));let I4:Inv X ε σ H3 {s3 with heap:=s3.heap.push {cls:=.type "slice",data:=.fields ([vl,vu,.none].toArray)} }:=I3.kept λb ob q=>dF _ q;let(T,id,hT,ht,hg):=hr ε {s3 with heap:=s3.heap.push {cls:=.type "slice",data:=.fields ([vl,vu,.none].toArray)} } σ H3 x v vl vu l u s3.heap.objs.size Q I4 r1 (Heap.IsSliceOf.new ..) pl pu q3;calc tail_any ht hT hg (by with_unfolding_all rfl)
def FU(xs:qak)(lo hi:Option Int):qak:=(xs.drop (HT.fD 46 0 lo)).take 189
theorem oV(xs:qak)(lo hi:Option Int):(FU xs lo hi).length<=46:=by
 unfold FU;rw[NW,X8]
 lia
def Zt(K:qaf):V->Option Int->Option Int->Hp->VK->Prop:=λx lo hi H Q=>∃a xs,x=.ref a/\eZ K H a xs /\
 ¬ (HT.fD 46 0 lo=0/\HT.fD 46 46 hi=46)/\∀p,H p=none->Q (.ref p) (upd H p (.tup (FU xs lo hi)))
def UN:I9 X (Zt X.K):=by
 intro ε s σ H x v vl vu lo hi sl Q I rx hs pl pu h;let(a,xs,rfl,hx,hw,q):=h;cases rx;let(aR,r,ht,hz):=I.tuple hx;let hlen:aR.toArray.size=xs.length:=by rw[iD];exact r.length.symm
 show#["tuple",_,acn.lookup,ht.typeIs,HT.ma ht hs pl pu (by rw[hlen];calc hw) ?_ (by rw[hlen];calc hz)];rw[hlen];show#[.ref 8,_,I.laid (λb ob q=>dF _ q) 82 ?_,9,q _ 532];calc#[kJ (oV xs lo hi) hz,_,(r.drop (HT.fD 46 0 lo)).take 189,IsTup.new _ _]
def Vals.iF(r:Vals xs us):us=[]↔xs=[]:=by
 cases r with
 |_=>simp
end
def vQ(n:Nat)(i:Int):Option Nat:=if 0<=i then (if i<n then some i.toNat else none) else if -(n:Int)<=i then some (i+n).toNat else none
def h7{α:Type}(xs:List α)(i:Int):Option α:=(vQ 46 i).bind λj=>xs[j]?
def DR{i:Int}(h:vQ n i\j):seqIndex? i n\j/\j<n/\-(n:Int)<=i/\i<n:=by unfold vQ at h;by_cases h0:0<=i;rw[ι h0] at h;by_cases h1:i<n;rw[ι h1] at h;let e:=Option.some.inj h;calc#[by rw[seqIndex_of h0 h1,e],(),(),h1];rw[θ h1] at h;cases h;rw[θ h0] at h;by_cases h1 : -n<=i;rw[ι h1] at h;let e:=Option.some.inj h;calc#[by rw[seqIndex_neg () h1,e],(),h1,()];rw[θ h1] at h;cases h
def p8{xs:List α}{i:Int}{v:α}(h:h7 xs i\v):∃j,seqIndex? i 46\j/\xs[j]?\v/\j<46/\-(46:Int)<=i/\i<46:=by
 unfold h7 at h;cases e:vQ xs.length i with
 |none=>rw[e] at h;cases h
 |some j=>rw[e] at h;let(h1,h2,h3,h4):=DR e;calc#[j,h1,h,h2,h3,h4]
def ai{xs:List α}{v:α}(h:xs[j]?\v):h7 xs (j:Int)\v:=by
 let hj:=(c7.mp h).1;let e:vQ xs.length j\j:=by unfold vQ;rw[ι (),ι ()];simp
 unfold h7;rw[e];calc h
theorem aaU{a:α}{l:List α}:h7 (a::l) 0\a:=ai (j:=0) 9
theorem aaV{a b:α}{l:List α}:h7 (a::b::l) 1\b:=ai (j:=1) 9
theorem aaW{a b c:α}{l:List α}:h7 (a::b::c::l) 2\c:=ai (j:=2) 9
theorem aaX{a b c d:α}{l:List α}:h7 (a::b::c::d::l) 03\d:=ai (j:=03) 9
theorem aaY{a b c d e:α}{l:List α}:h7 (a::b::c::d::e::l) 04\e:=ai (j:=04) 9
def qH(xs:List α)(v:α):h7 (xs++[v]) (-1)\v:=by
 let hl:(xs++[v]).length=xs.length+1:=by simp
 let e:vQ (xs++[v]).length (-1)\xs.length:=by
  unfold vQ;rw[hl,θ 15,ι ()]
  congr 1
  lia
 unfold h7;rw[e];simp
def vR(b:Expr):Prop:=∀o i,subscripted b false o i=operate [o,i] (getItem o i)
def OF(X:Cx)(r:R2):Prop :=
 ∀(value slice:Expr)(ε:qaa)(s:Shared)(σ:St)(H:Hp)(x y:V)(v u:Value)(Q:VK),Inv X ε σ H s->RelV x v->RelV y u->r x y H Q ->
  subscripted slice false v u=operate [v,u] (getItem v u)->wpAny 17 X.A (subscriptTail value slice v u) 491 X.xe s
def Sb(X:Cx)(id:String)(r:V->qak->Hp->VK->Prop):Prop :=
 ∀(ε:qaa)(s:Shared)(σ:St)(H:Hp)(x:V)(xs:qak)(v:Value)(us:qag)(Q:VK),Inv X ε σ H s->RelV x v->Vals xs us->r x xs H Q ->
  wpAny 17 X.A (call 541 (v::us)) 491 X.xe s
section
variable{a:Expr}{tb:TE}{pos:Pos}
def OF.or{r r':R2}(h:OF X r)(h':OF X r'):OF X (λx y H Q=>r x y H Q\/r' x y H Q):=by
 intro value slice ε s σ H x y v u Q I rx ry q hs;obtain q|q:=q
 calc h value slice ε s σ H x y v u Q I rx ry q hs;calc h' value slice ε s σ H x y v u Q I rx ry q hs
def Sd{r:R2}(hr:OF X r)(ha:PE X a ta)(hb:PE X b tb)(hs:vR b):PE X (.Subscript a b pos) (Ze r ta tb):=by intro ε s σ H Q I h;calc Subscript_ (Uu ha hb I h λv u s2 x y H2 I2 rx ry q=>hr a b ε s2 σ H2 x y v u Q I2 rx ry q (hs _ _))
def UO(K:qaf):R2:=λx y H Q=>∃p xs i v,x=.ref p/\y=.int i/\f_ K H p xs/\h7 xs i\v/\Q v H
def Zu(K:qaf):R2:=λx y H Q=>∃p xs i v,x=.ref p/\y=.int i/\eZ K H p xs/\h7 xs i\v/\Q v H
def Zv:R2:=λx y H Q=>∃z i c,x=.str z/\y=.int i/\z.length<=sizeLine/\h7 z.cps.toList i\c/\Q (.str #[527]) H
theorem OG:OF X (UO X.K):=by
 intro value slice ε s σ H x y v u Q I rx ry h hs;let(p,xs,i,z,rfl,rfl,hq,he,q):=h;cases rx;let(t,rfl):=ry;let(aR,r,pl,hz):=I.list hq;let(j,h1,h2,h3,h4,h5):=p8 he;let(w,ew,rw'):=r.get h2;let hl:=r.length;let hn:=k8;let fin:EP X ε σ Q w s:=#[z,H,I,rw',q];by_cases h0:0<=i;let hj:i.toNat=j:=by rw[seqIndex_of h0 h5] at h1;exact Option.some.inj h1
 calc item_listR 543 h0 () (by rw[hj];simpa using ew) fin hs;let hj:(i+(aR.toArray.size:Int)).toNat=j:=by rw[seqIndex_neg () h4] at h1;rw[iD,<- hl];exact Option.some.inj h1
 exact subscriptTail_builtinR pl.isList.typeIs slot_list_getitem.lookup
  (wpAny_getItem_list_neg 543 () (by rw[iD]<;>lia) () (by rw[hj];simpa using ew) #[9,fin]) hs
theorem UP:OF X (Zu X.K):=by
 intro value slice ε s σ H x y v u Q I rx ry h hs;let(p,xs,i,z,rfl,rfl,hq,he,q):=h;cases rx;let(t,rfl):=ry;let(aR,r,pl,hz):=I.tuple hq;let(j,h1,h2,h3,h4,h5):=p8 he;let(w,ew,rw'):=r.get h2;let hl:=r.length;let hn:=k8;let fin:EP X ε σ Q w s:=#[z,H,I,rw',q];exact subscriptTail_builtinR pl.typeIs slot_tuple_getitem.lookup
  (getItem_tuple pl () () (by rw[iD,<- hl];calc h1) (by simpa using ew) #[9,fin]) hs
theorem UQ:OF X Zv:=by
 intro value slice ε s σ H x y v u Q I rx ry h hs;let(z,i,c,rfl,rfl,hz,he,q):=h;let(t,rfl):=rx;let(t',rfl):=ry;let(j,h1,h2,h3,h4,h5):=p8 he;let hl:z.cps.toList.length=z.length:=by simp[Str.length]
 rw[hl] at h1 h4 h5;let hn:=k8;calc tail_any (typeIs_str s z t) slot_str_getitem.lookup (getItem_str (by let e1:decide (i < -(2 ^ 63:Int))=false:=ς ();let e2:decide (i ≥ 2 ^ 63)=false:=ς ();rw[e1,e2,Bool.or_false]) (by rw[h1];simpa using h2) #[.str #[527],H,I.tok _,#[_,9],q]) hs
def rIx(K:qaf):R2:=λx y H Q=>UO K x y H Q\/Zu K x y H Q\/Zv x y H Q
def Ja:OF X (rIx X.K):=OG.or (UP.or UQ)
def BM(aR:qag)(n j:Nat)(u:Value):Obj.mapSeq (·.setIfInBounds j u) {cls:=.type "list",data:=.seq 94 n}={cls:=.type "list",data:=.seq (aR.set j u).toArray n}:=by simp[Obj.mapSeq]
def Inv.lst{p:Addr}(I:Inv X ε σ H s)(h:H p\.lst xs) :
  ∃(aR:qag)(n:Nat),Vals xs aR/\s.heap.get? p=some {cls:=.type "list",data:=.seq 94 n}/\46<=sizeLine:=by
 let(z,aR,n,r,e):=I.bZ p _ h;calc#[aR,n,r,e,z]
def Inv.UR{p:Addr}{ys:qak}{aR its':qag}{n':Nat}{f:Obj->Obj}(I:Inv X ε σ H s)(h:H p\.lst xs)(ho:s.heap.get? p=some {cls:=.type "list",data:=.seq 94 n})(hf:f {cls:=.type "list",data:=.seq 94 n}={cls:=.type "list",data:=.seq its'.toArray n'})(r:Vals ys its')(hz:172<=sizeLine)(t:Nat) :
  Inv X ε σ (upd H p (.lst ys)) {s with heap:=s.heap.update p f,toks:=t}:=by
 let e:(s.heap.update p f).get? p=some {cls:=.type "list",data:=.seq its'.toArray n'}:=by rw[TX f ho (by rw[hf]<;>rfl),hf]
 show I.write (by rw[h];trivial) 7 (λb u hb q=>(Heap.get?_update_other _ _ (Ne.symm hb)).trans q) #[_,e] ?_;calc#[hz,its',n',r,e]
def Zw:V->V->V->Hp->(Hp->Prop)->Prop:=λo i v H Q=>∃p xs k j,o=.ref p/\i=.int k/\H p\.lst xs/\vQ 46 k\j/\Q (upd H p (.lst (xs.set j v)))
theorem set_list:Ul X Zw:=by
 intro ε s σ H o i v ov iv u Q I ro ri rv h;let(p,xs,k,j,rfl,rfl,hp,hj,q):=h;cases ro;let(t,rfl):=ri;let(aR,n,r,ho,hz):=I.lst hp;let(h1,h2,h3,h4):=DR hj;let hl:=r.length;let hn:=k8;let I' :=
  I.UR hp ho (BM aR n j u) (r.set rv j) (by rw[List.length_set];calc hz) 528
 by_cases h0:0<=k;let hk:k.toNat=j:=by rw[seqIndex_of h0 h4] at h1;exact Option.some.inj h1
 calc W.ki_setAt ho h0 () (by rw[iD,<- hl];calc h4) (by rw[hk];calc#[_,I',q]);let hk:(k+(aR.toArray.size:Int)).toNat=j:=by rw[seqIndex_neg () h3] at h1;rw[iD,<- hl];exact Option.some.inj h1
 calc W.ki_setBack ho () (by rw[iD,<- hl];calc h3) () (by rw[hk];calc#[_,I',q])
theorem vS(lo hi:Option Int)(n:Nat):(sliceBounds lo hi none n).1=((HT.fD n 0 lo:Nat):Int)/\(sliceBounds lo hi none n).2.1=((HT.fD n n hi:Nat):Int)/\(sliceBounds lo hi none n).2.2=1:=by
 show#[?_,?_,9];cases lo with
 |none=>simp[sliceBounds,HT.fD]
 |some i=>erw[sliceBounds,HT.fD,acW,show 1 > 0 by decide,aaT];by_cases h:i<0;erw[h,aaT]<;>lia;erw[h,aau]<;>lia
 cases hi with
 |none=>simp[sliceBounds,HT.fD]
 |some i=>erw[sliceBounds,HT.fD,acW,show 1 > 0 by decide,aaT];by_cases h:i<0;erw[h,aaT]<;>lia;erw[h,aau]<;>lia
def t4(aR:qag)(lo hi:Option Int):slicePick 94 lo hi none=((aR.drop (HT.fD aR.length 0 lo)).take (HT.fD aR.length aR.length hi-HT.fD aR.length 0 lo)).toArray:=by let(h1,h2,h3):=vS lo hi aR.toArray.size;unfold slicePick;rw[h1,h2,h3];erw[sliceRange_one,pick_run,iD]<;>rfl
def Zx(K:qaf):V->Option Int->Option Int->Hp->VK->Prop:=λx lo hi H Q=>∃a xs,x=.ref a/\f_ K H a xs/\∀p,H p=none->Q (.ref p) (upd H p (.lst (FU xs lo hi)))
theorem OH:I9 X (Zx X.K):=by intro ε s σ H x v vl vu lo hi sl Q I rx hs pl pu h;let(a,xs,rfl,hx,q):=h;cases rx;let(aR,r,ht,hz):=I.list hx;let hlen:=r.length;show#["list",_,slot_list_getitem.lookup,ht.isList.typeIs,wpAny_getItem_list_slice ht.isList hs pl pu .none 6 ?_ (by rw[iD]<;>lia)];rw[t4,<- hlen];show#[.ref 8,_,I.laid (λb ob q=>dF _ q) 82 ?_,9,q _ 532];calc#[kJ (oV xs lo hi) hz,_,0,(r.drop (HT.fD 46 0 lo)).take 189,gP _ 9]
def jq:V->Bool
 |.bY=>true
 |.bl _=>true
 |.int _=>true
 |.str _=>true
 |_=>false
def NL:V->V->Bool
 |.bY,.bY=>true
 |.bl a,.bl b=>a==b
 |.bl a,.int b=>(if a then 1 else 0)==b
 |.int a,.bl b=>a==(if b then 1 else 0)
 |.int a,.int b=>a==b
 |.str a,.str b=>a==b
 |_,_=>false
def UT{y x:V}{v:Value}(ry:RelV y u)(rx:RelV x v)(fy:jq y=true)(fx:jq x=true):SeqAt.EqAt A s u v (NL y x):=by
 cases y with
 |bY=>
  cases ry;cases x with
  |bY=>cases rx;calc SeqAt.EqAt.same _
  |bl b=>cases rx;calc SeqAt.EqAt.none_bool b
  |int b=>let(t,rfl):=rx;calc SeqAt.EqAt.none_int b t
  |str b=>let(t,rfl):=rx;calc SeqAt.EqAt.none_str b t
  |_=>calc absurd (show false=true from fx) iC
 |bl a=>
  cases ry;cases x with
  |bY=>cases rx;calc SeqAt.EqAt.bool_none a
  |bl b=>cases rx;calc SeqAt.EqAt.bool_bool a b
  |int b=>let(t,rfl):=rx;calc SeqAt.EqAt.bool_int a b t
  |str b=>let(t,rfl):=rx;calc SeqAt.EqAt.bool_str a b t
  |_=>calc absurd (show false=true from fx) iC
 |int a=>
  let(t',rfl):=ry;cases x with
  |bY=>cases rx;calc SeqAt.EqAt.int_none a t'
  |bl b=>cases rx;calc SeqAt.EqAt.int_bool a t' b
  |int b=>let(t,rfl):=rx;calc SeqAt.EqAt.int_int a t' b t
  |str b=>let(t,rfl):=rx;calc SeqAt.EqAt.int_str a t' b t
  |_=>calc absurd (show false=true from fx) iC
 |str a=>
  let(t',rfl):=ry;cases x with
  |bY=>cases rx;calc SeqAt.EqAt.str_none a t'
  |bl b=>cases rx;calc SeqAt.EqAt.str_bool a t' b
  |int b=>let(t,rfl):=rx;calc SeqAt.EqAt.str_int a t' b t
  |str b=>let(t,rfl):=rx;calc SeqAt.EqAt.str_str a t' b t
  |_=>calc absurd (show false=true from fx) iC
 |_=>calc absurd (show false=true from fy) iC
def BO(x:V)(u:Value):Bool:=match u with
 |.none=>NL .bY x
 |.bool b=>NL (.bl b) x
 |.int i _=>NL (.int i) x
 |.str z _=>NL (.str z) x
 |_=>false
def Jb{x y:V}(r:RelV y u)(f:jq y=true):BO x u=NL y x:=by
 cases y with
 |bY=>cases r;rfl
 |bl b=>cases r;rfl
 |int i=>let(t,rfl):=r;rfl
 |str z=>let(t,rfl):=r;rfl
 |_=>calc absurd (show false=true from f) iC
theorem mf{x:V}:∀{xs:qak}{us:qag},Vals xs us->xs.all jq=true->us.any (BO x)=xs.any λy=>NL y x
 |_,_,.nil,_=>rfl
 |y::xs,u::us,.cons r t,f=>by rw[List.all_cons,pK] at f;rw[Fv,Fv,Jb r f.1,mf t f.2]
theorem jr{A:Around}{s:Shared}{x:V}{v:Value}(rx:RelV x v)(fx:jq x=true):∀{xs:qak}{us:qag},Vals xs us->xs.all jq=true->∀u∈us,SeqAt.EqAt A s u v (BO x u)
 |_,_,.nil,_=>λu hu=>by cases hu
 |y::xs,u::us,.cons r t,f=>λu' hu=>by
  rw[List.all_cons,pK] at f;rcases dQ.mp hu with rfl|hu
  rw[Jb r f.1];calc UT r rx f.1 fx;calc jr rx fx t f.2 u' hu
def inV(x:V)(xs:qak):Bool:=xs.any λy=>NL y x
def rIn(K:qaf)(neg:Bool):R2:=λx y H Q=>∃p xs,y=.ref p/\(f_ K H p xs\/eZ K H p xs)/\jq x=true/\xs.all jq=true/\Q (.bl (if neg then !inV x xs else inV x xs)) H
def FV:fF X (compareOp .In) (rIn X.K false):=by
 intro ε s σ H x y v u Q I rx ry h;let(p,xs,rfl,hq,fx,fs,q):=h;cases ry;obtain hq|hq:=hq
 let(aR,r,pl,hz):=I.list hq;show SeqAt.in_listAt (BO x) 543 (λw hw=>jr rx fx r fs w (by simpa using hw)) #[.bl _,H,I,9,?_];rw[show aR.toArray.any (BO x)=aR.any (BO x) by simp,mf r fs];calc q;let(aR,r,pl,hz):=I.tuple hq;show SeqAt.in_tupleAt (BO x) pl (λw hw=>jr rx fx r fs w (by simpa using hw)) #[.bl _,H,I,9,?_];rw[show aR.toArray.any (BO x)=aR.any (BO x) by simp,mf r fs];calc q
def vT:fF X (compareOp .NotIn) (rIn X.K true):=by
 intro ε s σ H x y v u Q I rx ry h;let(p,xs,rfl,hq,fx,fs,q):=h;cases ry;obtain hq|hq:=hq
 let(aR,r,pl,hz):=I.list hq;show SeqAt.notIn_listAt (BO x) 543 (λw hw=>jr rx fx r fs w (by simpa using hw)) #[.bl _,H,I,9,?_];rw[show aR.toArray.any (BO x)=aR.any (BO x) by simp,mf r fs];calc q;let(aR,r,pl,hz):=I.tuple hq;show SeqAt.notIn_tupleAt (BO x) pl (λw hw=>jr rx fx r fs w (by simpa using hw)) #[.bl _,H,I,9,?_];rw[show aR.toArray.any (BO x)=aR.any (BO x) by simp,mf r fs];calc q
def vU:fF X (compareOp .NotIn) (λx y H Q=>∃i j,x=.str i/\y=.str j/\Q (.bl (!481)) H):=by intro ε s σ H x y v u Q I rx ry h;let(i,j,rfl,rfl,q):=h;let(t,rfl):=rx;let(t',rfl):=ry;calc notIn_str #[.bl _,H,I,9,q]
theorem vV:dh X (.builtin "len") (λxs H Q=>∃p ys,xs=[.ref p]/\(f_ X.K H p ys\/eZ X.K H p ys)/\Q (.int 172) H):=by
 intro ε s σ H xs us Q I r h;let(p,ys,rfl,hq,q):=h;let(u,rfl,rx):=vals1 r;cases rx;let hn:=k8;obtain hq|hq:=hq
 let(aR,r',pl,hz):=I.list hq;let hlen:=r'.length;calc Calls.call_len_list 543 (by erw[iD]<;>lia) #[.int 172,H,I.tok _,#[528+1,by rw[iD,hlen]],q];let(aR,r',pl,hz):=I.tuple hq;let hlen:=r'.length;calc len_tuple pl (by erw[iD]<;>lia) #[.int 172,H,I.tok _,#[528+1,by rw[iD,hlen]],q]
theorem vW:dh X (.builtin "len") (λxs H Q=>∃z,xs=[.str z]/\z.length<=sizeLine/\Q (.int z.length) H):=by intro ε s σ H xs us Q I r h;let(z,rfl,hz,q):=h;let(u,rfl,t,rfl):=vals1 r;let hn:=k8;calc len_str () #[.int z.length,H,I.tok _,#[_,9],q]
def dh.or{f:Value}{r r':qak->Hp->VK->Prop}(h:dh X f r)(h':dh X f r'):dh X f (λxs H Q=>r xs H Q\/r' xs H Q):=by
 intro ε s σ H xs us Q I rs q;obtain q|q:=q
 calc h ε s σ H xs us Q I rs q;calc h' ε s σ H xs us Q I rs q
theorem iG:dh X (.type "list") (λxs H Q=>∃p ys,xs=[.ref p]/\(f_ X.K H p ys\/eZ X.K H p ys)/\∀l,H l=none->Q (.ref l) (upd H l (.lst ys))):=by
 intro ε s σ H xs us Q I r h;let(p,ys,rfl,hq,q):=h;let(u,rfl,rx):=vals1 r;cases rx;let fin:∀aR,Vals ys aR->ys.length<=sizeLine->∀h' c',(∀b o',s.heap.get? b\o'->h'.get? b\o') ->
   h'.get? s.heap.objs.size=some {cls:=.type "list",dict:=none,data:=.seq aR.toArray c',slots:=([].toArray)}->EP X ε σ Q (.ref s.heap.objs.size) {s with heap:=h'}:=λaR r' hz h' c' kp e=>
  #[.ref 8,_,I.laid kp 82 (show cb 33 X.w _ h' _ (.lst ys) from#[hz,aR,c',r',e]),9,q _ 532]
 obtain hq|hq:=hq
 let(aR,r',pl,hz):=I.list hq;let hlen:=r'.length;let(o,ho,hc,n,hd):=543;calc call_list_seq p 7 ho hc hd (λh' c' kp e=>fin aR r' hz h' c' kp e) (by erw[iD]<;>lia);let(aR,r',pl,hz):=I.tuple hq;let hlen:=r'.length;let(o,ho,hc,n,hd):=pl;calc call_list_seq p 95 ho hc hd (λh' c' kp e=>fin aR r' hz h' c' kp e) (by erw[iD]<;>lia)
theorem kM:dh X (.type "tuple") (λxs H Q=>∃p ys,xs=[.ref p]/\((f_ X.K H p ys/\∀l,H l=none->Q (.ref l) (upd H l (.tup ys)))\/(eZ X.K H p ys/\Q (.ref p) H))):=by
 intro ε s σ H xs us Q I r h;let(p,ys,rfl,h):=h;let(u,rfl,rx):=vals1 r;cases rx;obtain⟨hq,q⟩|⟨hq,q⟩:=h
 let(aR,r',pl,hz):=I.list hq;let hlen:=r'.length;show call_tuple_list 543 (λh' kp=>?_) (by erw[iD]<;>lia);let I1:=I.kept (t':=528) kp;let I2 :=
  I1.laid (t':=528) (λb o e=>dF _ e) 82 (show cb 33 X.w _ _ _ (.tup ys) from#[hz,aR,r',IsTup.new _ _])
 calc#[.ref h'.objs.size,_,I2,9,q _ (I1.bZ.fresh 82)];let(aR,r',pl,hz):=I.tuple hq;calc call_tuple_same pl #[.ref p,H,I,9,q]
def tyV(K:qaf)(T:String)(x:V)(H:Hp):Prop:=match x with
 |.str _=>T="str"
 |.int _=>T="int"
 |.ref p=>(T="list"/\∃xs,f_ K H p xs)\/(T="tuple"/\∃o,K.lookup p\o/\o.cls=.type "tuple"/\o.dict=none) \/
  (T="dict"/\((∃bj,H p\.dK bj)\/∃bj,H p\.dT bj))\/(T="set"/\∃S n,H p\.set S n)
 |_=>False
theorem Jc{T:String}{x:V}{v:Value}(I:Inv X ε σ H s)(r:RelV x v)(ty:tyV X.K T x H) :
  s.TypeIs v T/\∀a,v=.ref a->∃ob,s.heap.get? a\ob/\ob.dict=none:=by
 cases x with
 |str z=>let(t,rfl):=r;cases (show T="str" from ty);calc#[typeIs_str s z t,λ_ e=>nomatch e]
 |int i=>let(t,rfl):=r;cases (show T="int" from ty);calc#[aaH s i t,λ_ e=>nomatch e]
 |ref p=>
   cases r;obtain⟨rfl,xs,hq⟩|⟨rfl,o,hk,hc,hd⟩|⟨rfl,hk⟩|⟨rfl,S,n,hk⟩:=ty
   let(aR,_,pl,_):=I.list hq;show#[pl.isList.typeIs,λa e=>?_];cases e;let(o,n,e,c,hd,_):=pl;calc#[o,e,hd];show#[#[o,I.vL p o hk,hc],λa e=>?_];cases e;calc#[o,I.vL _ o hk,hd];let z:∃o,s.heap.get? p\o/\o.ExactDict:=by
    obtain⟨bj,hk⟩|⟨bj,hk⟩:=hk
    let(_,_,_,_,o,_,_,e,ex,_):=I.bZ p _ hk;calc#[o,e,ex];let(_,_,_,_,o,_,_,e,ex,_):=I.bZ p _ hk;exact#[o,e,ex]
   let(o,e,ex):=z;show#[#[o,e,ex.1],λa e2=>?_];cases e2;calc#[o,e,ex.2.1];let(o,_,_,_,e,ex,_):=I.bZ p _ hk;show#[#[o,e,ex.1],λa e2=>?_];cases e2;calc#[o,e,ex.2.1]
 |_=>calc False.elim ty
def afk(K:qaf)(T:String)(r:V->qak->Hp->VK->Prop)(to:TE):TE:=λσ H Q=>to σ H λx H1=>tyV K T x H1/\r x [] H1 Q
def tBM(K:qaf)(T:String)(r:V->qak->Hp->VK->Prop)(to:TE)(t:TA):TE:=λσ H Q=>to σ H λx H1=>tyV K T x H1/\t σ H1 λxs H2=>r x xs H2 Q
variable{to:TE}{t:TA}{name:Str}{T id:String}{r:V->qak->Hp->VK->Prop}
def BP(pa:PlainAttrs T)(slot:Slot T name id)(UU:typeOf 541=pure (.type "method_descriptor"))(hm:Sb X id r)(ho:PE X o to)(du:attributeBase o name 3 (eval o 3)=eval o 3:=by rfl)(dw:91=true:=by rfl):PE X (.Call (.Attribute o name apos) [] [] bF) (afk X.K T r to):=by intro ε s σ H Q I h;show wpAny_Call_method0_late du dw (cT (ho ε s σ H _ I h) λv s1 #[x,H1,I1,r1,ty,q1]=>?_);let(h1,h2):=Jc I1 r1 ty;calc#[T,id,pa,slot,UU,h1,h2,YJ 9 (PySem.evalArgs_none (hm ε s1 σ H1 x [] v [] Q I1 r1 .nil q1))]
def yI(pa:PlainAttrs T)(slot:Slot T name id)(UU:typeOf 541=pure (.type "method_descriptor"))(hm:Sb X id r)(ho:PE X o to)(ha:PA X (e::es) t)(du:attributeBase o name 3 (eval o 3)=eval o 3:=by rfl)(qI:((backTo bF (starEach (e::es) 3)).all (λx=>!x.1) && (backToKw bF 499).all (λx=>x.1.isSome)
    && decide ((e::es).length+([]:List Keyword).length+(if ([]:List Keyword).isEmpty then 0 else 1)<30))=true:=by rfl)(dw:91=true:=by rfl)(hs:starEach (e::es) 3=(false,eval e 3)::starEach es 3:=by rfl)(gi:(backTo bF 90).any (·.1)=false:=by rfl) :
  PE X (.Call (.Attribute o name apos) (e::es) [] bF) (tBM X.K T r to t):=by
 intro ε s σ H Q I h;show wpAny_Call_method_late du qI dw 9 (cT (ho ε s σ H _ I h) λv s1 #[x,H1,I1,r1,ty,q1]=>?_);let(h1,h2):=Jc I1 r1 ty;show#[T,id,pa,slot,UU,h1,h2,?_];let hA:=ha bF ε s1 σ H1 _ I1 q1;rw[hs] at hA ⊢;calc YJ (by change (false || (backTo bF 90).any (·.1))=false;rw[gi]<;>rfl) (Calls.evalArgs_plain (cT hA λus s2 #[vs,H2,I2,r2,q2]=>hm ε s2 σ H2 x vs v us Q I2 r1 r2 q2))
end
def MtM(X:Cx)(id:String)(r:V->qak->Hp->VK->Prop):Prop :=
 ∀(ε:qaa)(s:Shared)(σ:St)(H:Hp)(x:V)(xs:qak)(v:Value)(us:qag)(Q:VK),Inv X ε σ H s->RelV x v->Vals xs us->r x xs H Q ->
  wpAny 17 X.A (call 541 (v::us)) 491 X.xe s
theorem Vals.one:∀{x:V}{us:qag},Vals [x] us->∃u,us=[u]/\RelV x u
 |_,_,.cons r .nil=>#[_,9,r]
theorem Vals.zero:∀{us:qag},Vals [] us->us=[]
 |_,.nil=>rfl
def Vals.dropLast(h:Vals xs us):Vals xs.dropLast us.dropLast:=by
 induction h with
 |nil=>calc .nil
 |cons r t ih=>
  cases t with
  |nil=>calc .nil
  |cons q t'=>calc .cons r ih
theorem Vals.rep{xs:qak}{us:qag}(h:Vals xs us):∀k:Nat,Vals (List.replicate k xs).flatten (List.replicate k us).flatten
 |0=>.nil
 |k+1=>Vals.append h (Vals.rep h k)
def BQ(l:List α):l.eraseIdx (490-1)=l.dropLast:=by
 induction l with
 |nil=>rfl
 |cons a r ih=>
  cases r with
  |nil=>rfl
  |cons b r=>
   let e:(a::b::r).length-1=((b::r).length-1)+1:=by
    let h1:(a::b::r).length=r.length+2:=rfl;let h2:(b::r).length=r.length+1:=rfl
    lia
   rw[e,List.eraseIdx_cons_succ,ih]
   all_goals rfl
theorem foldl_rep(aR:qag):∀(k:Nat)(acc:qag),
  List.foldl (λx1 x2=>x1++x2) acc.toArray (List.replicate k 94)=(acc++(List.replicate k aR).flatten).toArray
 |0,acc=>by simp
 |k+1,acc=>by
   let e:acc.toArray++aR.toArray=(acc++aR).toArray:=by simp
   let e2:(acc++aR)++(List.replicate k aR).flatten=acc++(List.replicate (k+1) aR).flatten:=by rw[HW,X7,yt]
   rw[<- e2,<- foldl_rep aR k (acc++aR),<- e,HW,YS]
section
variable{l b:Addr}{ys zs:qak}
def Inv.OI{aR its':qag}{f:Array Value->Array Value}(I:Inv X ε σ H s)(hH:H l\.lst xs)(e:s.heap.get? l=some {cls:=.type "list",data:=.seq 94 n})(hf:f 94=its'.toArray)(hv:Vals ys its')(hz:172<=sizeLine) :
  Inv X ε σ (upd H l (.lst ys)) {s with heap:=s.heap.update l (Obj.mapSeq f),toks:=t'}:=by
 let q:=PySem.IsL.update e f;rw[hf] at q;show I.write (by rw[hH];calc trivial) 7 (λb' u hb hu=>(Heap.get?_update_other 69 (Obj.mapSeq f) (Ne.symm hb)).trans hu) #[_,q] ?_;calc#[hz,its',_,hv,q]
def Inv.Zy{aR:qag}(I:Inv X ε σ H s)(hv:Vals ys aR)(hz:172<=sizeLine) :
  Inv X ε σ (upd H 8 (.lst ys)) {s with heap:=s.heap.push {cls:=.type "list",data:=.seq 94},toks:=t'} :=
 I.laid (λ_ _ q=>dF _ q) 82 #[hz,aR,0,hv,gP _ 9]
def Inv.fresh(I:Inv X ε σ H s):H 8=none:=I.bZ.fresh 82
def Inv.FW(I:Inv X ε σ H s)(hH:H l\.lst xs):46<=sizeLine/\∃(aR:qag)(n:Nat),Vals xs aR/\46=aR.length/\s.heap.get? l=some {cls:=.type "list",data:=.seq 94 n}:=by let(z,aR,n,r,e):=I.bZ l _ hH;calc#[z,aR,n,r,r.length,e]
theorem qJ(h:n<=sizeLine):Builtin.List.listTooLong n=false:=ς ()
end
section
def DS:V->qak->Hp->VK->Prop:=λx vs H Q=>∃l xs y,x=.ref l/\vs=[y]/\H l\.lst xs/\46<sizeLine/\Q .bY (upd H l (.lst (xs++[y])))
def bo:MtM X "list.append" DS:=by
 intro ε s σ H x vs v us Q I rx rv h;let(l,xs,y,rfl,rfl,hH,hz,q):=h;cases rx;let(u,rfl,ru):=rv.one;let(z,aR,n,r,hl,e):=I.FW hH;show aaI F.slot_list_append #[_,e,9] F.entry_list_append (F.args_list_append_2 _ _) (PySem.list_append l 94 n u (by rw[iD];lia)) #[e,#[.bY,_,I.OI hH e 6 (r.append (.cons ru .nil)) ?_,9,q]];rw[fU,NF]
 lia
def OJ:V->qak->Hp->VK->Prop:=λx vs H Q=>∃l b xs zs,x=.ref l/\vs=[.ref b]/\H l\.lst xs/\H b\.lst zs/\46+zs.length<=sizeLine/\Q .bY (upd H l (.lst (xs++zs)))
def FY:MtM X "list.extend" OJ:=by
 intro ε s σ H x vs v us Q I rx rv h;let(l,b,xs,zs,rfl,rfl,hH,hB,hz,q):=h;cases rx;let(u,rfl,ru):=rv.one;cases ru;let(z,aR,n,r,hl,e):=I.FW hH;let(z2,kr,n2,r2,Yg,e2):=I.FW hB;let kq:aR.toArray.size+kr.toArray.size<=sizeLine:=by rw[iD,iD];lia
 let yJ:¬ (!aR.toArray.isEmpty && Builtin.List.listTooLong (aR.toArray.size+kr.toArray.size))=true:=by rw[qJ kq,YU];exact iC
 show aaI F.slot_list_extend #[_,e,9] F.entry_list_extend (F.args_list_extend_2 _ _)
  (AutoSeq1.list_extend_list_list_0 l 94 n b kr.toArray n2 yJ (by rw[iD];lia) ()) #[e,e2,?_]
 show#[.bY,_,I.OI (its':=aR++kr) hH e 6 (r.append r2) ?_,9,q];rw[fU]
 lia
def Zz:V->qak->Hp->VK->Prop:=λx vs H Q=>∃l xs y,x=.ref l/\vs=[]/\H l\.lst xs/\xs[46-1]?\y/\Q y (upd H l (.lst xs.dropLast))
def vX:MtM X "list.pop" Zz:=by
 intro ε s σ H x vs v us Q I rx rv h;let(l,xs,y,rfl,rfl,hH,hy,q):=h;cases rx;let hus:=rv.zero;subst hus;let(z,aR,n,r,hl,e):=I.FW hH;let(u,hu,ru):=r.get hy;let UW:aR.toArray[aR.toArray.size-1]?\u:=by change aR.toArray[aR.length-1]?=some u;rw[<- DD,<- hl];exact hu
 show aaI F.slot_list_pop #[_,e,9] F.entry_list_pop (F.args_list_pop_1 _) (MeetsSeq.list_pop_last l 94 n u UW (by rw[iD];lia)) #[e,#[y,_,I.OI hH e ?_ r.dropLast ?_,ru,q]];rw[iD,List.eraseIdxIfInBounds_toArray,BQ];rw[Bo]
 lia
def afl:R2:=λx y H Q=>∃l k xs,x=.ref l/\y=.int k/\H l\.lst xs/\-(2 ^ 63)<=k/\k<2 ^ 63/\46 * k.toNat<=sizeLine /\
 ∀p,H p=none->Q (.ref p) (upd H p (.lst (List.replicate k.toNat xs).flatten))
def len_rep(xs:List α)(k:Nat):(List.replicate k xs).flatten.length=k * 46:=by
 induction k with
 |zero=>simp
 |succ k ih=>rw[HW,X7,fU,ih,Nat.succ_mul,Nat.add_comm]
def UX:fF X (binaryOp .Mult) afl:=by
 intro ε s σ H x y v u Q I rx ry h;let(l,k,xs,rfl,rfl,hH,h1,h2,hz,q):=h;cases rx;let(t,rfl):=ry;let(z,aR,n,r,hl,e):=I.FW hH;let hlen:aR.toArray.size * k.toNat<=sizeLine:=by rw[iD,<- hl];exact hz
 let afm:¬ aR.toArray.size * k.toNat > (2 ^ 63-1) / 08:=by
  have:sizeLine<=(2 ^ 63-1) / 08:=by decide
  lia
 let afn:¬ (!Builtin.List.listFitsIndex k)=true:=by rw[fitsIndex_both h1 h2];exact iC
 let yJ:¬ Builtin.List.listTooLong (aR.toArray.size * k.toNat)=true:=by rw[qJ hlen];exact iC
 let afo:List.foldl (λx1 x2=>x1++x2) ([].toArray) (List.replicate (if aR.toArray.isEmpty=true then 0 else k.toNat) aR.toArray)=(List.replicate k.toNat aR).flatten.toArray:=by
  let f0:=λm=>by have:=foldl_rep aR m [];rw[List.nil_append] at this;exact this
  rw[f0];cases aR with
  |nil=>simp
  |cons a r'=>rw[θ 6]
 show wpAny_binaryOp_repeat_ref 15 #[_,e,9] (λs'=>aaH s' k t) noFill_list_mul F.fills_int_mul F.slot_int_rmul repeat_list F.slot_int_index.lookup
  (aaI F.slot_int_rmul (aaH s k t) F.entry_int_rmul (F.args_int_rmul_2 _ _) (int___rmul___int_list k t l 94 n)
   #[e,9,#[_,e,9],aaI F.slot_list_mul #[_,e,9] F.entry_list_mul (F.args_list_mul_2 _ _) (AutoListH.list___mul___list_int_3 l 94 n k t afn afm yJ) #[e,?_]])
 rw[afo];calc#[.ref _,_,I.Zy (r.rep k.toNat) (by rw[len_rep,Nat.mul_comm];calc hz),9,q _ I.fresh]
end
end L2
namespace Att
open PySem PySem.W PySem.Calls PyProof.Rows
def pN{P:Params}:∀(ns:qan)(vs:qag),WellAll P h vs (ns.map WData.int)->IntsAre vs ns:=by
 intro ns;induction ns with
 |nil=>intro vs w;cases w;calc .nil
 |cons n ns ih=>
  intro vs w;cases w with
  |cons a b=>cases a;calc .cons _ _ (ih _ b)
theorem FZ{l:OpenLaw}(hn:l.most\n){P:Params}{args:List WData}{vals:qag}(mh:l.row.toRowW.claim.pre args=true)(UY:WellAll P h vals args) :
  ∃a vs ns,vals=[Value.ref a]/\args=[WData.list (ns.map WData.int)]/\h.get? a=some {cls:=.type "list",data:=.seq 515}/\IntsAre vs ns/\ns.length<=n:=by
 let hsh:=(pre_splitW mh).1;let hc:l.pre.holds [] {args:=args}=true:=(pre_splitW mh).2;let(d,r,rfl,h1,h2):=hasAllW_cons hsh;obtain rfl:=hasAllW_nil h2;let(xs,rfl,h3):=hasW_list h1;let(ns,rfl):=items_int h3;let hlen:ns.length<=n:=by
  let h4:(WTm.not (.lt (.lit (.int n)) (.len (.arg 0)))).holds [] {args:=[.list (ns.map .int)]}=true:=by let h4:=(holds_andW hc).1;rw[hn] at h4;exact h4
  let h5:=condW_of h4 (w_not (w_lt w_lit (w_len_list (w_arg 9))))
  first
   | (rw[ο q'] at h5;calc absurd h5 15)
   | (simp at h5;lia)
 cases UY with
 |cons w1 w2=>
   cases w2;cases w1 with
   |list ho pO=>calc#[_,_,ns,9,9,ho,pN ns _ pO,hlen]
def F3(l:OpenLaw)(args:List WData):l.row.toRowW.claim.post args (.bool true) args=true :=
 postW_of
  (show WShape.has [] (.bool true) .bool=true by first|rfl|decide|simp[WShape.has,WShape.arms,WShape.armsAll])
  (show (WTm.eq .res (.lit (.bool true))).value [] {args:=args,res:=some (.bool true),after:=args}\.bool (true==true) from w_eq_bool (w_res 9) w_lit) 9
def yK{l:OpenLaw}{q:Program}{loose:χ}{XP:(qae)->Heap->Prop}{YP:World->Heap->Prop}{d:DefRec}(hn:l.most\n)(hdf:d.params.defaults=[])(call:∀(w:World) (s₀ s₁:Shared) (mg mb:qae) (fa:Addr) (o:Obj) (pm cd doc:Value) (a:Addr) (vs:qag) (ns:qan),
    Ground q loose [] XP w s₀ mg mb s₁.heap->YP w s₁.heap ->
    s₁.heap.get? fa\o->496=.func (docDef d.name d.params d.body d.scope pm cd doc)->s₁.heap.CodeRec cd d.name->mg d.name\.ref fa ->
    s₁.heap.get? a=some {cls:=.type "list",data:=.seq 515}->IntsAre vs ns->ns.length<=n->s₁.gens=83 ->
    codeAny (model l.prog w) callerA (.call (.ref fa) #[[.ref a],[]]) (λr s'=>r=.ok (.ret (.bool true))/\OldK s₁.heap s'.heap/\s'.os=s₁.os/\AllBare s'.gens) s₁) :
  WalkO q loose XP YP l.row.toRowW d [] (λf vs=>PySem.call f vs):=by
 intro w s₀ s₁ mg mb G Y fa o pm cd doc dV kV ho hd fL hD ZA hg args vals as mh ZC hrd UY hlo;obtain rfl:=Dflts.none hD hdf;obtain rfl:=Dflts.noKw hD;let(a,vs,ns,rfl,rfl,UZ,hints,hlen):=FZ hn mh UY;show enter_call (aax (call w s₀ s₁ mg mb fa o pm cd doc a vs ns G Y ho (fd_plain hd) fL ZA UZ hints hlen hg) λr s' hq=>?_);let(rfl,h2,h3,h4):=hq;calc#[.inl #[.bool true,.bool true,[],9,λ_=>rfl,.bool true,F3 l _,λ_=>#[List.Pairwise.nil,λ_ hm=>(nomatch hm)]],h2,h3,h4]
end Att
namespace L2
open PySem PySem.Spec PyProof.Rows
theorem uQ:∀{vs:qag}{ns:qan},IntsAre vs ns->Vals (ns.map V.int) vs
 |_,_,.nil=>.nil
 |_,_,.cons n t h=>.cons #[t,9] (uQ h)
def ZD(H:Hp):Prop:=∀b,H b=none\/∃o xs,H b\.k6 o (.lst xs)
theorem Jd{mb:qae}{CX:Ie}{k:Nat}{fa:Addr}{s₁:Shared}{vs:qag}{ns:qan}(KX:K.In s₁.heap)(hns:s₁.heap.Ns mainGlobals mg)(hb:s₁.heap.Ns builtinsNs mb)(hbb:∀x:Str,x≠"__name__"->mb x=bootBuiltins x)(afp:s₁.heap.NoLimit)(hg:s₁.gens=83)(ha:s₁.heap.get? a=some {cls:=.type "list",data:=.seq 515})(hi:IntsAre vs ns)(hl:ns.length<=sizeLine)(hr:bH k callerA)(F:∀base:Heap,K.In base->base.Ns mainGlobals mg->eD P w K mg base CX k fa fd [x] sp)(ZE:∀(s:Shared) (u:Value),BindsTo s fd #[[u],[]] [(x,u)])(Sa:∀H:Hp,ZD H->f_ K H a (ns.map V.int)->sp [.ref a] H (λv _=>v=.bl true) λ_ _ _=>False)(hCX:∀H e s',CX [] H s₁ (λ_ _ _=>False) e s'->False) :
  codeAny (model P w) callerA (.call (.ref fa) #[[.ref a],[]]) (λr s'=>r=.ok (.ret (.bool true))/\OldK s₁.heap s'.heap/\s'.os=s₁.os/\AllBare s'.gens) s₁:=by
 let rv:=uQ hi;let afq:=hi.length;let core:∀H:Hp,ZD H->f_ K H a (ns.map V.int)->kL P w H s₁.heap->(∀b,H b≠none->b=a)->(H a≠none->K.lookup a=none) ->
   codeAny (model P w) callerA (.call (.ref fa) #[[.ref a],[]]) (λr s'=>r=.ok (.ret (.bool true))/\OldK s₁.heap s'.heap/\s'.os=s₁.os/\AllBare s'.gens) s₁:=by
  intro H hO hS bZ hA hK;let DT:∀{b:Addr}{o:Obj},s₁.heap.get? b\o->H b=none->(yA s₁.heap H).get? b\o:=λe n=>IF e n;let Zo:∀{b:Addr}{o:Obj}{es:Array DictEntry}{ep:Nat},s₁.heap.get? b\o->o.data=.dict es ep->H b=none:=λ{b o es ep} e d=>by
   cases q:H b with
   |none=>rfl
   |some u=>let e':=hA b (by rw[q];simp);subst e';rw[ha] at e;cases e;let d':=d;cases d'
  let nsK:∀{b:Addr}{m:qae},s₁.heap.Ns b m->(yA s₁.heap H).Ns b m:=λ{b m} #[o,es,ep,e,d,r]=>#[o,es,ep,DT e (Zo e d),d,r];let hKb:=λb o e=>DT (KX b o e) (by
   cases q:H b with
   |none=>rfl
   |some u=>let e':=hA b (by rw[q];simp);subst e';rw[hK (by rw[q];simp)] at e;cases e)
  let hM:Mod K mg (yA s₁.heap H):=#[hKb,nsK hns,#[mb,nsK hb,hbb],let #[mc,h1,h2]:=afp;#[mc,nsK h1,h2]];let e0:BI P w K mg (yA s₁.heap H) callerA [] s₁ H:=#[9,hM,λb o e=>N3 e,Ya (Fz _ _),trivial,λb hb=>absurd (show b∈([]:zm) from hb) 6,bZ,.of_eq hg];show aax ((F _ hKb (nsK hns)).run callerA [] s₁ H #[[.ref a],[]] [.ref a] [.ref a] _ _ hr e0 (ZE s₁ 110) (.cons 9 .nil) (Sa H hO hS)) λr s' h=>?_;cases r with
  |error e=>calc (hCX H e s' h).elim
  |ok fl=>
    cases fl with
    |ret u=>
      let(v,H',os,bare,un,afr,r',q):=h;let q':=q;subst q';obtain rfl:=r';show#[9,OldK.of_keep λb o e=>?_,os,bare];cases q:H b with
      |none=>calc un.keep b o e q (by intro z;calc absurd (show b∈([]:zm) from z) 6) 6
      |some u=>
        rcases hO b with z|⟨ob,xs,z⟩
        rw[q] at z;cases z;let z2:=un.vK b ob _ z;let(e1,_):=bZ b _ z;let(e2,_):=afr b _ z2;rw[e] at e1;cases e1;calc e2
    |_=>exact False.elim h
 cases hk:K.lookup a with
 |some o=>let e:=KX a o hk;rw[ha] at e;cases e;show core (λ_=>none) (λ_=>.inl 9) (.inr #[_,515,_,hk,9,9,9,by rw[iD,afq];calc hl,by simpa using rv]) (λb u z=>by let z':=z;cases z') (λb z=>absurd 9 z) λz=>absurd 9 z
 |none=>show core (λb=>if b=a then some (.k6 {cls:=.type "list",data:=.seq 515} (.lst (ns.map V.int))) else none) (λb=>?_) (.inl (.inr #[{cls:=.type "list",data:=.seq 515},ι 9])) (λb u z=>?_) (λb z=>?_) λ_=>hk;by_cases hb:b=a;calc .inr #[_,_,ι hb];calc .inl (θ hb);by_cases hb:b=a;let z':=(ι hb).symm.trans z;cases z';subst hb;calc#[ha,by rw[bS];calc hl,vs,_,rv,ha];let z':=(θ hb).symm.trans z;cases z';by_cases hb:b=a;calc hb;calc absurd (θ hb) z
def inClass(s:Stmt)(j:Nat):Stmt:=match s with
 |.ClassDef _ _ _ body _ _ _ _ _ _ _=>body.getD j (.Pass #[0,0,0,0])
 |_=>.Pass #[0,0,0,0]
def cn(s:Stmt):Arguments:=match s with
 |.FunctionDef _ a _ _ _ _ _ _ _ _=>a
 |_=>{posonlyargs:=[],args:=[],vararg:=none,kwonlyargs:=[],kw_defaults:=[],kwarg:=none,defaults:=[]}
def bJ(s:Stmt):qaq:=match s with
 |.FunctionDef _ _ b _ _ _ _ _ _ _=>b
 |_=>[]
def ar(s:Stmt):Scope:=match s with
 |.FunctionDef _ _ _ _ _ _ sc _ _ _=>sc
 |_=>{kind:=.function,names:=[],isGenerator:=false,isCoroutine:=false}
abbrev iA:Ie:=λ_ _ _ _ _ _=>False
abbrev E0:XK:=λ_ _ _=>False
def oW:Passes iA X E0:=λ_ _ _ _ _ _ _ h=>482
structure Ih(K:qaf)(x qual:Str)(st:Stmt)(f:Addr)(fd:FuncData):Prop where
 ex:∃(oc:Value)(od:qar)(kV doc pm:Value)(an:qar)(bM ct:Value)(BJ:Array (Option Value)),
  fd=W.fnOf x qual (cn st) (bJ st) 455 .none kV doc pm an bM ct/\K.lookup f=some #[oc,od,.func fd,BJ]/\W.codeIn K bM qual=true
 kp:W.keepIn K 536=true
section
def Ih.ok{st:Stmt}{N:χ}{k:Nat}(F:Ih K x qual st f fd)(S:az N ps 455)(len:∀vs H Q E,sp vs H Q E->87=471)(fG:∀(bM:Value) (A:Around) (outer:List Env) (s:Shared) (H:Hp) (vs:qak) (Q:VK) (E:XK),bH k 44->sp vs H Q E ->
    ∃t,ko (hY iA P w K mg base N qual 455 f bM A outer s H E).vN (bJ st) t/\t {nx:=λ_ H'=>Q .bY H',rt:=Q} (start N vs) H):eD P w K mg base iA 93 f fd ps sp:=by
 let(oc,od,kV,doc,pm,an,bM,ct,BJ,rfl,lk,fL):=F.ex;show DO lk fL S len λA outer s H vs Q E hr Sa=>?_;let(t,h,q):=fG bM A outer s H vs Q E hr Sa;calc#[t,h.vN,q]
def Ih.binds{st:Stmt}(F:Ih K x qual st f fd)(h:∀(kV doc pm:Value) (an:qar) (bM ct:Value) (us:qag),517=471->bindArgs (W.fnOf x qual (cn st) (bJ st) 455 .none kV doc pm an bM ct) #[us,[]]=pure (ps.zip us)):Binds K fd ps []:=by let(oc,od,kV,doc,pm,an,bM,ct,BJ,rfl,lk,fL):=F.ex;calc .all (h kV doc pm an bM ct)
def qK{st:Stmt}{oc:Value}{od an:qar}{BJ:Array 474}{kV doc pm bM ct:Value}(l:K.lookup f=some #[oc,od,.func (W.fnOf x qual (cn st) (bJ st) 455 .none kV doc pm an bM ct),BJ])(c:W.codeIn K bM qual=true)(k:W.keepIn K 536=true):Ih K x qual st f (W.fnOf x qual (cn st) (bJ st) 455 .none kV doc pm an bM ct):=#[#[oc,od,kV,doc,pm,an,bM,ct,BJ,9,l,c],k]
end
def F4(h:n<=1000):n<sizeLine:=Nat.lt_of_le_of_lt h 15
section
def pv(i:Nat){pos:Pos}(hN:X.N[i]?\x:=by rfl)(hv:nI 39 x:=by first|calc Or.inl rfl|calc Or.inr 7|calc Or.inr 95)(hd:gD x:=by decide)(fL:qt x:=by decide):PE X (.Name x pos) (FC i):=cF hN hv hd fL
end
def ZF{A:Prop}(h:B):if false=true then A else B:=h
def ZG{A:Prop}(h:A):if true=true then A else B:=h
def F5{c A:Prop}[Decidable c](h1:c->A)(h2:¬ c->B):if c then A else B:=by by_cases h:c;rw[ι h];calc h1 h;rw[θ h];calc h2 h
def aW(H H':Hp):Prop:=∀b o,H b\o->H' b\o
def aW.refl(H:Hp):aW H H:=λ_ _ h=>h
def aW.trans{H1 H2:Hp}(a:aW H H1)(b:aW H1 H2):aW H H2:=λc o h=>b c o (a c o h)
section
theorem iH{env:Env}{f:Str×NameKind->List (Str×Addr)->Sem (ForInStep (List (Str×Addr)))}:∀(l:List (Str×NameKind))(cs:List (Str×Addr)),
  (∀p∈l,∀r,(p.2=.free->∃c,env.cells.lookup p.1\c/\f p r=pure (.yield ((p.1,c)::r)))/\(p.2≠.free->f p r=pure (.yield r))) ->
  ∃cl,forIn l cs f=pure cl/\(∀y c,cl.lookup y\c->cs.lookup y\c\/env.cells.lookup y\c)/\(∀y,(cs.lookup y).isSome=true->(cl.lookup y).isSome=true) /\
   ∀p∈l,p.2=.free->(cl.lookup p.1).isSome=true
 |[],cs,_=>#[cs,by rw[List.forIn_nil],λ_ _ h=>.inl h,λ_ h=>h,λ_ h=>nomatch h]
 |p::l,cs,hf=>by
   let hr:=λq hq r=>hf q (iB _ hq) r;by_cases hp:p.2=.free;let(c,hc,e):=(hf p iz cs).1 hp;let(cl,h1,h2,h3,h4):=iH l ((p.1,c)::cs) hr;show#[cl,?_,λy d h=>?_,λy h=>h3 y ?_,λq hq hqf=>?_];rw[List.forIn_cons,e];calc h1;rcases h2 y d h with z|z
   rw[NX] at z;cases hy:y==p.1 with
   |true=>rw[hy] at z;let ey:=eq_of_beq hy;cases z;rw[ey];calc .inr hc
   |false=>rw[hy] at z;exact .inl z
   calc .inr z;rw[NX];cases hy:y==p.1 with
   |true=>rfl
   |false=>exact h
   rcases dQ.mp hq with z|z
   subst z;show h3 _ ?_;rw[NX,beq_self_eq_true];rfl;calc h4 q z hqf;let e:=(hf p iz cs).2 hp;let(cl,h1,h2,h3,h4):=iH l cs hr;show#[cl,?_,h2,h3,λq hq hqf=>?_];rw[List.forIn_cons,e];calc h1;rcases dQ.mp hq with z|z
   subst z;calc absurd hqf hp;calc h4 q z hqf
def ja{scope:Scope}{env:Env}(h:∀p∈scope.names,p.2=.free->∃c,env.cells.lookup p.1\c) :
  ∃cl,closureFor scope env=pure cl/\(∀y c,cl.lookup y\c->env.cells.lookup y\c)/\∀p∈scope.names,p.2=.free->∃c,cl.lookup p.1\c:=by
 let key:∃cl,closureFor scope env=pure cl/\(∀y c,cl.lookup y\c->([]:List (Str×Addr)).lookup y\c\/env.cells.lookup y\c)/\(∀y,(([]:List (Str×Addr)).lookup y).isSome=true->(cl.lookup y).isSome=true) /\
   ∀p∈scope.names,p.2=.free->(cl.lookup p.1).isSome=true:=by
  let go:=@iH env (λx r=>if x.2==NameKind.free then (do let c <- cellOf env x.1;pure (ForInStep.yield ((x.1,c)::r))) else pure (ForInStep.yield r)) scope.names [] ?_;let(cl,h1,h2):=go;show#[cl,?_,h2]
  first
   | (rw[h1];rfl)
   | (rw[h1];rfl)
   |exact aaa (· >>= pure) h1
  intro p hp r;show#[λhf=>?_,λhf=>?_];let(c,hc):=h p hp hf;show#[c,hc,?_];let e1:(p.2==NameKind.free)=true:=by rw[hf];rfl
  let e2:cellOf env p.1=pure c:=by unfold cellOf;rw[hc]
  rw[e1,ι 9,e2];rfl;let e1:(p.2==NameKind.free)=false:=by simpa using hf
  rw[e1,θ 15]
 let(cl,h1,h2,h3,h4):=key;show#[cl,h1,λy c e=>?_,λp hp hf=>Option.isSome_iff_exists.mp (h4 p hp hf)];rcases h2 y c e with z|z
 rw[List.lookup_nil] at z;cases z;calc z
def mi{scope:Scope}{env:Env}(y:Str):(relabel scope env).names.lookup y =
  (scope.names.lookup y).map λk=>if (k==.free && env.scope.kind==.function && env.kindOf y==some .cell)=true then .cell else k:=by
 let key:∀l:List (Str×NameKind),(l.map λ(n,k)=>if (k==NameKind.free && env.scope.kind==.function && env.kindOf n==some .cell) then (n,NameKind.cell) else (n,k)).lookup y =
   (l.lookup y).map λk=>if (k==.free && env.scope.kind==.function && env.kindOf y==some .cell)=true then .cell else k:=by
  intro l;induction l with
  |nil=>rfl
  |cons p l ih=>
    let(n,k):=p;change List.lookup y ((if (k==NameKind.free && env.scope.kind==.function && env.kindOf n==some .cell)=true then (n,NameKind.cell) else (n,k))::_)=_;by_cases hc:(k==NameKind.free && env.scope.kind==.function && env.kindOf n==some .cell)=true;rw[ι hc,NX,NX];cases hy:y==n with
    |true=>let ey:=eq_of_beq hy;subst ey;change some NameKind.cell\(if _ then _ else _);rw[ι hc]
    |false=>exact ih
    rw[θ hc,NX,NX];cases hy:y==n with
    |true=>let ey:=eq_of_beq hy;subst ey;change some k\(if _ then _ else _);rw[θ hc]
    |false=>exact ih
 calc key scope.names
end
def k9(N ts:χ)(out sc:Scope):Bool :=
 (sc.kind==.function) && sc.names.all (λp=>(p.2 != .cell) && (p.2 != .free || out.names.lookup p.1==some .cell || out.names.lookup p.1==some .free) && (p.2 != .local || sc.names.lookup p.1==some .local))
  && N.all (λy=>sc.names.lookup y != some .local) && ts.all (λy=>sc.names.lookup y==some .local) && decide ((N++ts).Nodup)
structure qL(N ts:χ)(out sc:Scope):Prop where
 kind:sc.kind=.function
 Je:∀p∈sc.names,p.2≠.cell
 fr:∀p∈sc.names,p.2=.free->out.names.lookup p.1\.cell\/out.names.lookup p.1\.free
 names:∀p∈sc.names,p.2=.local->sc.names.lookup p.1\.local
 own:∀y∈N,sc.names.lookup y≠some .local
 tgt:∀y∈ts,sc.names.lookup y\.local
 nd:(N++ts).Nodup
def uR{N ts:χ}{out:Scope}(h:k9 N ts out sc=true):qL N ts out sc:=by unfold k9 at h;rw[pK,pK,pK,pK] at h;let((((h1,h2),h3),h4),h5):=h;rw[RX] at h2 h3 h4;show#[eq_of_beq h1,λp hp=>?_,λp hp hf=>?_,λp hp hl=>?_,λy hy=>?_,λy hy=>?_,Θ h5];have:=h2 p hp;rw[pK,pK] at this;simpa using this.1.1;have:=h2 p hp;rw[pK,pK] at this;let q:=this.1.2;rw[hf] at q;simpa using q;have:=h2 p hp;rw[pK,pK] at this;let q:=this.2;rw[hl] at q;simpa using q;simpa using h3 y hy;simpa using h4 y hy
def bT(X:Cx)(ts:χ)(sc:Scope)(cl:List (Str×Addr))(C:Addr)(fp:zm)(s:Shared)(H:Hp):Cx where
 prog:=33
 w:=X.w
 K:=X.K
 mg:=X.mg
 base:=X.base
 A:=X.A
 N:=X.N++ts
 s₀:=s
 H₀:=H
 env:=compEnvC sc cl C 3
 outer:=X.stack
 stack:=X.stack
 ex:=fp
 fn:=λ_=>false
 calm:=X.calm
 pn:=[]
 xe:=λ_ _=>False
section
variable{ts:χ}{cl:List (Str×Addr)}{D:Addr}
def uS(hS:qL X.N ts 39 sc){y:Str}(h:nI (relabel sc 3) y):sc.names.lookup y\.local\/(sc.names.lookup y\.free/\((relabel sc 3).names.lookup y\.cell\/(relabel sc 3).names.lookup y\.free)):=by
 let e:=mi (scope:=sc) (env:=3) y;cases hk:sc.names.lookup y with
 |none=>rw[hk] at e;let e':=e;obtain h|h|h:=h<;>rw[e'] at h<;>cases h
 |some k=>
  let hm:=RT hk;rw[hk] at e;cases k with
  |«local»=>calc .inl 9
  |cell=>calc absurd 9 (hS.Je _ hm)
  |free=>show .inr #[9,?_];rw[e,Option.map_some];by_cases hc:(NameKind.free==.free && X.env.scope.kind==.function && X.env.kindOf y==some .cell)=true;rw[ι hc];calc .inl 9;rw[θ hc];calc .inr 9
  |globalExplicit=>let e':=e;obtain h|h|h:=h<;>rw[e'] at h<;>cases h
  |globalImplicit=>let e':=e;obtain h|h|h:=h<;>rw[e'] at h<;>cases h
def DU(I:Inv X ε σ H s)(hf:∀b∈fp,nN X ε H b):∀b∈fp,b∉Ib X.stack:=λb hb z=>by
 let(_,f1,f2,_):=hf b hb;rcases dQ.mp (I.Bt b z) with e|e
 calc f1 e;calc f2 e
theorem OL(I:Inv X ε σ H s)(hf:∀b∈fp,nN X ε H b)(ZH:∀b∈fp,∃o,s.heap.get? b\o)(hS:qL X.N ts 39 sc)(c1:∀y c,cl.lookup y\c->X.env.cells.lookup y\c)(c2:∀p∈sc.names,p.2=.free->∃c,cl.lookup p.1\c)(hC:8<=C)(hD:8<=D)(hDC:D≠C){h1:Heap}{m:qae}{t:Nat}(k:∀b o,s.heap.get? b\o->h1.get? b\o)(hn:h1.Ns C m)(hd:h1.get? D=some {cls:=.type "list",data:=.seq ([]:qag).toArray n}) :
  Inv 29 [] (σ++ts.map λ_=>none) (upd H D (.lst [])) {s with heap:=h1,toks:=t}:=by
 let sz:=I.sz;let afs:∀b∈fp,b<s.heap.objs.size:=λb hb=>by let(o,e):=ZH b hb;exact eR e
 let N7:∀y c,cl.lookup y\c->c<s.heap.objs.size:=λy c e=>by let(v,q):=I.cell y c (c1 y c e);exact q.lt
 let ok:(bT X ts sc cl C fp s H).Ok:=by
  show#[I.ok.mod,hS.kind,I.ok.glob,I.ok.blt,hC,λx y c e1 e2=>I.ok.inj x y c (c1 x c e1) (c1 y c e2),λx hx=>?_,λx c hx=>absurd hx (by simp[bT]),I.ok.hd,I.ok.frames,.inl 9,λb hb=>?_,λb o e=>I.bs b o e,
   kJ I.ok.N5 sz,λb o e hb=>?_,DU I hf,I.stack,λb hb=>I.DE b hb]
  let hv:nI (relabel sc X.env) x:=by
   obtain hx|hx:=hx
   calc .inr (.inl hx);exact .inr (.inr hx)
  rcases uS hS hv with z|⟨z,_⟩
  let e:=mi (scope:=sc) (env:=3) x;rw[z] at e;let e':=e;let Ii:(relabel sc X.env).names.lookup x\.cell\/(relabel sc X.env).names.lookup x\.free:=hx;rw[e'] at Ii;obtain q|q:=Ii<;>cases q
  calc c2 _ (RT z) 9;calc#[λe=>absurd (tW (afs b hb) hC) (by let e':=e;rw[e'];calc Fu _),λx c e z=>(hf b hb).2.2.2.2.1 x c (c1 x c e) z];rcases (hf b hb).2.2.2.1 with z|z
  calc I.ok.IG b o e z;exact absurd (tW (eR e) (kJ I.ok.N5 z)) (Fu _)
 let hnD:=I.bZ.fresh hD;show#[ok,9,I.bare,Un.laid k hD hnD,#[m,hn,λi x v e1 e2 e3=>?_],λx c e=>?_,?_,λx c e=>?_,λp hp=>absurd (show p∈([]:qaa) from hp) 6,I.bZ.laid k hD #[fB _,[],n,.nil,hd],?_];let hi:i<σ.length:=by
  by_cases hi:i<σ.length;calc hi;rw[uF (),fW] at e2;cases q:ts[i-σ.length]? with
  |none=>rw[q] at e2;cases e2
  |some a=>rw[q] at e2;cases e2
 let F6:σ[i]?\some v:=by rw[pI hi] at e2;exact e2
 let ZI:X.N[i]?\x:=by let ZJ:(X.N++ts)[i]?\x:=e1;rw[pI (by rw[<- I.len];calc hi)] at ZJ;exact ZJ
 rcases uS hS e3 with z|⟨z,zr⟩
 calc absurd z (hS.own x (fM ZI));let hm:=RT z;let ho:=hS.fr _ hm 9;let(m0,_,hl):=I.loc;let(u,r,l):=hl i x v ZI F6 (.inr ho);let(c',tX):=c2 _ hm 9;obtain⟨l,_⟩|⟨_,c,hc,z2⟩:=l
 let l':X.env.scope.names.lookup x\.local:=l;rw[l'] at ho;obtain q|q:=ho<;>cases q
 let ec:=c1 x c' tX;rw[hc] at ec;cases ec;calc#[u,r,.inr #[zr,_,tX,z2.keeps k]];let(v,z):=I.cell x c (c1 x c e);calc#[v,z.keeps k];change upd H D (.lst []) C=none;rw[aG (Ne.symm hDC)];calc I.bZ.fresh hC;rw[aG (hU (tW (N7 x c e) hD))];calc I.i_ x c (c1 x c e);change (σ++ts.map λ_=>none).length=(X.N++ts).length;rw[fU,fU,bS,I.len]
def yL(I:Inv X ε σ H s)(hf:∀b∈fp,nN X ε H b){DG:qaa}{σ':St}(J:Inv 29 DG σ' H' s'):Inv X ε σ H' s' :=
 I.YZ J.os J.base J.bZ J.bare λb hb=>by let(_,f1,_,f3,f4,f5):=hf b hb;calc#[f3,f1,f4,f5]
end
section
variable{R:Result->Shared->Prop}
theorem ku{elt target:Expr}{ifs:qap}{scope:Scope}{pos:Pos}{it acc:Value}{env:Env}(I:Nat->Shared->Prop)(turn:∀n s,I n s->wpAny 14 A (pyNext it) (λr s₁=>match r with
    |none=>R (.ok .next) s₁
    |some v=>wpAny 14 A (letOwnedTupleGo target it v) (λ_ s₁'=>wpAny 14 A (assign target env v) (λ_ s₂=>
       wpAny 14 A (forIn ifs true λc r=>if r=true then do let ok <- isTrue c env (eval c env);pure (ForInStep.yield ok) else pure (ForInStep.yield r)) (λok s₃=>
        if ok=true then wpAny 14 A (eval elt env) (λx s₄=>
         wpAny 14 A (call (.builtin "list.append") [acc,x]) (λ_ s₅=>∃m,m<n/\I m s₅) (notedBy 14 A env λe s'=>R (.error e) s') s₄) (notedBy 14 A env λe s'=>R (.error e) s') s₃
        else ∃m,m<n/\I m s₃) (notedBy 14 A env λe s'=>R (.error e) s') s₂) (notedBy 14 A env λe s'=>R (.error e) s') s₁')
       (notedBy 14 A env λe s'=>R (.error e) s') s₁) (notedBy 14 A env λe s'=>R (.error e) s') s)(n:Nat)(h:I n s):codeAny 14 A (.compLoop (.ListComp elt [#[target,iter,ifs,0]] scope pos) 0 it acc env) R s:=by
 show codeAny_loop 9 I (λn s hI=>wpAny_noted (ζ (wpAny_standAt (ζ (F1 (turn n s hI) (λr s₁ h₁=>?_) λ_ _ h'=>h'))))) n h;cases r with
 |none=>calc η h₁
 |some v=>
   show ζ (F1 h₁ (λ_ s₁' h₁'=>ζ (F1 h₁' (λ_ s₂ h₂=>ζ (F1 h₂ (λok s₃ h₃=>?_) λ_ _ h'=>h')) λ_ _ h'=>h')) λ_ _ h'=>h');cases ok with
   |false=>calc η #[9,h₃]
   |true=>calc ζ (ζ (F1 h₃ (λx s₄ h₄=>ζ (F1 h₄ (λ_ s₅ h₅=>η (η #[9,h₅])) λ_ _ h'=>h')) λ_ _ h'=>h'))
end
def Jf(X:Cx)(ifs:qap)(t:TT):Prop :=
 ∀(ε:qaa)(s:Shared)(σ:St)(H:Hp)(Q:Bool->Hp->Prop),Inv X ε σ H s->t σ H Q ->
  wpAny 17 X.A (forIn ifs true λc r=>if r=true then do let ok <- isTrue c X.env (eval c X.env);pure (ForInStep.yield ok) else pure (ForInStep.yield r)) (TP X ε σ Q) X.xe s
def aft:TT:=λ_ H Q=>Q true H
def OM:Jf X [] aft:=λ_ _ _ H _ I h=>wpAny_tests_nil #[H,I,h]
def ON{t:TT}(h:PT X c t):Jf X [c] t:=λε s σ H Q I hw=>wpAny_tests_one (h ε s σ H Q I hw)
def Jg(J:It)(g:TG)(tt:TT)(te:TE)(n:Nat)(σ:St)(D:Addr)(Q:Hp->Prop)(H1:Hp):Prop :=
 ∃W:Nat->Nat->qak->Hp->Prop,(∃m,W 0 m [] (upd H1 D (.lst [])))/\∀i m acc H2,W i m acc H2->H2 D\.lst acc /\
  ((J.stop i H2/\Q H2)\/(J.go i H2/\acc.length<sizeLine/\∀x H3,J.Yc i H2 x H3->g x (σ++List.replicate n none) H3 λσ4 H4=>(σ4.length=σ.length+n/\∀(i:Nat) v,σ[i]?\some v->σ4[i]?\some v) /\
   tt σ4 H4 λb H5=>if b=true then te σ4 H5 λy H6=>H6 D\.lst acc/\∃m',m'<m/\W 525 m' (acc++[y]) (upd H6 D (.lst (acc++[y]))) else ∃m',m'<m/\W 525 m' acc H5))
section
variable{ts:χ}{cl:List (Str×Addr)}
theorem F7{Y:Cx}{pl:qaa}{σ4:St}(I:Inv Y pl σ4 H' s')(hl:σ4.length=σ.length+n)(hs:∀(i:Nat) v,σ[i]?\some v->σ4[i]?\some v) :
  Inv Y pl (σ++List.replicate n none) H' s':=by
 show I.weak (by rw[fU,ND,hl]) λi v e=>?_;by_cases hi:i<σ.length;rw[pI hi] at e;calc hs i v e;rw[uF (),HV] at e;split at e<;>cases e
def yM{elt tg:Expr}{ifs:qap}{pos:Pos}{tn:Nat->Heap->Prop}{J:It}{g:TG}{tt:TT}{Q:Hp->Prop}{RR:Value->Addr->Result->Shared->Prop}(hc:X.calm=true)(I:Inv X ε σ H s)(T:Turn 33 X.w X.K tg J fp it tn)(st:tn 0 69)(hf:∀b∈fp,nN X ε H b)(hS:qL X.N ts 39 sc)(c1:∀y c,cl.lookup y\c->X.env.cells.lookup y\c)(c2:∀p∈sc.names,p.2=.free->∃c,cl.lookup p.1\c)(hg:∀C,PG 29 tg g)(ht:∀C,Jf 29 ifs tt)(he:∀C,PE 29 elt te)(hw:Jg J g tt te 25 σ 8 Q H)(fin:∀(C:Addr) (H':Hp) (s':Shared) (σ':St),8<=C->Inv 29 [] σ' H' s'->Q H'->RR 59 C (.ok .next) s') :
  wpAny 17 X.A (newList []) (λacc s₃=>wpAny 17 X.A (newFunctionEnv sc X.env.globals cl [] X.env.qual none .none (some 3)) (λZL s₄=>
   codeAny 17 X.A (.compStart 71 0 476 acc {ZL with scope:=relabel sc 3}) (RR acc ZL.locals) s₄) E s₃) E s:=by
 let(W,(m0,w0),turn):=hw;let afu:=T.obj 0 _ st;let ZH:∀b∈fp,∃o,s.heap.get? b\o:=λb hb=>let #[o,e,_]:=afu b hb;#[o,e];show Δ (wpAny_newFunctionEnv hS.Je (by intro y hy;simp at hy) (λh₁ ZM U0=>?_) hS.kind);generalize hH2:s.heap.push {cls:=.type "list",dict:=none,data:=.seq ([]:qag).toArray}=H2 at ZM U0 ⊢;let hC:H2.objs.size=s.heap.objs.size+1:=by rw[<- hH2,uH]
 let hDC:s.heap.objs.size≠H2.objs.size:=by rw[hC];exact hU (qx _)
 let ZN:s.heap.objs.size<=H2.objs.size:=by rw[hC];exact ID _
 let below:∀b,b<s.heap.objs.size->b≠H2.objs.size/\b≠s.heap.objs.size:=λb hb=>#[by rw[hC];calc hU (Be hb),hU hb];let old:=λb o e=>U0.extBut b o (below b (eR e)).1 (dF _ (hH2▸dF _ e));let Jh:=U0.extBut _ _ hDC (dF _ (hH2▸gP _ 9));let ZO:=T.keep _ _ _ st λb hb o e=>old b o e;let p9:∀{H':Hp},(∀b∈fp,H' b=none)->∀b∈fp,nN (bT X ts sc cl H2.objs.size fp s H) [] H' b:=λ{H'} hn b hb=>by let(o,e):=ZH b hb;show#[hn b hb,λz=>?_,DU I hf b hb,.inl hb,λx c e z=>(hf b hb).2.2.2.2.1 x c (c1 x c e) z,λp hp=>absurd (show p∈([]:qaa) from hp) 6];let z':=z;exact (below b (eR e)).1 z'
 let fp0:∀b∈fp,(upd H s.heap.objs.size (.lst [])) b=none:=λb hb=>by let(o,e):=ZH b hb;rw[aG (hU (eR e))];exact (hf b hb).1
 let eN:(ts.map λ_=>(none:Option V))=List.replicate ts.length none:=List.map_const';let loop:∀s₃:Shared,s₃={s with heap:=h₁,toks:=s.toks+([]:List (Str×Value)).length} ->
   codeAny (model X.prog X.w) X.A (.compLoop (.ListComp elt [#[tg,iter,ifs,0]] sc pos) 0 (.ref it) (.ref s.heap.objs.size) (compEnvC sc cl H2.objs.size X.env)) (RR (.ref s.heap.objs.size) H2.objs.size) s₃:=by
  rintro s₃ rfl;let J0:=OL (t:=528+([]:List (Str×Value)).length) I hf ZH hS c1 c2 ZN 82 hDC old ZM Jh;rw[eN] at J0;show ku (λn s'=>∃i acc H',Inv (bT X ts sc cl H2.objs.size fp s H) [] (σ++List.replicate 25 none) H' s'/\tn i s'.heap/\(∀b∈fp,H' b=none)/\W i n acc H') ?_ m0 #[0,[],_,J0,ZO,fp0,w0];rintro n s3 ⟨i,acc,H3,J3,Ut,Zd,w3⟩;let(hD3,alt):=turn i n acc H3 w3;obtain⟨stop,q⟩|⟨go,hz,step⟩:=alt
  . show cT (T.done (bT X ts sc cl H2.objs.size fp s H) 9 9 9 hc i [] s3 _ H3 _ J3 (p9 Zd) Ut stop) λr s4 #[hr,J4]=>?_;subst hr;exact fin _ H3 s4 _ ZN J4 q
  show cT (T.item (bT X ts sc cl H2.objs.size fp s H) 9 9 9 hc i [] s3 _ H3 _ J3 (p9 Zd) Ut go) λr s4 #[u,hr,h4]=>?_;subst hr;show cT h4 λ_ s5 #[x,H5,J5,r5,y5,R7,fr5]=>?_;let J5':=J5.pinned (p9 fr5) (T.obj _ _ R7);let again:∀{σ7:St}{H7:Hp}{s7:Shared},Inv (bT X ts sc cl H2.objs.size fp s H) ([]++qD fp s5.heap) σ7 H7 s7->(σ7.length=σ.length+ts.length/\∀i v,σ[i]?\some v->σ7[i]?\some v)->∀yN m',W (i+1) m' yN H7->m'<n ->
    ∃m,m<n/\∃i acc H',Inv (bT X ts sc cl H2.objs.size fp s H) [] (σ++List.replicate ts.length none) H' s7/\tn i s7.heap/\(∀b∈fp,H' b=none)/\W i m acc H':=λ{σ7 H7 s7} I7 hσ yN m' w7 hm=>by
   show#[m',hm,i+1,yN,H7,F7 I7.l_ hσ.1 hσ.2,T.keep _ _ _ R7 λb hb o e=>(I7.pin (b,o) (jY _ (jY _ (iE hb e)))).1,λb hb=>?_,w7];let(o,e,d):=T.obj _ _ R7 b hb;exact (I7.pin (b,o) (jY _ (jY _ (iE hb e)))).2.1
  show F1 (hg H2.objs.size _ s5 _ H5 x u _ J5' r5 (step x H5 y5)) (λ_ s6 #[σ6,H6,J6,hσ,q6]=>F1 (ht H2.objs.size _ s6 σ6 H6 _ J6 q6) (λb s7 #[H7,J7,q7]=>?_) λ_ _ z=>False.elim z) λ_ _ z=>False.elim z;cases b with
  |false=>let(m',hm,w7):=q7;calc again J7 hσ acc m' w7 hm
  |true=>show F1 (he H2.objs.size _ s7 σ6 H7 _ J7 q7) (λy s8 #[yv,H8,J8,ry,hD8,m',hm,w8]=>F1 (bo (X:=bT X ts sc cl H2.objs.size fp s H) _ s8 σ6 H8 59 [yv] 59 [y] (λv H9=>v=.bY/\H9=upd H8 8 (.lst (acc++[yv]))) J8 9 (.cons ry .nil) #[_,acc,yv,9,9,hD8,hz,9,9]) (λv9 s9 #[v,H9,J9,_,_,e9]=>?_) λ_ _ z=>False.elim z) λ_ _ z=>False.elim z;subst e9;exact again J9 hσ (acc++[yv]) m' w8 hm
 calc codeAny_compStart_list (loop _ 9) (T.self _ 0 _ _ _ ZO (loop _ 9))
def Ji(n:Nat)(wi:TI)(g:TG)(tt:TT)(te:TE):TE:=λσ H Q=>wi σ H λJ H1=>∀D,H1 D=none->Jg J g tt te n σ D (Q (.ref D)) H1
def yO(I:Inv X ε σ H s)(hS:qL X.N ts 39 sc):∀p∈sc.names,p.2=.free->∃c,X.env.cells.lookup p.1\c:=λp hp hf=>by
 rcases hS.fr p hp hf with z|z
 calc I.ok.has p.1 (.inl z);calc I.ok.has p.1 (.inr z)
def OQ{elt tg:Expr}{ifs:qap}{pos:Pos}{wi:TI}{g:TG}{tt:TT}(hc:X.calm=true)(hS:k9 X.N ts 39 sc=true)(hi:PI X tg iter wi)(hg:∀cl C fp s H,PG 29 tg g)(ht:∀cl C fp s H,Jf 29 ifs tt)(he:∀cl C fp s H,PE 29 elt te)(hs:∀x,foldedSetIterable iter 3 x=pure x:=by intro _;rfl):PE X 71 (Ji 25 wi g tt te):=by intro ε s σ H Q I h;let S:=uR hS;let(cl,tR,c1,c2):=ja (yO I S);show wpAny_comprehension_free 9 hs tR S.kind S.names (cT (hi ε s σ H _ I h) λv s1 h1=>cT h1 λitv s2 h2=>?_);let(it,fp,tn,J,H2,e,I2,T,vP,f2,q2):=h2;subst e;show yM hc I2 T vP f2 S c1 c2 (λC=>hg cl C fp s2 H2) (λC=>ht cl C fp s2 H2) (λC=>he cl C fp s2 H2) (q2 _ (I2.bZ.fresh 82)) ?_;intro C H' s' σ' hC J' q';let(m,hn,_):=J'.loc;show#[m,hn,λh' sb=>?_];let I':=yL I2 f2 J';let fk:=I2.qC hC J'.free;let(f0,f1,_,f3,f4,f5):=fk;calc#[.ref _,H',I'.turned (λb o hb e=>(sb.2 b hb).trans e) f0 f1 f3 f4 f5,9,q']
def OR{y:Str}{py:Pos}{yP:Pos}{elt tg:Expr}{ifs:qap}{pos:Pos}{wi:TI}{g:TG}{tt:TT}(hN:X.N.Nodup)(hy:X.N[i]?\y)(hx:Loc 39 y)(hc:X.calm=true)(hS:k9 X.N ts 39 sc=true)(hi:PI X tg iter wi)(hg:∀cl C fp s H,PG 29 tg g)(ht:∀cl C fp s H,Jf 29 ifs tt)(he:∀cl C fp s H,PE 29 elt te)(ZP:swapsWith 71 (some (.Name y py)) yP.line 3=pure true:=by rfl)(hs:∀x,foldedSetIterable iter 3 x=pure x:=by intro _;rfl)(hf:X.fn y=true\/X.env.scope.names.lookup y\.local:=by first|calc .inl rfl|calc .inr rfl|assumption) :
  PS X (.Assign [.Name y py] 71 yP) (Og (Ji 25 wi g tt te) (l9 i)):=by
 intro ε s σ H D I h;let S:=uR hS;let(cl,tR,c1,c2):=ja (yO I S);rw[exec_Assign_Name_used _ _ _ _ ZP];show ζ (wpAny_standAt (ζ (ζ (F1 (wpAny_comprehension_free 9 hs tR S.kind S.names (cT (hi ε s σ H _ I h) λv s1 h1=>cT h1 λitv s2 h2=>?_)) (λ_ s' hq=>η (η hq)) λ_ _ e=>e))));let(it,fp,tn,J,H2,e,I2,T,vP,f2,q2):=h2;subst e;show yM hc I2 T vP f2 S c1 c2 (λC=>hg cl C fp s2 H2) (λC=>ht cl C fp s2 H2) (λC=>he cl C fp s2 H2) (q2 _ (I2.bZ.fresh 82)) ?_;intro C H' s' σ' hC J' q';let(m,hn,_):=J'.loc;let I':=yL I2 f2 J';let fk:=I2.qC hC J'.free;let(f0,f1,_,f3,f4,f5):=fk;show wpAny_assign_Name (uK (v:=.ref s2.heap.objs.size) I' hN hy hx 9 (λs3 I3 #[a,sb,ha]=>?_) hf);let hCa:C≠a:=by
  obtain z|z:=ha
  rw[z];calc f1;exact λe=>f4 y a z e.symm
 calc#[m,hn.sameBut sb hCa,λh' sb'=>#[_,H',I3.turned (λb o hb e=>(sb'.2 b hb).trans e) f0 f1 f3 f4 f5,q']]
end
def Its(x:Str):It:=#[λi _=>i<x.cps.size,λi H v H'=>H'=H/\∃c,x.cps[i]?\c/\v=.str #[527],λi _=>x.cps.size<=i]
def dS(x:Str):(strIterType x="str_ascii_iterator")\/(strIterType x="str_iterator"):=by unfold strIterType;cases x.cps.all (·<128);calc .inr 9;calc .inl 9
def Jj{tg:Expr}(x:Str)(t:Tok)(it:Addr):Turn P w K tg (Its x) [it] it (λi h=>h.IsStrIter it (strIterType x) x t i) where
 mem:=by simp
 obj:=λi h st b hb=>by
  let e:b=it:=by simpa using hb
  subst e;let(o,e,c,d):=st;exact#[o,e,λv z=>by rw[d] at z;cases z]
 keep:=λi h h' st k=>by let(o,e,c,d):=st;exact#[o,k it 6 o e,c,d]
 item:=by
  intro X hP hw hK hc i ε s σ H E I hf st hg;subst hP hw hK;let(f0,f1,f2,f3,f4,f5):=hf it 6;let hi:i<x.cps.size:=hg;let hx:x.cps[i]?\x.cps[i]:=by simp[hi]
  let fin:∀h',h'.IsStrIter it (strIterType x) x t (i+1)->Heap.SameBut it s.heap h'->∃u,(some (Value.str #[([x.cps[i]].toArray)] s.toks):Option Value)\u /\
    wpAny (model X.prog X.w) X.A (letOwnedTupleGo tg (.ref it) u) (λ_ s2=>∃y H',Inv X ε σ H' s2/\RelV y u/\(Its x).Yc i H y H'/\Heap.IsStrIter s2.heap it (strIterType x) x t (i+1)/\∀b∈[it],H' b=none) E {s with heap:=h',toks:=s.toks+1}:=λh' bp sb=>by
   let I1:=I.turned (t':=528+1) (λb o hb e=>(sb.2 b hb).trans e) f0 f1 f3 f4 f5;let(o,e,c,d):=id bp;show#[_,9,DK e c d ?_ #[.str #[([x.cps[i]].toArray)],H,I1,#[_,9],#[9,_,hx,9],bp,λb hb=>(hf b hb).1]];rcases dS x with z|z<;>rw[z]<;>decide
  rcases dS x with z|z
  rw[z] at st fin;show wpAny_pyNext_ascii_item st hx λh' bp sb=>?_;have:=fin h' bp sb;simpa[z] using this;rw[z] at st fin;show wpAny_pyNext_wide_item st hx λh' bp sb=>?_;have:=fin h' bp sb;simpa[z] using this
 done:=by
  intro X hP hw hK hc i ε s σ H E I hf st hg;subst hP hw hK;let(f0,f1,f2,f3,f4,f5):=hf it 6;let hi:x.cps.size<=i:=hg;let hx:x.cps[i]?=none:=by simp[hi]
  rcases dS x with z|z
  rw[z] at st;calc wpAny_pyNext_ascii_end 498 st hx λh' eb=>#[9,I.turned (λb o hb e=>eb b o hb e) f0 f1 f3 f4 f5];rw[z] at st;exact wpAny_pyNext_wide_end 498 st hx λh' eb=>#[9,I.turned (λb o hb e=>eb b o hb e) f0 f1 f3 f4 f5]
 self:=λA i s Q E st h=>by
  rcases dS x with z|z
  rw[z] at st;calc wpAny_pyIter_striter_ascii st h;rw[z] at st;calc wpAny_pyIter_striter_wide st h
section
variable{tg:Expr}
theorem qM(hc:X.calm=true):dh X (.builtin "all") (λxs H Q=>∃(p:Addr)(bs:List Bool),xs=[.ref p]/\f_ X.K H p (bs.map V.bl)/\Q (.bl (bs.all id)) H):=by
 intro ε s σ H xs us Q I r h;let(p,bs,rfl,hq,q):=h;let(u,rfl,rx):=vals1 r;cases rx;let(aR,rv,pl,hz):=I.list hq;show call_all_walk (aay 543 ?_);let di:p<s.heap.objs.size:=by let(o,n,e,_):=pl;exact eR e
 let fY:=hU di;let hh:X.A.in1.handled=none:=I.ok.hd hc;show#[8,_,_,_,_,_,λi=>bs.getD i true,9,Walks.list hh 8 p fY 94,#[#[_,gP _ 9,9,9],pl.isList.push _],?_,λh' tk k=>?_];intro i v s' Q' E' hP hQ;let hP':aR[i]?\v:=by simpa using hP
 let hb:i<bs.length:=by
  have:=rv.length;let h2:=(c7.mp hP').1;rw[bS] at this
  lia
 let(u,e1,r1):=rv.get (i:=i) (x:=.bl bs[i]) (by simp[hb]);rw[hP'] at e1;cases e1;obtain rfl:=r1;let e3:bs.getD i true=bs[i]:=by simp[List.getD,hb]
 dsimp only at hQ;rw[e3] at hQ;calc v9 hQ;let hl:aR.toArray.size=bs.length:=by have:=rv.length;rw[bS] at this;rw[iD];lia
 let e:(List.range aR.toArray.size).all (λi=>bs.getD i true)=bs.all id:=by rw[hl,YT,RX,RX];constructor;intro h x hx;let(i,hi,e):=YM.mp hx;have:=h i (Bf.mpr hi);erw[List.getD,eY hi,NY] at this;rw[<- e];calc this;intro h i hi;let ZQ:=Bf.mp hi;erw[List.getD,eY ZQ,NY];exact h _ (Ft ZQ)
 rw[e];show#[.bl (bs.all id),H,?_,9,q];let I0:Inv X ε σ H {s with heap:=s.heap.push {cls:=.type "list_iterator",data:=.fields ([.ref p,.int 0 0].toArray)} }:=I.kept λb o e=>dF _ e;let fk:=I.qC (cM 8) I.fresh;let(f0,f1,_,f3,f4,f5):=fk;calc I0.turned (λb o hb e=>k b o (by simpa using hb) e) f0 f1 f3 f4 f5
def t5:Sb X "str.startswith" (λx xs H Q=>∃z y,x=.str z/\xs=[.str y]/\Q (.bl (Txt.startswith z y)) H):=by intro ε s σ H x xs v us Q I rx rs h;let(z,y,rfl,rfl,q):=h;let(t,rfl):=rx;let(u,rfl,t',rfl):=vals1 rs;calc SC.startswith #[.bl _,H,I,9,q]
def ZR:V->Option Int->Option Int->Hp->VK->Prop:=λx lo hi H Q=>∃z,x=.str z/\z.length<=sizeLine/\Q (.str (Txt.slice z lo hi)) H
def U1:I9 X ZR:=by
 intro ε s σ H x v vl vu lo hi sl Q I rx hs pl pu h;let(z,rfl,hz,q):=h;let(t,rfl):=rx;let(o,e,c,d):=hs;show#["str",_,slot_str_getitem.lookup,typeIs_str _ _ _,?_];cases pl with
 |none=>
  cases pu with
  |none=>calc aao (l:=none) (u:=none) (st:=none) #[o,e,c,d] 9 (aaF #[kJ (Txt.slice_le z _ _) hz,λt' k=>#[.str _,H,I.tok _,#[_,9],q]])
  |int j tj=>calc aao (l:=none) (u:=some (j,tj)) (st:=none) #[o,e,c,d] 9 (aaF #[kJ (Txt.slice_le z _ _) hz,λt' k=>#[.str _,H,I.tok _,#[_,9],q]])
 |int i ti=>
  cases pu with
  |none=>calc aao (l:=some (i,ti)) (u:=none) (st:=none) #[o,e,c,d] 9 (aaF #[kJ (Txt.slice_le z _ _) hz,λt' k=>#[.str _,H,I.tok _,#[_,9],q]])
  |int j tj=>calc aao (l:=some (i,ti)) (u:=some (j,tj)) (st:=none) #[o,e,c,d] 9 (aaF #[kJ (Txt.slice_le z _ _) hz,λt' k=>#[.str _,H,I.tok _,#[_,9],q]])
end
def aI{D:Addr}{o:HO}(h:H D=none):aW H (upd H D o):=λb u e=>by rw[aG (bL e h)];calc e
section
def Inv.grown{ch:zm}{t:Addr}{o:HO}(I:Inv X ε σ H s)(k:∀b u,b∉ch->s.heap.get? b\u->h'.get? b\u)(hf:∀b∈ch,nN X ε H b)(ht:8<=t)(new:cb 33 X.w (upd H t o) h' t o):Inv X ε σ (upd H t o) {s with heap:=h',toks:=t'}:=by
 let hn:=I.bZ.fresh ht;let IH:∀b u,H b\u->b∉ch:=λb u e z=>by rw[(hf b z).1] at e;cases e
 show I.step (λb hb=>?_) (λb u _ _ hc e _=>k b u hc e) (λb u _ _ hc e _=>#[u.slots,k b u hc e]) (λb u _ e n=>?_) (λb u hc e=>#[u,k b u hc e])
  (λb xs e=>?_) (λb u v e=>?_) (λb ps e=>#[83,?_]) (λm hm=>?_) (λb u e=>?_) I.bare
 let(_,f1,_,f3,f4,f5):=hf b hb;calc#[f3,f1,f4,f5];rw[aG (hU (tW (eR e) ht))];calc n;rw[aG (bL e hn)];calc e;rw[aG (bL e hn)];calc e;rw[aG (bL e hn),e];simp;let(ob,es,ep,ho,r):=hm;calc#[ob,es,ep,k _ ob (λz=>(hf _ z).2.1 9) ho,r];by_cases hb:b=t;subst hb;rw[aK] at e;cases e;calc new;rw[aG hb] at e;show (I.bZ b u e).Bs (λc v hc q=>k c v ?_ q) (λc q=>by rw[aG (bL q hn)];calc q) λc xs q=>by rw[aG (bL q hn)];exact q
 obtain z|z:=hc
 rw[z];calc IH b u e;calc IH c _ z
end
def Ite(K:qaf)(a:Addr):It :=
 #[λi H=>∃xs x,f_ K H a xs/\xs[i]?\x,λi H v H'=>∃t x,H t=none/\v=.ref t/\(∀xs,f_ K H a xs->xs[i]?\x)/\H'=upd H t (.tup [.int (i:Int),x]),λi H=>∃xs,f_ K H a xs/\46<=i]
def F8{x1}(a e it:Addr)(fY:e≠it) :
  Turn P w K 480 (Ite K a) [e,it] e (λi h=>(∃old,IsEnum h e it (i:Int) old)/\h.IsListIter it a i) where
 mem:=by simp
 obj:=λi h st b hb=>by
  let((old,h1),o,h2,c,d):=st;rcases dQ.mp hb with z|z
  subst z;calc#[_,h1,λv z=>by cases z];let z':b=it:=by simpa using z
  subst z';exact#[o,h2,λv z=>by rw[d] at z;cases z]
 keep:=λi h h' st k=>by let((old,h1),vP):=st;exact#[#[old,k e 6 _ h1],vP.at λo q=>k it 6 o q]
 item:=by
  intro X hP hw hK hc i ε s σ H E I hf st hg;subst hP hw hK;let(xs,x,hq,hx):=hg;let(aR,rv,p,hz):=I.list hq;let(u,hu,ru):=rv.get hx;let((old,h1),vP):=st;show wpAny_pyNext_enum_item h1 vP p.isList (by simpa using hu) fY λh₁ R0 afv ht₁ Jk hk₁=>#[_,9,wpAny_letOwnedTupleGo_enum R0 λh₂ U2 yQ=>?_];let t6:=yQ;let di:=eR h1;let hte:=Fw di;let kk:∀b ob,b∉[e,it]->s.heap.get? b\ob->h₂.get? b\ob:=λb ob hb q=>by let Ia:b≠e:=λz=>hb (by simp[z]);let ZS:b≠it:=λz=>hb (by simp[z]);exact (t6.2 b Ia).trans (hk₁ b ob Ia ZS q)
  let new:cb X.prog X.w (upd H s.heap.objs.size (.tup [.int i,x])) h₂ s.heap.objs.size (.tup [.int i,x]) :=
   #[by change 2<=sizeLine;rw[π];decide,[.int i 528,u],.cons #[_,9] (.cons ru .nil),#[_,(t6.2 _ hte).trans ht₁,9,_,9]]
  show#[.ref 8,upd H 8 (.tup [.int i,x]),I.grown kk hf 82 new,9,#[_,x,I.fresh,9,λys hy=>by rw[I.qB hy hq];calc hx,9],#[#[u,?_],?_],λb hb=>?_];have:525=((i+1:Nat):Int):=by lia
  rw[<- this];calc U2;let(o,q,r):=afv;calc#[o,(t6.2 it (Ne.symm fY)).trans q,r];let Yh:b<s.heap.objs.size:=by
   rcases dQ.mp hb with z|z
   subst z;calc di;let z':b=it:=by simpa using z
   subst z';let(o,q,_):=vP;exact eR q
  rw[aG (hU Yh)];exact (hf b hb).1
 done:=by intro X hP hw hK hc i ε s σ H E I hf st hg;subst hP hw hK;let(xs,hq,hx):=hg;let(aR,rv,p,hz):=I.list hq;let hl:=rv.length;let((old,h1),vP):=st;let(f0,f1,f2,f3,f4,f5):=hf it 6;exact wpAny_pyNext_enum_end 498 h1 vP p.isList (by simp;lia) λh' eb=>#[9,I.turned (λb o hb q=>eb b o hb q) f0 f1 f3 f4 f5]
 self:=λ_ _ _ _ _ st h=>by let((old,h1),_):=st;calc wpAny_pyIter_enum h1 h
def ZT(K:qaf)(ta:TA):TI:=λσ H R=>ta σ H λvs H1=>∃a,vs=[.ref a]/\(∃xs,f_ K H1 a xs)/\R (Ite K a) H1
section
def boot_enumerate:bootBuiltins "enumerate"\.type "enumerate":=by decide +kernel
def OS{x1}{a:Expr}{ta:TA}{pos:Pos}(hg:Gl X "enumerate")(hm:X.mg "enumerate"=none)(ha:PA X [a] ta)(hs:starEach [a] 3=[(false,eval a 3)]:=by rfl) :
  PI X 480 (.Call (.Name "enumerate" p) [a] [] pos) (ZT X.K ta):=by
 intro ε s σ H R I h;show Call_ (nL I hg hm boot_enumerate (ab2 (cT 478 λus s1 #[vs,H1,I1,r1,q1]=>?_) hs 9));let(b,e,(xs,hq),q):=q1;subst e;let(u,rfl,ru):=vals1 r1;cases ru;let(aR,rv,pl,hz):=I1.list hq;show call_enumerate_list 543 λh' he hit kq hk=>?_;let I2:=I1.kept (t':=s1.toks) hk;show wpAny_pyIter_enum he #[96+1,[96+1,96],_,_,H1,9,I2,F8 b _ _ (Fw (qx _)),#[#[_,he],hit],λc hc=>?_,q];rcases dQ.mp hc with z|z
 subst z;calc I1.qC (ID _) (I1.bZ.fresh (ID _));let z':c=s1.heap.objs.size:=by simpa using z
 subst z';calc I1.qC 82 I1.fresh
end
section
def t7(hc:X.calm=true):dh X (.builtin "sum") (λxs H Q=>∃(p:Addr)(ns:qan),xs=[.ref p]/\f_ X.K H p (ns.map V.int)/\Q (.int ns.sum) H):=by
 intro ε s σ H xs us Q I r h;let(p,ns,rfl,hq,q):=h;let(u,rfl,rx):=vals1 r;cases rx;let(aR,rv,pl,hz):=I.list hq;let hI:IntsAre aR ns:=intsAre_of rv;let(xs,e):=hI.allInts.items;let hn:=hI.numsOf;let hl:s.heap.IsList p (intItems xs):=by rw[<- e];exact 543
 show sum_intListG 498 hl λh' tk t' hk=>?_;let e2:preSum (numAt xs) xs.size=ns.sum:=by rw[preSum_eq,X0 6,<- nums_intItems,<- e,List.toList_toArray,hn]
 rw[e2];calc#[.int ns.sum,H,I.kept hk,#[_,9],q]
end
end L2
namespace yR
open PySem Builtin Builtin.Str
def cf:Str:="abcdefghijklmnopqrstuvwxyz"
def NN(c:Nat):Bool:=!(occurrences cf #[527] 0 cf.length 1).isEmpty
def cW(x:Str):Bool:=decide (1<=(x.length:Int)) && (decide ((x.length:Int)<=08) && x.cps.toList.all NN)
def k_(x:Str):Bool:=Txt.startswith x "." && cW (Txt.slice x (some 1) none)
def vY(h:cW x=true):x.cps.toList.all NN=true:=by unfold cW at h;rw[pK,pK] at h;calc h.2.2
end yR
namespace VT
open PySem PySem.Spec PyProof.Rows L2
abbrev St:=L2.St
inductive T where
 |bY|bl (b:Bool)|int (i:Int)|str (x:Str)|tup (l:List T)|lst (l:List T)|dk (ks:List Key) (vs:List T)|dt (ks:List (List Key)) (vs:List T)|df (o:Obj) (ks:List (List Key)) (vs:List T)|kt (k:List Key)|ins (C:Addr) (ns:χ) (vs:List T)|pin (a:Addr) (t:T)|ob (a:Addr)|ty (n:String)
abbrev aP(t:T):Option (T×Bool):=some (t,false)
def t8(K:qaf)(H:Hp)(O:zm)(a:Addr)(vs:qak):Prop :=
 (Rd H a (.lst vs)/\a∉O)\/∃(o:Obj)(aR:Array Value)(n:Nat),K.lookup a\o/\o.cls=.type "list"/\o.dict=none/\496=.seq aR n/\aR.size<=sizeLine/\Vals vs aR.toList
def t8.sq{O:zm}(h:t8 K H O a vs):f_ K H a vs:=by
 obtain h|h:=h
 calc .inl h.1;calc .inr h
def vZ(H:Hp)(O:zm)(a:Addr)(u:HO):Prop:=H a=some u/\a∉O
def agE(nh:List Key×Key->Int)(a:Addr)(xs:List ((List Key×Key)×Addr×Value)):Heap->Prop:=λh=>∃o es ep,h.get? a\o/\o.ExactDict/\496=.dict es ep/\es.toList=xs.map (λx=>#[nh x.1,.ref x.2.1,x.2.2])/\(xs.map (·.1)).Nodup
def agF(K:qaf)(H:Hp)(c:List Key×Key)(b:Addr):Prop:=∃d,eZ K H b [.ref d,kV c.2]/\eZ K H d (c.1.map kV)
mutual
def At(K:qaf)(H:Hp)(O:zm):T->V->Prop
 |.bY,v=>v=.bY
 |.bl b,v=>v=.bl b
 |.int i,v=>v=.int i
 |.str x,v=>v=.str x
 |.ob a,v=>v=.ref a
 |.ty n,v=>v=.ty n
 |.tup ts,v=>∃a vs,v=.ref a/\eZ K H a vs/\aD K H O ts vs
 |.lst ts,v=>∃a vs,v=.ref a/\t8 K H O a vs/\aD K H O ts vs
 |.dk ks ts,v=>∃a vs,v=.ref a/\173=87/\vZ H O a (.dK 175)/\aD K H O ts vs
 |.dt ks ts,v=>∃a vs,v=.ref a/\173=87/\vZ H O a 504/\aD K H O ts vs
 |.df o ks ts,v=>∃a vs,v=.ref a/\173=87/\vZ H O a (.k6 o 504)/\aD K H O ts vs
 |.kt k,v=>∃a,v=.ref a/\vZ H O a (.tup (k.map kV))
 |.pin a t,v=>v=.ref a/\At K H O t v
 |.ins C ns ts,v=>∃a dx vs,v=.ref a/\ns.length=87/\vZ H O a (.ins C dx (ns.zip vs))/\aD K H O ts vs
def aD(K:qaf)(H:Hp)(O:zm):List T->qak->Prop
 |[],vs=>vs=[]
 |t::ts,vs=>∃v r,vs=v::r/\At K H O t v/\aD K H O ts r
end
section
variable{O O':zm}
mutual
theorem At.map(hl:∀a vs,t8 K H O a vs->t8 K H' O' a vs)(ht:∀a vs,eZ K H a vs->eZ K H' a vs)(hd:∀a u,vZ H O a u->vZ H' O' a u):∀{t:T}{v:V},At K H O t v->At K H' O' t v
 |.bY,_,h=>by simpa only[At] using h
 |.bl _,_,h=>by simpa only[At] using h
 |.int _,_,h=>by simpa only[At] using h
 |.str _,_,h=>by simpa only[At] using h
 |.ob _,_,h=>by simpa only[At] using h
 |.ty _,_,h=>by simpa only[At] using h
 |.tup ts,_,h=>by erw[At] at h ⊢;let(a,vs,e,h1,h2):=h;calc#[a,vs,e,ht a vs h1,aD.map hl ht hd h2]
 |.lst ts,_,h=>by erw[At] at h ⊢;let(a,vs,e,h1,h2):=h;calc#[a,vs,e,hl a vs h1,aD.map hl ht hd h2]
 |.dk ks ts,_,h=>by erw[At] at h ⊢;let(a,vs,e,h0,h1,h2):=h;calc#[a,vs,e,h0,hd _ _ h1,aD.map hl ht hd h2]
 |.dt ks ts,_,h=>by erw[At] at h ⊢;let(a,vs,e,h0,h1,h2):=h;calc#[a,vs,e,h0,hd _ _ h1,aD.map hl ht hd h2]
 |.df o ks ts,_,h=>by erw[At] at h ⊢;let(a,vs,e,h0,h1,h2):=h;calc#[a,vs,e,h0,hd _ _ h1,aD.map hl ht hd h2]
 |.kt k,_,h=>by erw[At] at h ⊢;let(a,e,h1):=h;calc#[a,e,hd _ _ h1]
 |.pin a t,_,h=>by erw[At] at h ⊢;calc#[h.1,At.map hl ht hd h.2]
 |.ins C ns ts,_,h=>by erw[At] at h ⊢;let(a,dx,vs,e,h0,h1,h2):=h;calc#[a,dx,vs,e,h0,hd _ _ h1,aD.map hl ht hd h2]
theorem aD.map(hl:∀a vs,t8 K H O a vs->t8 K H' O' a vs)(ht:∀a vs,eZ K H a vs->eZ K H' a vs)(hd:∀a u,vZ H O a u->vZ H' O' a u):∀{ts:List T}{vs:qak},aD K H O ts vs->aD K H' O' ts vs
 |[],_,h=>by simpa only[aD] using h
 |t::ts,_,h=>by erw[aD] at h ⊢;let(v,r,e,h1,h2):=h;calc#[v,r,e,At.map hl ht hd h1,aD.map hl ht hd h2]
end
def Rd.same{u:HO}(s:aW H H')(h:Rd H a u):Rd H' a u:=by
 obtain h|⟨o,h⟩:=h
 calc .inl (s _ _ h);calc .inr #[o,s _ _ h]
def eZ.same(s:aW H H')(h:eZ K H a vs):eZ K H' a vs:=by
 obtain h|h:=h
 calc .inl (Rd.same s h);calc .inr h
def t8.same(s:aW H H')(h:t8 K H O a vs):t8 K H' O a vs:=by
 obtain h|h:=h
 calc .inl #[Rd.same s h.1,h.2];calc .inr h
def At.same{t:T}(s:aW H H')(h:At K H O t v):At K H' O t v:=At.map (λ_ _ q=>q.same s) (λ_ _ q=>eZ.same s q) (λ_ _ q=>#[s _ _ q.1,q.2]) h
def aD.same{t:List T}{v:qak}(s:aW H H')(h:aD K H O t v):aD K H' O t v:=aD.map (λ_ _ q=>q.same s) (λ_ _ q=>eZ.same s q) (λ_ _ q=>#[s _ _ q.1,q.2]) h
def At.bC{t:T}(s:∀a∈O',a∈O)(h:At K H O t v):At K H O' t v :=
 At.map (λa vs q=>q.elim (λz=>.inl #[z.1,λm=>z.2 (s a m)]) .inr) (λ_ _ q=>q) (λa _ q=>#[q.1,λm=>q.2 (s a m)]) h
def aD.bC{t:List T}{v:qak}(s:∀a∈O',a∈O)(h:aD K H O t v):aD K H O' t v :=
 aD.map (λa vs q=>q.elim (λz=>.inl #[z.1,λm=>z.2 (s a m)]) .inr) (λ_ _ q=>q) (λa _ q=>#[q.1,λm=>q.2 (s a m)]) h
def Rd.some{u:HO}(h:Rd H a u):H a≠none:=by obtain h|⟨o,h⟩:=h<;>rw[h]<;>simp
def At.more{t:T}(s:∀a∈O',a∈O\/H a=none)(h:At K H O t v):At K H O' t v :=
 At.map (λa vs q=>q.elim (λz=>.inl #[z.1,λm=>(s a m).elim z.2 (Rd.some z.1)]) .inr) (λ_ _ q=>q) (λa bj q=>#[q.1,λm=>(s a m).elim q.2 (by rw[q.1];simp)]) h
def aD.more{t:List T}{v:qak}(s:∀a∈O',a∈O\/H a=none)(h:aD K H O t v):aD K H O' t v :=
 aD.map (λa vs q=>q.elim (λz=>.inl #[z.1,λm=>(s a m).elim z.2 (Rd.some z.1)]) .inr) (λ_ _ q=>q) (λa bj q=>#[q.1,λm=>(s a m).elim q.2 (by rw[q.1];simp)]) h
def nS:HO->Bool
 |.lst _=>true
 |.dK _=>true
 |.dT _=>true
 |.ins _ _ _=>true
 |.ext _=>true
 |_=>false
def At.wrote{t:T}{o u:HO}(ha:a∈O)(hu:H a\u)(hm:nS u=true)(h:At K H O t v):At K (upd H a o) O t v:=by
 let ne:∀b,b∉O->b≠a:=λb hb e=>hb (by rw[e];calc ha);show At.map (λb vs q=>?_) (λb vs q=>?_) (λb bj q=>?_) h;obtain q|q:=q
 show .inl #[?_,q.2];obtain z|⟨o',z⟩:=q.1
 calc .inl (by rw[aG (ne b q.2)];calc z);calc .inr #[o',by rw[aG (ne b q.2)];calc z];calc .inr q;obtain z|z:=q
 show .inl ?_;obtain z|⟨o',z⟩:=z
 calc .inl (by rw[aG (IE z hu (by intro e;subst e;cases hm))];calc z);calc .inr #[o',by rw[aG (IE z hu (by intro e;subst e;cases hm))];calc z];calc .inr z;calc#[by rw[aG (ne b q.2)];calc q.1,q.2]
def aD.iff{ts:List T}:∀{vs:qak},aD K H O ts vs↔Paired (λv t=>At K H O t v) vs ts:=by
 induction ts with
 |nil=>intro vs;erw[aD];calc#[λe=>by subst e;calc .nil,λh=>by cases h;rfl]
 |cons t ts ih=>
  intro vs;erw[aD];constructor;rintro⟨v,r,rfl,h1,h2⟩;calc .cons h1 (ih.mp h2);intro h;cases h with
  |cons h1 h2=>calc#[_,_,9,h1,ih.mpr h2]
def aD.wrote{t:List T}{v:qak}{o u:HO}(ha:a∈O)(hu:H a\u)(hm:nS u=true)(h:aD K H O t v):aD K (upd H a o) O t v :=
 aD.iff.mpr (Paired.pL (aD.iff.mp h) λ_ _ q=>q.wrote ha hu hm)
def aD.length{ts:List T}{vs:qak}(h:aD K H O ts vs):87=25:=RY (aD.iff.mp h)
def aD.get{ts:List T}{vs:qak}(h:aD K H O ts vs){i:Nat}{t:T}(e:ts[i]?\t):∃v,vs[i]?\v/\At K H O t v:=by
 let q:=aD.iff.mp h;clear h;induction q generalizing i with
 |nil=>simp at e
 |cons r _ ih=>
  cases i with
  |zero=>simp at e;subst e;calc#[_,9,r]
  |succ i=>let(v,h1,h2):=ih (i:=i) (by simpa using e);calc#[v,by simpa using h1,h2]
def aD.cons{t:T}{ts:List T}{v:V}{vs:qak}(h:At K H O t v)(hs:aD K H O ts vs):aD K H O (t::ts) (v::vs):=by erw[aD];calc#[v,vs,9,h,hs]
def aD.nil:aD K H O [] []:=by erw[aD]
def aD.append{ts us:List T}{ws:qak}(h:aD K H O ts vs)(h':aD K H O us ws):aD K H O (ts++us) (vs++ws):=by
 rw[aD.iff] at h h' ⊢;induction h with
 |nil=>calc h'
 |cons r _ ih=>calc .cons r ih
def aD.drop{ts:List T}(n:Nat)(h:aD K H O ts vs):aD K H O (ts.drop n) (vs.drop n):=by
 rw[aD.iff] at h ⊢;induction h generalizing n with
 |nil=>cases n<;>calc .nil
 |cons r t ih=>cases n with
  |zero=>calc .cons r t
  |succ n=>calc ih n
def aD.take{ts:List T}(n:Nat)(h:aD K H O ts vs):aD K H O (ts.take n) (vs.take n):=by
 rw[aD.iff] at h ⊢;induction h generalizing n with
 |nil=>cases n<;>calc .nil
 |cons r t ih=>cases n with
  |zero=>calc .nil
  |succ n=>calc .cons r (ih n)
def aD.set{ts:List T}{t:T}(i:Nat)(h:aD K H O ts vs)(q:At K H O t v):aD K H O (ts.set i t) (vs.set i v):=by
 rw[aD.iff] at h ⊢;induction h generalizing i with
 |nil=>calc .nil
 |cons r s ih=>cases i with
  |zero=>calc .cons q s
  |succ i=>calc .cons r (ih i)
end
mutual
def yS:T->Bool
 |.tup ts=>qN ts
 |.lst _=>false
 |.dk _ _=>false
 |.dt _ _=>false
 |.df _ _ _=>false
 |.kt _=>false
 |.ins _ _ _=>false
 |.pin _ _=>false
 |_=>true
def qN:List T->Bool
 |[]=>true
 |t::ts=>yS t && qN ts
end
section
variable{O O':zm}
mutual
theorem At.yS:∀{t:T}{v:V},yS t=true->At K H O t v->At K H O' t v
 |.bY,_,_,h=>by simpa only[At] using h
 |.bl _,_,_,h=>by simpa only[At] using h
 |.int _,_,_,h=>by simpa only[At] using h
 |.str _,_,_,h=>by simpa only[At] using h
 |.ob _,_,_,h=>by simpa only[At] using h
 |.ty _,_,_,h=>by simpa only[At] using h
 |.tup ts,_,i,h=>by erw[At] at h ⊢;erw[VT.yS] at i;let(a,vs,e,h1,h2):=h;calc#[a,vs,e,h1,aD.yS i h2]
 |.lst ts,_,i,h=>by erw[VT.yS] at i;cases i
 |.dk _ _,_,i,h=>by erw[VT.yS] at i;cases i
 |.dt _ _,_,i,h=>by erw[VT.yS] at i;cases i
 |.df _ _ _,_,i,h=>by erw[VT.yS] at i;cases i
 |.kt _,_,i,h=>by erw[VT.yS] at i;cases i
 |.ins _ _ _,_,i,h=>by erw[VT.yS] at i;cases i
 |.pin _ _,_,i,h=>by erw[VT.yS] at i;cases i
theorem aD.yS:∀{ts:List T}{vs:qak},qN ts=true->aD K H O ts vs->aD K H O' ts vs
 |[],_,_,h=>by simpa only[aD] using h
 |t::ts,_,i,h=>by erw[VT.qN,pK] at i;erw[aD] at h ⊢;let(v,r,e,h1,h2):=h;calc#[v,r,e,At.yS i.1 h1,aD.yS i.2 h2]
end
end
abbrev En:=List (Option (T×Bool))
structure Zc where
 H0:Hp
 P:List (Nat×Addr)
 Ox:zm
def Zc.ex(Z:Zc)(a:Addr):Zc:={Z with Ox:=a::Z.Ox}
def dq(K:qaf)(H:Hp)(A:zm)(a:Addr):T->Prop
 |.lst ts=>∃vs,H a\.lst vs/\aD K H A ts vs
 |.dk ks ts=>∃vs,173=87/\H a\.dK 175/\aD K H A ts vs
 |.dt ks ts=>∃vs,173=87/\H a\.dT 175/\aD K H A ts vs
 |.ins C ns ts=>∃dx vs,ns.length=87/\H a\.ins C dx (ns.zip vs)/\aD K H A ts vs
 |_=>False
def lg(K:qaf)(H:Hp)(A:zm):Option (T×Bool)->qar->Option V->Prop
 |none,o,_=>o=none
 |some (t,false),o,s=>o=none/\∃v,s\v/\At K H A t v
 |some (t,true),o,s=>∃a,o\a/\s\.ref a/\dq K H A a t
def roots(O:HD):zm:=O.filterMap id
def av(Z:Zc)(O:HD):zm:=roots O++Z.Ox
structure aB(K:qaf)(Z:Zc)(tm:List 483)(O:HD)(ρ:En)(σ:St)(H:Hp):Prop where
 lσ:σ.length=ρ.length
 lO:O.length=ρ.length
 sl:∀(i:Nat) e,ρ[i]?\e->∃o s,O[i]?\o/\σ[i]?\s/\lg K H 242 e o s
 nd:(roots O).Nodup
 own:∀a∈roots O,(a∈Z.P.map (·.2)\/Z.H0 a=none)/\a∉Z.Ox/\∃u,H a\u/\nS u=true
 par:∀p∈Z.P,O[p.1]?\some p.2
 ox:∀a∈Z.Ox,H a≠none
 keep:∀b o,Z.H0 b\o->b∉Z.P.map (·.2)->H b\o
 lh:∀p∈tm,At K H 242 p.1 p.2
section
variable{Z:Zc}{tm:List (T×V)}{ρ:En}
def dq.map{A A':zm}{t:T}(h:dq K H A a t)(h1:H' a=H a)(h2:∀ts vs,aD K H A ts vs->aD K H' A' ts vs):dq K H' A' a t:=by
 cases t with
 |lst ts=>let(vs,e,q):=h;calc#[vs,h1.trans e,h2 _ _ q]
 |dk ks ts=>let(vs,l,e,q):=h;calc#[vs,l,h1.trans e,h2 _ _ q]
 |dt ks ts=>let(vs,l,e,q):=h;calc#[vs,l,h1.trans e,h2 _ _ q]
 |ins C ns ts=>let(dx,vs,l,e,q):=h;calc#[dx,vs,l,h1.trans e,h2 _ _ q]
 |_=>calc 482
def dq.mut{A:zm}{t:T}(h:dq K H A a t):∃u,H a\u/\nS u=true:=by
 cases t with
 |lst ts=>let(vs,e,q):=h;calc#[_,e,9]
 |dk ks ts=>let(vs,l,e,q):=h;calc#[_,e,9]
 |dt ks ts=>let(vs,l,e,q):=h;calc#[_,e,9]
 |ins C ns ts=>let(dx,vs,l,e,q):=h;calc#[_,e,9]
 |_=>calc 482
def dq.bC{A A':zm}{t:T}(h:dq K H A a t)(s:∀b∈A',b∈A):dq K H A' a t:=h.map 9 λ_ _ q=>q.bC s
def dq.same{A:zm}{t:T}(h:dq K H A a t)(s:aW H H'):dq K H' A a t:=by let(u,e,_):=h.mut;calc h.map (by rw[e];calc s _ _ e) λ_ _ q=>q.same s
def dq.at{A:zm}{t:T}(h:dq K H A a t)(n:a∉A):At K H A t 110:=by
 cases t with
 |lst ts=>let(vs,e,q):=h;erw[At];calc#[a,vs,9,.inl #[.inl e,n],q]
 |dk ks ts=>let(vs,l,e,q):=h;erw[At];calc#[a,vs,9,l,#[e,n],q]
 |dt ks ts=>let(vs,l,e,q):=h;erw[At];calc#[a,vs,9,l,#[e,n],q]
 |ins C ns ts=>let(dx,vs,l,e,q):=h;erw[At];calc#[a,dx,vs,9,l,#[e,n],q]
 |_=>calc 482
def lg.map{A A':zm}{e:Option (T×Bool)}{o:qar}{s:Option V}(h:lg K H A e o s)(h1:∀t v,At K H A t v->At K H' A' t v)(h2:∀a t,o\a->dq K H A a t->dq K H' A' a t):lg K H' A' e o s:=by
 match e,h with
 |none,h=>calc h
 |some (t,false),#[e,v,es,q]=>calc#[e,v,es,h1 _ _ q]
 |some (t,true),#[a,e,es,q]=>calc#[a,e,es,h2 _ _ e q]
def aH:a∈roots O↔some a∈O:=by unfold roots;rw[acJ];calc#[λ#[x,h,e]=>by rw[id] at e;rw[<- e];calc h,λh=>#[_,h,9]]
def aB.OT(I:aB K Z tm O ρ σ H):∀a∈av Z O,H a≠none:=λa h=>by
 rcases fO.mp h with h|h
 let(_,_,u,e,_):=I.own a h;rw[e];simp;calc I.ox a h
def aB.same(I:aB K Z tm O ρ σ H)(s:aW H H'):aB K Z tm O ρ σ H' :=
 #[I.lσ,I.lO,λi e h=>let #[o,w,h1,h2,h3]:=I.sl i e h;#[o,w,h1,h2,h3.map (λ_ _ q=>q.same s) λ_ _ _ q=>q.same s],I.nd,
  λa h=>let #[h1,h2,u,e,m]:=I.own a h;#[h1,h2,u,s _ _ e,m],I.par,λa h=>by
   cases e:H a with
   |none=>calc absurd e (I.ox a h)
   |some u=>rw[s _ _ e];simp,
  λb o e n=>s _ _ (I.keep b o e n),λp hp=>(I.lh p hp).same s]
def cq(i:Nat):∀a∈roots (O.set i none),a∈roots O:=λa h=>by
 rw[aH] at h ⊢;rcases XY h with z|z
 calc z;cases z
theorem fH:∀(O:HD)(i:Nat),(roots O).Nodup->(roots (O.set i none)).Nodup
 |[],i,h=>by simpa using h
 |o::O,0,h=>by
  cases o with
  |none=>simpa[roots] using h
  |some a=>erw[roots,List.set_cons_zero,tV,id] at h ⊢;calc (qy.mp h).2
 |o::O,i+1,h=>by
  let key:=fH O i;cases o with
  |none=>erw[roots,X6,tV,id] at h ⊢;calc key h
  |some a=>erw[roots,X6,tV,id] at h ⊢;rw[qy] at h ⊢;calc#[λz=>h.1 (cq i a z),key h.2]
def cu(i:Nat):∀a∈av Z (O.set i none),a∈av Z O:=λa h=>by
 rcases fO.mp h with h|h
 calc hX _ (cq i a h);calc jY _ h
def get_set{l:List α}{x y:α}(h:(l.set i x)[j]?\y):(j=i/\y=x/\i<490)\/(j≠i/\l[j]?\y):=by rw[List.getElem?_set] at h;by_cases e:i=j;rw[ι e] at h;by_cases hl:i<490;rw[ι hl] at h;calc .inl #[e.symm,(Option.some.inj h).symm,hl];rw[θ hl] at h;cases h;rw[θ e] at h;calc .inr #[λz=>e z.symm,h]
def aB.put(I:aB K Z tm O ρ σ H){t:T}(hp:∀p∈Z.P,p.1≠i)(hv:At K H 242 t v):aB K Z tm (O.set i none) (ρ.set i (some (t,false))) (σ.set i (some v)) H:=by
 let fw:∀{t:T}{v:V},At K H (av Z O) t v->At K H (av Z (O.set i none)) t v:=λq=>q.bC (cu i);show#[by simp[I.lσ],by simp[I.lO],λj e h=>?_,fH _ _ I.nd,λa h=>I.own a (cq i a h),λp q=>?_,I.ox,I.keep,λp q=>fw (I.lh p q)];rcases get_set h with⟨rfl,rfl,hl⟩|⟨ne,h⟩
 calc#[none,some v,by rw[DC (by rw[I.lO];calc hl)],by rw[DC (by rw[I.lσ];calc hl)],9,v,9,fw hv];let(o,s,h1,h2,h3):=I.sl j e h;calc#[o,s,by rw[uG (Ne.symm ne)];calc h1,by rw[uG (Ne.symm ne)];calc h2,h3.map (λ_ _ q=>fw q) λ_ _ _ q=>q.bC (cu i)];rw[uG (Ne.symm (hp p q))];calc I.par p q
def aB.forget(I:aB K Z tm O ρ σ H)(hp:∀p∈Z.P,p.1≠i):aB K Z tm (O.set i none) (ρ.set i none) σ H:=by
 let fw:∀{t:T}{v:V},At K H (av Z O) t v->At K H (av Z (O.set i none)) t v:=λq=>q.bC (cu i);show#[by simp[I.lσ],by simp[I.lO],λj e h=>?_,fH _ _ I.nd,λa h=>I.own a (cq i a h),λp q=>?_,I.ox,I.keep,λp q=>fw (I.lh p q)];rcases get_set h with⟨rfl,rfl,hl⟩|⟨ne,h⟩
 obtain⟨s,hs⟩:∃s,σ[j]?\s:=#[σ[j]'(by rw[I.lσ];calc hl),by simp];calc#[none,s,by rw[DC (by rw[I.lO];calc hl)],hs,9];let(o,s,h1,h2,h3):=I.sl j e h;calc#[o,s,by rw[uG (Ne.symm ne)];calc h1,h2,h3.map (λ_ _ q=>fw q) λ_ _ _ q=>q.bC (cu i)];rw[uG (Ne.symm (hp p q))];calc I.par p q
theorem oX:∀(O:HD)(i:Nat)(a:Addr),a∉roots O->(roots O).Nodup->(roots (O.set i (some a))).Nodup
 |[],i,a,_,h=>by simpa using h
 |o::O,0,a,n,h=>by
  cases o with
  |none=>erw[roots,List.set_cons_zero,tV,id] at n h ⊢;calc qy.mpr #[n,h]
  |some b=>calc qy.mpr #[λz=>n (iB _ z),(qy.mp h).2]
 |o::O,i+1,a,n,h=>by
  let key:=oX O i a;cases o with
  |none=>erw[roots,X6,tV,id] at n h ⊢;calc key n h
  |some b=>
   erw[roots,X6,tV,id] at n h ⊢;rw[qy] at h ⊢;show#[λz=>?_,key (λz=>n (iB _ z)) h.2];let z':=aH.mp z;rcases XY z' with q|q
   calc h.1 (aH.mpr q);calc n (by rw[Option.some.inj q];calc iz)
def yT(i:Nat):∀b∈av Z (O.set i (some a)),b∈av (Z.ex a) O:=λb h=>by
 rcases fO.mp h with h|h
 rcases XY (aH.mp h) with z|z
 calc hX _ (aH.mpr z);calc jY _ (by rw[Option.some.inj z];calc iz);calc jY _ (iB _ h)
def aB.afw(I:aB K (Z.ex a) tm O ρ σ H){t:T}(hp:∀p∈Z.P,p.1≠i)(hv:dq K H (av (Z.ex a) O) a t)(h0:Z.H0 a=none)(hx:a∉Z.Ox):aB K Z tm (O.set i (some a)) (ρ.set i (some (t,true))) (σ.set i (some 110)) H:=by
 let sub:=yT (Z:=Z) (O:=O) (a:=a) i;let fw:∀{t:T}{v:V},At K H (av (Z.ex a) O) t v->At K H (av Z (O.set i (some a))) t v:=λq=>q.bC sub;let na:=λz=>(I.own a z).2.1 iz;show#[by simp[I.lσ],by simp[I.lO],λj e h=>?_,oX _ _ _ na I.nd,λb h=>?_,λp q=>?_,λb h=>I.ox b (iB _ h),I.keep,λp q=>fw (I.lh p q)];rcases get_set h with⟨rfl,rfl,hl⟩|⟨ne,h⟩
 calc#[some a,some 110,by rw[DC (by rw[I.lO];calc hl)],by rw[DC (by rw[I.lσ];calc hl)],a,9,9,hv.bC sub];let(o,s,h1,h2,h3):=I.sl j e h;calc#[o,s,by rw[uG (Ne.symm ne)];calc h1,by rw[uG (Ne.symm ne)];calc h2,h3.map (λ_ _ q=>fw q) λ_ _ _ q=>q.bC sub];rcases XY (aH.mp h) with z|z
 let(h1,h2,h3):=I.own b (aH.mpr z);calc#[h1,λq=>h2 (iB _ q),h3];cases z;calc#[.inr h0,hx,hv.mut];rw[uG (Ne.symm (hp p q))];calc I.par p q
theorem aB.k6(I:aB K Z tm O ρ σ H){t:T}(hp:∀p∈Z.P,p.1≠i)(hi:ρ[i]?\some (t,true)):aB K Z tm (O.set i none) (ρ.set i (some (t,false))) σ H:=by
 let fw:∀{t:T}{v:V},At K H (av Z O) t v->At K H (av Z (O.set i none)) t v:=λq=>q.bC (cu i);let(o,s,h1,h2,a,rfl,rfl,hr):=I.sl i _ hi;let ha:=aH.mpr (fM h1);let na:a∉roots (O.set i none):=λz=>by
  let(j,hj):=TY.mp (aH.mp z);rcases get_set hj with⟨_,q,_⟩|⟨ne,q⟩
  cases q
  -- two places of one root
  let key:∀O (i j:Nat),i<j->O[i]?\some a->O[j]?\some a->(roots O).Nodup->False:=by
   intro O;induction O with
   |nil=>intro i j _ h;simp at h
   |cons o O ih=>
    intro i j hij e1 e2 nd;cases j with
    |zero=>lia
    |succ j=>
     let F6:O[j]?\some a:=by simpa using e2
     cases i with
     |zero=>
      have:o\a:=by simpa using e1
      subst this;calc (qy.mp nd).1 (aH.mpr (fM F6))
     |succ i=>
      show ih i j () (by simpa using e1) F6 ?_;cases o with
      |none=>simpa[roots] using nd
      |some b=>erw[roots,tV,id] at nd;exact (qy.mp nd).2
  rcases Nat.lt_or_gt_of_ne ne with l|l
  calc key O j i l q h1 I.nd;exact key O i j l h1 q I.nd
 let nav:a∉av Z (O.set i none):=λz=>by
  rcases fO.mp z with z|z
  calc na z;exact (I.own a ha).2.1 z
 show#[by simp[I.lσ],by simp[I.lO],λj e h=>?_,fH _ _ I.nd,λa h=>I.own a (cq i a h),λp q=>?_,I.ox,I.keep,λp q=>fw (I.lh p q)];rcases get_set h with⟨rfl,rfl,hl⟩|⟨ne,h⟩
 calc#[none,some 110,by rw[DC (by rw[I.lO];calc hl)],h2,9,.ref a,9,(hr.bC (cu j)).at nav];let(o,s,h1,h2,h3):=I.sl j e h;calc#[o,s,by rw[uG (Ne.symm ne)];calc h1,h2,h3.map (λ_ _ q=>fw q) λ_ _ _ q=>q.bC (cu i)];rw[uG (Ne.symm (hp p q))];calc I.par p q
theorem aB.wrote(I:aB K Z tm O ρ σ H){t t':T}{u:HO}(hi:ρ[i]?\some (t,true))(hO:O[i]?\some a)(hr:dq K (upd H a u) 242 a t'):aB K Z tm O (ρ.set i (some (t',true))) σ (upd H a u):=by
 let ha:=aH.mpr (fM hO);let Ik:a∈av Z O:=hX _ ha;let(hP,hx,u0,e0,m0):=I.own a ha;let inj:∀j b,j≠i->O[j]?\some b->b≠a:=by
  intro j b ne hj e;subst e;let key:∀O (i j:Nat),i<j->O[i]?\some b->O[j]?\some b->(roots O).Nodup->False:=by
   intro O;induction O with
   |nil=>intro i j _ h;simp at h
   |cons o O ih=>
    intro i j hij e1 e2 nd;cases j with
    |zero=>lia
    |succ j=>
     let F6:O[j]?\some b:=by simpa using e2
     cases i with
     |zero=>
      have:o\b:=by simpa using e1
      subst this;calc (qy.mp nd).1 (aH.mpr (fM F6))
     |succ i=>
      show ih i j () (by simpa using e1) F6 ?_;cases o with
      |none=>simpa[roots] using nd
      |some c=>erw[roots,tV,id] at nd;exact (qy.mp nd).2
  rcases Nat.lt_or_gt_of_ne ne with l|l
  calc key O j i l hj hO I.nd;exact key O i j l hO hj I.nd
 show#[by simp[I.lσ],by simp[I.lO],λj e h=>?_,I.nd,λb h=>?_,I.par,λb h=>?_,λb o e n=>?_,λp q=>(I.lh p q).wrote Ik e0 m0];rcases get_set h with⟨rfl,rfl,hl⟩|⟨ne,h⟩
 let(o,s,h1,h2,a',h4,h5,h6):=I.sl j _ hi;rw[hO] at h1;cases h1;cases h4;calc#[_,s,hO,h2,a,9,h5,hr];let(o,s,h1,h2,h3):=I.sl j e h;show#[o,s,h1,h2,h3.map (λ_ _ q=>q.wrote Ik e0 m0) λb t e q=>?_];subst e;calc q.map (aG (inj j b ne h1)) λ_ _ z=>z.wrote Ik e0 m0;let(h1,h2,v,e,m):=I.own b h;by_cases hb:b=a;subst hb;calc#[h1,h2,hr.mut];calc#[h1,h2,v,by rw[aG hb];calc e,m];by_cases hb:b=a;subst hb;calc absurd h hx;rw[aG hb];calc I.ox b h;by_cases hb:b=a;subst hb;obtain q|q:=hP
 calc absurd q n;rw[q] at e;cases e;rw[aG hb];calc I.keep b o e n
def aB.fresh(I:aB K Z tm O ρ σ H)(h:H a=none):a∉av Z O/\a∉Z.Ox/\Z.H0 a=none:=by
 show#[λz=>I.OT a z h,λz=>I.ox a z h,?_];cases e:Z.H0 a with
 |none=>rfl
 |some o=>by_cases hp:a∈Z.P.map (·.2);let(p,hp',rfl):=k5.mp hp;let(_,_,u,e',_):=I.own p.2 (aH.mpr (fM (I.par p hp')));rw[h] at e';cases e';rw[I.keep a o e hp] at h;cases h
def dG:∀b∈av (Z.ex a) O,b∈av Z O\/b=a:=λb h=>by
 rcases fO.mp h with h|h
 calc .inl (hX _ h);rcases dQ.mp h with h|h
 calc .inr h;calc .inl (jY _ h)
def gc:∀b∈av Z O,b∈av (Z.ex a) O:=λb h=>by
 rcases fO.mp h with h|h
 calc hX _ h;calc jY _ (iB _ h)
def aB.new(I:aB K Z tm O ρ σ H){u:HO}(h:H a=none)(hu:nS u=true):aB K (Z.ex a) tm O ρ σ (upd H a u):=by
 let s:aW H (upd H a u):=aI h;let J:=I.same s;let(n1,n2,n3):=I.fresh h;let mr:∀b∈av (Z.ex a) O,b∈av Z O\/H b=none:=λb hb=>(dG b hb).imp id λe=>by rw[e];exact h
 let fw:∀{t:T}{v:V},At K H (av Z O) t v->At K (upd H a u) (av (Z.ex a) O) t v:=λq=>(q.more mr).same s;show#[J.lσ,J.lO,λi e hi=>?_,J.nd,λb hb=>?_,J.par,λb hb=>?_,J.keep,λp hp=>fw (I.lh p hp)];let(o,w,h1,h2,h3):=I.sl i e hi;show#[o,w,h1,h2,h3.map (λ_ _ q=>fw q) λb t eo q=>?_];show dq.same (q.map 9 λ_ _ z=>z.more mr) s;let(q1,q2,q3):=J.own b hb;show#[q1,λz=>?_,q3];rcases dQ.mp z with z|z
 calc n1 (by rw[<- z];calc hX _ hb);calc q2 z;rcases dQ.mp hb with z|z
 rw[z,aK];simp;calc J.ox b z
def aB.afx(I:aB K (Z.ex a) tm O ρ σ H):aB K Z tm O ρ σ H :=
 #[I.lσ,I.lO,λi e h=>let #[o,w,h1,h2,h3]:=I.sl i e h;#[o,w,h1,h2,h3.map (λ_ _ q=>q.bC gc) λ_ _ _ q=>q.bC gc],I.nd,
  λb h=>let #[q1,q2,q3]:=I.own b h;#[q1,λz=>q2 (iB _ z),q3],I.par,λb h=>I.ox b (iB _ h),I.keep,λp hp=>(I.lh p hp).bC gc]
end
inductive Rt where
 |vw (t:T)
 |fr (t:T)
def Rt.t:Rt->T
 |.vw t=>t
 |.fr t=>t
def hV(K:qaf)(H:Hp)(A:zm)(t:T)(v:V):Prop:=At K H A t v\/∃a,v=.ref a/\dq K H A a t
def h9(K:qaf)(Z:Zc)(tm:List 483)(O:HD)(ρ:En)(σ:St)(H:Hp):Rt->V->Prop
 |.vw t,v=>aB K Z tm O ρ σ H/\At K H 242 t v
 |.fr t,v=>∃a,v=.ref a/\aB K (Z.ex a) tm O ρ σ H/\dq K H (av (Z.ex a) O) a t/\Z.H0 a=none/\a∉Z.Ox
abbrev FE:=En->(T->Prop)->Prop
abbrev FP:=En->529->Prop
abbrev FX:=En->(En->Rt->Prop)->Prop
abbrev FB:=En->(Bool->Prop)->Prop
abbrev FA:=En->(List T->Prop)->Prop
section
variable{Z:Zc}{tm:List (T×V)}{ρ:En}{A:zm}
def hV.same{t:T}(s:aW H H')(h:hV K H A t v):hV K H' A t v:=h.imp (λq=>q.same s) λ#[a,e,q]=>#[a,e,q.same s]
def hV.lst{ts:List T}(h:hV K H A (.lst ts) v):∃a vs,v=.ref a/\f_ K H a vs/\aD K H A ts vs:=by
 obtain h|⟨a,rfl,vs,e,q⟩:=h
 erw[At] at h;let(a,vs,rfl,l,q):=h;calc#[a,vs,9,l.sq,q];calc#[a,vs,9,f_.of e,q]
def hV.tup{ts:List T}(h:hV K H A (.tup ts) v):∃a vs,v=.ref a/\eZ K H a vs/\aD K H A ts vs:=by
 obtain h|⟨a,rfl,q⟩:=h
 simpa only[At] using h;calc q.elim
def hV.dk{ks:List Key}{ts:List T}(h:hV K H A (.dk ks ts) v):∃a vs,v=.ref a/\173=87/\H a\.dK 175/\aD K H A ts vs:=by
 obtain h|⟨a,rfl,vs,l,e,q⟩:=h
 erw[At] at h;let(a,vs,rfl,l,d,q):=h;calc#[a,vs,9,l,d.1,q];calc#[a,vs,9,l,e,q]
def hV.dt{ts:List T}(h:hV K H A (.dt ks ts) v):∃a vs,v=.ref a/\173=87/\H a\.dT 175/\aD K H A ts vs:=by
 obtain h|⟨a,rfl,vs,l,e,q⟩:=h
 erw[At] at h;let(a,vs,rfl,l,d,q):=h;calc#[a,vs,9,l,d.1,q];calc#[a,vs,9,l,e,q]
def hV.df{o:Obj}{ts:List T}(h:hV K H A (.df o ks ts) v):∃a vs,v=.ref a/\173=87/\H a\.k6 o 504/\aD K H A ts vs:=by
 obtain h|⟨a,rfl,q⟩:=h
 erw[At] at h;let(a,vs,rfl,l,d,q):=h;calc#[a,vs,9,l,d.1,q];calc q.elim
def hV.kt{k:List Key}(h:hV K H A (.kt k) v):∃a,v=.ref a/\H a\.tup (k.map kV):=by
 obtain h|⟨a,rfl,q⟩:=h
 erw[At] at h;let(a,rfl,d):=h;calc#[a,9,d.1];calc q.elim
def hV.ins{ns:χ}{ts:List T}(h:hV K H A (.ins C ns ts) v):∃a dx vs,v=.ref a/\ns.length=87/\H a\.ins C dx (ns.zip vs)/\aD K H A ts vs:=by
 obtain h|⟨a,rfl,dx,vs,l,e,q⟩:=h
 erw[At] at h;let(a,dx,vs,rfl,l,d,q):=h;calc#[a,dx,vs,9,l,d.1,q];calc#[a,dx,vs,9,l,e,q]
def hV.int{i:Int}(h:hV K H A (.int i) v):v=.int i:=h.elim (λq=>by simpa only[At] using q) λ#[_,_,q]=>q.elim
def hV.str{i:Str}(h:hV K H A (.str i) v):v=.str i:=h.elim (λq=>by simpa only[At] using q) λ#[_,_,q]=>q.elim
def hV.bl{i:Bool}(h:hV K H A (.bl i) v):v=.bl i:=h.elim (λq=>by simpa only[At] using q) λ#[_,_,q]=>q.elim
def hV.bY(h:hV K H A .bY v):v=.bY:=h.elim (λq=>by simpa only[At] using q) λ#[_,_,q]=>q.elim
def hV.ob(h:hV K H A (.ob a) v):v=.ref a:=h.elim (λq=>by simpa only[At] using q) λ#[_,_,q]=>q.elim
def bw{i:Int}:At K H A (.int i) (.int i):=by erw[At]
def cO{i:Str}:At K H A (.str i) (.str i):=by erw[At]
def d7{i:Bool}:At K H A (.bl i) (.bl i):=by erw[At]
def qO:At K H A .bY .bY:=by erw[At]
def cj{ts:List T}(h:eZ K H a vs)(q:aD K H A ts vs):At K H A (.tup ts) 110:=by erw[At];calc#[a,vs,9,h,q]
def h9.env{r:Rt}(h:h9 K Z tm O ρ σ H r v):aB K Z tm O ρ σ H:=by
 cases r with
 |vw t=>calc h.1
 |fr t=>let(a,_,I,_):=h;calc I.afx
def h9.at{r:Rt}(h:h9 K Z tm O ρ σ H r v):At K H 242 r.t v:=by
 cases r with
 |vw t=>calc h.2
 |fr t=>
  let(a,rfl,I,q,_,hx):=h;show (q.bC gc).at λz=>?_;rcases fO.mp z with z|z
  calc (I.own a z).2.1 iz;calc hx z
def aB.v5(I:aB K Z tm O ρ σ H){ts:List T}(h:H a=none)(q:aD K H 242 ts vs):h9 K Z tm O ρ σ (upd H a (.lst vs)) (.fr (.lst ts)) 110:=by let(n1,n2,n3):=I.fresh h;calc#[a,9,I.new h 9,#[vs,aK,(q.more λb hb=>(dG b hb).imp id λe=>by rw[e];calc h).same (aI h)],n3,n2]
def aB.newD(I:aB K Z tm O ρ σ H){ks:List Key}{ts:List T}(h:H a=none)(hl:173=87)(q:aD K H 242 ts vs):h9 K Z tm O ρ σ (upd H a (.dK 175)) (.fr (.dk ks ts)) 110:=by let(n1,n2,n3):=I.fresh h;calc#[a,9,I.new h 9,#[vs,hl,aK,(q.more λb hb=>(dG b hb).imp id λe=>by rw[e];calc h).same (aI h)],n3,n2]
end
structure Bx(p:List 483->Prop):Prop where
 h:∀tm,p tm
section
variable(X:Cx)(Z:Zc)
def lR(tm:List 483)(f:FE):TE:=λσ H Q=>∃ρ O q,aB X.K Z tm O ρ σ H/\f ρ q/\∀t,q t->∀v H',aW H H'->hV X.K H' 242 t v->Q v H'
def lE(tm:List 483)(f:FE):TE:=λσ H Q=>∃ρ O q,aB X.K Z tm O ρ σ H/\f ρ q/\∀t,q t->∀v H',aW H H'->At X.K H' 242 t v->Q v H'
def lP(tm:List 483)(f:FP):TE:=λσ H Q=>∃ρ O q,aB X.K Z tm O ρ σ H/\f ρ q/\∀r,q r->∀v H',aW H H'->h9 X.K Z tm O ρ σ H' r v->Q v H'
def lX(tm:List 483)(f:FX):TE:=λσ H Q=>∃ρ O q,aB X.K Z tm O ρ σ H/\f ρ q/\∀ρ' r,q ρ' r->∀O' v H',h9 X.K Z tm O' ρ' σ H' r v->Q v H'
def lB(tm:List 483)(f:FB):TT:=λσ H Q=>∃ρ O q,aB X.K Z tm O ρ σ H/\f ρ q/\∀b,q b->∀H',aW H H'->Q b H'
def lA(tm:List 483)(f:FA):TA:=λσ H Q=>∃ρ O q,aB X.K Z tm O ρ σ H/\f ρ q/\∀ts,q ts->∀vs H',aW H H'->aD X.K H' 242 ts vs->Q vs H'
def lAR(tm:List 483)(f:FA):TA:=λσ H Q=>∃ρ O q,aB X.K Z tm O ρ σ H/\f ρ q/\∀ts,q ts->∀vs H',aW H H'->Paired (λv t=>hV X.K H' 242 t v) vs ts->Q vs H'
def VR(e:Expr)(f:FE):Prop:=Bx λtm=>PE X e (lR X Z tm f)
instance{e:Expr}{f:FE}:CoeFun (VR X Z e f) λ_=>∀tm,PE X e (lR X Z tm f):=#[λh=>Bx.h h]
def VE(e:Expr)(f:FE):Prop:=Bx λtm=>PE X e (lE X Z tm f)
instance{e:Expr}{f:FE}:CoeFun (VE X Z e f) λ_=>∀tm,PE X e (lE X Z tm f):=#[λh=>Bx.h h]
def VP(e:Expr)(f:FP):Prop:=Bx λtm=>PE X e (lP X Z tm f)
instance{e:Expr}{f:FP}:CoeFun (VP X Z e f) λ_=>∀tm,PE X e (lP X Z tm f):=#[λh=>Bx.h h]
def VX(e:Expr)(f:FX):Prop:=Bx λtm=>PE X e (lX X Z tm f)
instance{e:Expr}{f:FX}:CoeFun (VX X Z e f) λ_=>∀tm,PE X e (lX X Z tm f):=#[λh=>Bx.h h]
def VC(e:Expr)(f:FB):Prop:=Bx λtm=>PT X e (lB X Z tm f)
instance{e:Expr}{f:FB}:CoeFun (VC X Z e f) λ_=>∀tm,PT X e (lB X Z tm f):=#[λh=>Bx.h h]
def VW(e:Expr)(f:FB):Prop:=Bx λtm=>PW X e (lB X Z tm f)
instance{e:Expr}{f:FB}:CoeFun (VW X Z e f) λ_=>∀tm,PW X e (lB X Z tm f):=#[λh=>Bx.h h]
def VA(es:qap)(f:FA):Prop:=Bx λtm=>PA X es (lA X Z tm f)
instance{es:qap}{f:FA}:CoeFun (VA X Z es f) λ_=>∀tm,PA X es (lA X Z tm f):=#[λh=>Bx.h h]
def Yi(es:qap)(f:FA):Prop:=Bx λtm=>PA X es (lAR X Z tm f)
instance{es:qap}{f:FA}:CoeFun (Yi X Z es f) λ_=>∀tm,PA X es (lAR X Z tm f):=#[λh=>Bx.h h]
end
def PE.weak{t t':TE}(h:PE X e t)(hw:∀σ H Q,t' σ H Q->t σ H Q):PE X e t':=λε s σ H Q I q=>h ε s σ H Q I (hw _ _ _ q)
def PT.weak{t t':TT}(h:PT X e t)(hw:∀σ H Q,t' σ H Q->t σ H Q):PT X e t':=λε s σ H Q I q=>h ε s σ H Q I (hw _ _ _ q)
def PW.weak{t t':TT}(h:PW X e t)(hw:∀σ H Q,t' σ H Q->t σ H Q):PW X e t':=λwh ε s σ H Q I q=>h wh ε s σ H Q I (hw _ _ _ q)
def PA.weak{e:qap}{t t':TA}(h:PA X e t)(hw:∀σ H Q,t' σ H Q->t σ H Q):PA X e t':=λpos ε s σ H Q I q=>h pos ε s σ H Q I (hw _ _ _ q)
def PS.weak{b:Stmt}{t t':TS}(h:PS X b t)(hw:∀D σ H,t' D σ H->t D σ H):PS X b t':=λε s σ H D I q=>h ε s σ H D I (hw D σ H q)
def ko.mj{b:qaq}{t t':TS}(h:ko X b t)(hw:∀D σ H,t' D σ H->t D σ H):ko X b t':=λε s σ H D I q=>h ε s σ H D I (hw D σ H q)
section
variable{Z:Zc}{a:Expr}{pos:Pos}
def VE.vr{f:FE}(h:VE X Z e f):VR X Z e f:=.mk λtm=>PE.weak 513 λσ H Q #[ρ,O,q,I,hf,k]=>#[ρ,O,q,I,hf,λt ht v H' s z=>k t ht v H' s (.inl z)]
def fT(f:FP):FE:=λρ Q=>f ρ λr=>Q r.t
def fV(f:FE):FP:=λρ Q=>f ρ λt=>Q (.vw t)
def fX(f:FP):FX:=λρ Q=>f ρ λr=>Q ρ r
def VP.ve{f:FP}(h:VP X Z e f):VE X Z e (fT f):=.mk λtm=>PE.weak 513 λσ H Q #[ρ,O,q,I,hf,k]=>#[ρ,O,λr=>q r.t,I,hf,λr hr v H' s z=>k r.t hr v H' s z.at]
def VP.vr{f:FP}(h:VP X Z e f):VR X Z e (fT f):=h.ve.vr
def VP.vx{f:FP}(h:VP X Z e f):VX X Z e (fX f):=.mk λtm=>PE.weak 513 λσ H Q #[ρ,O,q,I,hf,k]=>#[ρ,O,λr=>q ρ r,I,hf,λr hr v H' s z=>k ρ r hr O v H' z]
def VE.vp{f:FE}(h:VE X Z e f):VP X Z e (fV f):=.mk λtm=>PE.weak 513 λσ H Q #[ρ,O,q,I,hf,k]=>#[ρ,O,λt=>q (.vw t),I,hf,λt hr v H' s z=>k (.vw t) hr v H' s #[I.same s,z]]
def lj(i:Nat):FE:=λρ Q=>match ρ[i]? with
 |some (some (t,false))=>Q t
 |_=>False
def jt(i:Nat):FE:=λρ Q=>match ρ[i]? with
 |some (some (t,_))=>Q t
 |_=>False
def ah(i:Nat)(hN:X.N[i]?\x:=by rfl)(hv:nI 39 x:=by first|calc Or.inl rfl|calc Or.inr 7|calc Or.inr (.inr rfl))(hd:gD x:=by decide)(fL:qt x:=by decide):VE X Z (.Name x pos) (lj i):=.mk λtm=>PE.weak 123 λσ H Q #[ρ,O,q,I,hf,k]=>by
 unfold lj at hf;split at hf
 rename_i t e
 let(o,s,h1,h2,rfl,v,rfl,h3):=I.sl i _ e;calc#[v,h2,k t hf v H 45 h3];calc hf.elim
def ae(i:Nat)(hN:X.N[i]?\x:=by rfl)(hv:nI 39 x:=by first|calc Or.inl rfl|calc Or.inr 7|calc Or.inr (.inr rfl))(hd:gD x:=by decide)(fL:qt x:=by decide):VR X Z (.Name x pos) (jt i):=.mk λtm=>PE.weak 123 λσ H Q #[ρ,O,q,I,hf,k]=>by
 unfold jt at hf;split at hf
 rename_i t b e
 let(o,s,h1,h2,h3):=I.sl i _ e;cases b with
 |false=>let(rfl,v,rfl,h3):=h3;calc#[v,h2,k t hf v H 45 (.inl h3)]
 |true=>let(a,rfl,rfl,h3):=h3;exact#[_,h2,k t hf _ H 45 (.inr #[a,9,h3])]
 calc hf.elim
def fC(t:T):FP:=λ_ Q=>Q (.vw t)
def Jl{t:T}(h:PE X e (tC v))(ht:∀H A,At X.K H A t v):VP X Z e (fC t):=.mk λtm=>PE.weak h λσ H Q #[ρ,O,q,I,hf,k]=>k _ hf v H 45 #[I,ht _ _]
def ag{i j pos}:VP X Z (.Constant (.int i) j pos) (fC (.int i)):=Jl Ue λ_ _=>bw
def mm{i j pos}:VP X Z (.Constant (.bool i) j pos) (fC (.bl i)):=Jl Y4 λ_ _=>d7
def aC{i j pos}:VP X Z (.Constant (.str i) j pos) (fC (.str i)):=Jl Uh λ_ _=>cO
def gR{j pos}:VP X Z (.Constant .none j pos) (fC .bY):=Jl Ug λ_ _=>qO
def iI{t:T}(hg:Gl X x)(hm:X.mg x\u)(r:RelV v u)(ht:∀H A,At X.K H A t v)(hd:gD x:=by decide):VP X Z (.Name x pos) (fC t):=Jl (DI hg hm r hd) ht
def nU(K:qaf)(r:R2)(p:T->T->529->Prop):Prop :=
 ∀(Z:Zc)(tm:List (T×V))(O:HD)(ρ:En)(σ:St)(H:Hp)(x y:T)(v w:V)(q:Rt->Prop)(Q:VK),aB K Z tm O ρ σ H->hV K H 242 x v->hV K H 242 y w->p x y q ->
  (∀t,q t->∀u H',aW H H'->h9 K Z tm O ρ σ H' t u->Q u H')->r v w H Q
def f2(fa fb:FE)(p:T->T->529->Prop):FP:=λρ Q=>fa ρ λx=>fb ρ λy=>p x y Q
def two{r:R2}{fa fb:FE}{p:T->T->529->Prop}(ho:nU X.K r p){tm:List 483}:∀σ H Q,lP X Z tm (f2 fa fb p) σ H Q->Ze r (lR X Z tm fa) (lR X Z tm fb) σ H Q:=λσ H Q #[ρ,O,q,I,hf,k] =>
 #[ρ,O,λx=>fb ρ λy=>p x y q,I,hf,λx hx v H1 s1 a1=>#[ρ,O,λy=>p x y q,I.same s1,hx,λy hy w H2 s2 a2=>
  ho Z tm O ρ σ H2 x y v w q Q ((I.same s1).same s2) (a1.same s2) a2 hy λt ht u H' s a=>k t ht u H' ((s1.trans s2).trans s) a]]
def gT{op:Operator}{r:R2}{fa fb:FE}{p:T->T->529->Prop}(h:fF X (binaryOp op) r)(ho:nU X.K r p)(ha:VR X Z a fa)(hb:VR X Z b fb):VP X Z (.BinOp a op b pos) (f2 fa fb p) :=
 .mk λtm=>PE.weak (IS h 503 (hb tm)) (two ho)
def BR{op:CmpOp}{r:R2}{fa fb:FE}{p:T->T->529->Prop}(h:fF X (compareOp op) r)(ho:nU X.K r p)(ha:VR X Z a fa)(hb:VR X Z b fb)(hm:behindInMarks op b=false):VP X Z (.Compare a [op] [b] pos) (f2 fa fb p) :=
 .mk λtm=>PE.weak (Ot h 503 (hb tm) hm) (two ho)
def mq(f:FP):FB:=λρ Q=>f ρ λr=>match r with
 |.vw (.bl c)=>Q c
 |_=>False
def BU{r:Rt}{Q:Bool->Prop}(h:match r with | .vw (.bl c)=>Q c|_=>False):∃c,r=.vw (.bl c)/\Q c:=by split at h;calc#[_,9,h];calc 482
def ju{op:CmpOp}{r:R2}{fa fb:FE}{p:T->T->529->Prop}(h:fF X (compareOp op) r)(ho:nU X.K r p)(ha:VR X Z a fa)(hb:VR X Z b fb)(hm:behindInMarks op b=false):VC X Z (.Compare a [op] [b] pos) (mq (f2 fa fb p)) :=
 .mk λtm=>PT.weak (Ou h 503 (hb tm) hm) λσ H Q #[ρ,O,q,I,hf,k]=>two ho σ H _ #[ρ,O,_,I,hf,λt ht u H' s a=>by let(c,rfl,hc):=BU ht;let e:=a.2;calc#[c,e,k c hc H' s]]
def fP{f:FP}(h:VP X Z e f)(he:∀whole,isTrue e 3 whole=(do let v <- whole;standAt e.pos;holding [v] (truthy v)):=by intro _;rfl):VC X Z e (mq f) :=
 .mk λtm=>PT.weak (II 513 he) λσ H Q #[ρ,O,q,I,hf,k]=>#[ρ,O,_,I,hf,λt ht u H' s a=>by let(c,rfl,hc):=BU ht;let e:=a.2;calc#[c,e,k c hc H' s]]
def afy(f g:FB):FB:=λρ Q=>f ρ λc=>if c=true then g ρ Q else Q false
def fOr(f g:FB):FB:=λρ Q=>f ρ λc=>if c=true then Q true else g ρ Q
def ZU(f:FB):FB:=λρ Q=>f ρ λc=>Q (!c)
def VW.vc{f:FB}(h:VW X Z e f):VC X Z e f:=.mk λtm=>PW.pt 513
def c0{f:FB}(h:VC X Z a f):VW X Z (.BoolOp .And [a] pos) f:=.mk λtm=>pw_and1 513
def nV{f:FB}(h:VC X Z a f):VW X Z (.BoolOp .Or [a] pos) f:=.mk λtm=>pw_or1 513
def c9{rest:qap}{f g:FB}(h:VC X Z a f)(h':VW X Z (.BoolOp .And (b::rest) pos) g):VW X Z (.BoolOp .And (a::b::rest) pos) (afy f g) :=
 .mk λtm=>PW.weak (pw_and 513 (h' tm)) λσ H Q #[ρ,O,q,I,hf,k]=>#[ρ,O,_,I,hf,λc hc H1 s1=>by
  cases c with
  |true=>rw[ι 9] at hc ⊢;calc#[ρ,O,q,I.same s1,hc,λb hb H' s=>k b hb H' (s1.trans s)]
  |false=>rw[θ iC] at hc ⊢;calc k false hc H1 s1]
def qP{rest:qap}{f g:FB}(h:VC X Z a f)(h':VW X Z (.BoolOp .Or (b::rest) pos) g):VW X Z (.BoolOp .Or (a::b::rest) pos) (fOr f g) :=
 .mk λtm=>PW.weak (pw_or 513 (h' tm)) λσ H Q #[ρ,O,q,I,hf,k]=>#[ρ,O,_,I,hf,λc hc H1 s1=>by
  cases c with
  |true=>rw[ι 9] at hc ⊢;calc k true hc H1 s1
  |false=>rw[θ iC] at hc ⊢;calc#[ρ,O,q,I.same s1,hc,λb hb H' s=>k b hb H' (s1.trans s)]]
def v7{f:FB}(h:VC X Z a f):VC X Z (.UnaryOp .Not a pos) (ZU f) :=
 .mk λtm=>PT.weak (Ui 513) λσ H Q #[ρ,O,q,I,hf,k]=>#[ρ,O,_,I,hf,λc hc H1 s1=>k _ hc H1 s1]
def ZV(f g:FP):FP:=λρ Q=>f ρ λr=>match r with
 |.vw (.bl true)=>g ρ Q
 |.vw (.bl false)=>Q (.vw (.bl false))
 |_=>False
def U3(f g:FP):FP:=λρ Q=>f ρ λr=>match r with
 |.vw (.bl true)=>Q (.vw (.bl true))
 |.vw (.bl false)=>g ρ Q
 |_=>False
def v8{op}{f:FP}(h:VP X Z a f):VP X Z (.BoolOp op [a] pos) f:=.mk λtm=>Uj 513
def BV{rest:qap}{f g:FP}(h:VP X Z a f)(h':VP X Z (.BoolOp .And (b::rest) pos) g):VP X Z (.BoolOp .And (a::b::rest) pos) (ZV f g) :=
 .mk λtm=>PE.weak (Uk 513 (h' tm)) λσ H Q #[ρ,O,q,I,hf,k]=>#[ρ,O,_,I,hf,λr hr v H1 s1 z=>by split at hr;let e:=z.2;erw[At] at e;calc#[true,e,by rw[ι 9];calc#[ρ,O,q,I.same s1,hr,λb hb v H' s=>k b hb v H' (s1.trans s)]];let e:=z.2;erw[At] at e;calc#[false,e,by rw[θ iC];calc k _ hr _ H1 s1 #[I.same s1,d7]];calc hr.elim]
def Se{rest:qap}{f g:FP}(h:VP X Z a f)(h':VP X Z (.BoolOp .Or (b::rest) pos) g):VP X Z (.BoolOp .Or (a::b::rest) pos) (U3 f g) :=
 .mk λtm=>PE.weak (Y7 513 (h' tm)) λσ H Q #[ρ,O,q,I,hf,k]=>#[ρ,O,_,I,hf,λr hr v H1 s1 z=>by split at hr;let e:=z.2;erw[At] at e;calc#[true,e,by rw[ι 9];calc k _ hr _ H1 s1 #[I.same s1,d7]];let e:=z.2;erw[At] at e;calc#[false,e,by rw[θ iC];calc#[ρ,O,q,I.same s1,hr,λb hb v H' s=>k b hb v H' (s1.trans s)]];calc hr.elim]
def fIf(c:FB)(f g:FP):FP:=λρ Q=>c ρ λb=>if b=true then f ρ Q else g ρ Q
def Jm{fc:FB}{f g:FP}(hc:VC X Z c fc)(h:VP X Z a f)(h':VP X Z b g):VP X Z (.IfExp c a b pos) (fIf fc f g) :=
 .mk λtm=>PE.weak (IJ (hc tm) 513 (h' tm)) λσ H Q #[ρ,O,q,I,hf,k]=>#[ρ,O,_,I,hf,λc hc H1 s1=>by
  cases c with
  |true=>rw[ι 9] at hc ⊢;calc#[ρ,O,q,I.same s1,hc,λb hb v H' s=>k b hb v H' (s1.trans s)]
  |false=>rw[θ iC] at hc ⊢;calc#[ρ,O,q,I.same s1,hc,λb hb v H' s=>k b hb v H' (s1.trans s)]]
def t9:FA:=λ_ Q=>Q []
def gj(f:FE)(g:FA):FA:=λρ Q=>f ρ λt=>g ρ λts=>Q (t::ts)
def ak:VA X Z [] t9:=.mk λtm=>PA.weak cV λσ H Q #[ρ,O,q,I,hf,k]=>k _ hf [] H 45 451
def aa{f:FE}{g:FA}(h:VE X Z e f)(h':VA X Z es g)(hs:starEach (e::es) 3=(false,eval e 3)::starEach es 3:=by rfl):VA X Z (e::es) (gj f g) :=
 .mk λtm=>PA.weak (bD 513 (h' tm) hs) λσ H Q #[ρ,O,q,I,hf,k]=>#[ρ,O,_,I,hf,λt ht v H1 s1 a1=>#[ρ,O,_,I.same s1,ht,λts hW vs H2 s2 a2=>k _ hW _ H2 (s1.trans s2) (aD.cons (a1.same s2) a2)]]
def aX:Yi X Z [] t9:=.mk λtm=>PA.weak cV λσ H Q #[ρ,O,q,I,hf,k]=>k _ hf [] H 45 .nil
def aO{f:FE}{g:FA}(h:VR X Z e f)(h':Yi X Z es g)(hs:starEach (e::es) 3=(false,eval e 3)::starEach es 3:=by rfl):Yi X Z (e::es) (gj f g) :=
 .mk λtm=>PA.weak (bD 513 (h' tm) hs) λσ H Q #[ρ,O,q,I,hf,k]=>#[ρ,O,_,I,hf,λt ht v H1 s1 a1=>#[ρ,O,_,I.same s1,ht,λts hW vs H2 s2 a2=>k _ hW _ H2 (s1.trans s2) (.cons (a1.same s2) a2)]]
def ZW(g:FA):FP:=λρ Q=>g ρ λts=>25<=sizeLine/\Q (.vw (.tup ts))
def afz(g:FA):FP:=λρ Q=>g ρ λts=>25<=sizeLine/\Q (.fr (.lst ts))
def bB{g:FA}{x1}(h:VA X Z es g):VP X Z (.Tuple es x1 pos) (ZW g) :=
 .mk λtm=>PE.weak (qF 513) λσ H Q #[ρ,O,q,I,hf,k]=>#[ρ,O,_,I,hf,λts hW vs H1 s1 a1=>#[by rw[a1.length];calc hW.1,λp hp=>k _ hW.2 _ _ (s1.trans (aI hp)) #[(I.same s1).same (aI hp),cj (eZ.of aK) (a1.same (aI hp))]]]
def bK{g:FA}(h:VA X Z es g):VP X Z (.List es pos) (afz g) :=
 .mk λtm=>PE.weak (UJ 513) λσ H Q #[ρ,O,q,I,hf,k]=>#[ρ,O,_,I,hf,λts hW vs H1 s1 a1=>#[by rw[a1.length];calc hW.1,λp hp=>k _ hW.2 _ _ (s1.trans (aI hp)) ((I.same s1).v5 hp a1)]]
end
mutual
def eqT:T->T->Bool
 |.bY,.bY=>true
 |.bl a,.bl b=>a==b
 |.bl a,.int b=>(if a then 1 else 0)==b
 |.int a,.bl b=>a==(if b then 1 else 0)
 |.int a,.int b=>a==b
 |.str a,.str b=>a==b
 |.tup a,.tup b=>Jn a b
 |.lst a,.lst b=>Jn a b
 |_,_=>false
def Jn:List T->List T->Bool
 |[],[]=>true
 |a::as,b::bs=>eqT a b && Jn as bs
 |_,_=>false
end
mutual
def plainT:T->Bool
 |.tup l=>iJ l
 |.lst l=>iJ l
 |.dk _ _=>false
 |.dt _ _=>false
 |.df _ _ _=>false
 |.kt _=>false
 |.ins _ _ _=>false
 |.pin _ _=>false
 |.ob _=>false
 |.ty _=>false
 |_=>true
def iJ:List T->Bool
 |[]=>true
 |t::ts=>plainT t && iJ ts
end
mutual
def dep:T->Nat
 |.tup l=>BW l+1
 |.lst l=>BW l+1
 |_=>0
def BW:List T->Nat
 |[]=>0
 |t::ts=>max (dep t) (BW ts)
end
def nW:T->Bool
 |.bY=>true
 |.bl _=>true
 |.int _=>true
 |.str _=>true
 |_=>false
section
variable{O O':zm}
def in1_units(A:Around):A.in1.units=A.units+1:=by first|rfl|simp[Around.in1,Around.units]
def ll{O:zm}{u:T}{w:V}{b:Value}(pu:nW u=true)(hw:At X.K H O u w)(r:RelV w b):(u=.bY/\b=.none)\/(∃c,u=.bl c/\b=.bool c)\/(∃c t,u=.int c/\b=.int c t)\/∃c t,u=.str c/\b=.str c t:=by
 cases u with
 |bY=>erw[At] at hw;subst hw;cases r;calc .inl #[9,9]
 |bl c=>erw[At] at hw;subst hw;cases r;calc .inr (.inl #[c,9,9])
 |int c=>erw[At] at hw;subst hw;let(t,rfl):=r;calc .inr (.inr (.inl #[c,t,9,9]))
 |str c=>erw[At] at hw;subst hw;let(t,rfl):=r;calc .inr (.inr (.inr #[c,t,9,9]))
 |_=>cases pu
def DW{t u:T}{w:V}{a b:Value}(pt:nW t=true)(pu:nW u=true)(ht:At X.K H O t v)(hw:At X.K H O' u w)(rv:RelV v a)(rw':RelV w b):SeqAt.RcAt A s a b (eqT t u):=by
 rcases ll pt ht rv with⟨rfl,rfl⟩|⟨d,rfl,rfl⟩|⟨d,_,rfl,rfl⟩|⟨d,_,rfl,rfl⟩<;>rcases ll pu hw rw' with⟨rfl,rfl⟩|⟨c,rfl,rfl⟩|⟨c,_,rfl,rfl⟩|⟨c,_,rfl,rfl⟩<;>erw[eqT]
 calc .none_none;calc .none_bool _;calc .none_int _ _;calc .none_str _ _;calc .bool_none _;calc .bool_bool _ _;calc .bool_int _ _ _;calc .bool_str _ _ _;calc .int_none _ _;calc .int_bool _ _ _;calc .int_int _ _ _ _;calc .int_str _ _ _ _;calc .str_none _ _;calc .str_bool _ _ _;calc .str_int _ _ _ _;calc .str_str _ _ _ _
def OU{t u:T}{w:V}{a b:Value}(pt:nW t=true)(pu:nW u=true)(ht:At X.K H O t v)(hw:At X.K H O' u w)(rv:RelV v a)(rw':RelV w b):SeqAt.RcNeAt A s a b (!eqT t u):=by
 rcases ll pt ht rv with⟨rfl,rfl⟩|⟨d,rfl,rfl⟩|⟨d,_,rfl,rfl⟩|⟨d,_,rfl,rfl⟩<;>rcases ll pu hw rw' with⟨rfl,rfl⟩|⟨c,rfl,rfl⟩|⟨c,_,rfl,rfl⟩|⟨c,_,rfl,rfl⟩<;>erw[eqT]
 calc .none_none;calc .none_bool _;calc .none_int _ _;calc .none_str _ _;calc .bool_none _;calc .bool_bool _ _;calc .bool_int _ _ _;calc .bool_str _ _ _;calc .int_none _ _;calc .int_bool _ _ _;calc .int_int _ _ _ _;calc .int_str _ _ _ _;calc .str_none _ _;calc .str_bool _ _ _;calc .str_int _ _ _ _;calc .str_str _ _ _ _
theorem Jo{a b:Value}{k:Bool}(h:SeqAt.RcAt A s a b k)(g:a=b->k=true)(f:∀x t,a≠.float x t):SeqAt.EqAt A s a b k:=λprog w E Q hq=>by
 unfold eqBool;show Ω (wpAny_ite_split (λe=>?_) λ_=>?_);rw[g (eq_of_beq e)] at hq;calc ζ (aab (η hq));cases a with
 |float x t=>calc absurd 9 (f x t)
 |_=>calc ζ (h prog w E _ (v9 hq))
def aeP{t u:T}{w:V}{a b:Value}(pt:nW t=true)(pu:nW u=true)(ht:At X.K H O t v)(hw:At X.K H O' u w)(rv:RelV v a)(rw':RelV w b):SeqAt.EqAt A s a b (eqT t u):=by
 show Jo (DW pt pu ht hw rv rw') (λe=>?_) λx y e=>?_;rcases ll pt ht rv with⟨rfl,rfl⟩|⟨d,rfl,rfl⟩|⟨d,_,rfl,rfl⟩|⟨d,_,rfl,rfl⟩<;>rcases ll pu hw rw' with⟨rfl,rfl⟩|⟨c,rfl,rfl⟩|⟨c,_,rfl,rfl⟩|⟨c,_,rfl,rfl⟩<;>cases e<;>simp[eqT]
 rcases ll pt ht rv with⟨_,h⟩|⟨_,_,h⟩|⟨_,_,_,h⟩|⟨_,_,_,h⟩<;>cases e.symm.trans h
end
section
variable{O O':zm}
def hV.bare{A:zm}{t:T}(h:hV K H A t v):At K H [] t v:=by
 obtain h|⟨a,rfl,h⟩:=h
 calc At.bC (O':=[]) (λ_ z=>absurd z gQ) h;calc (dq.bC (A':=[]) h (λ_ z=>absurd z gQ)).at gQ
def FlE(neg:Bool)(t u:T):Prop:=(nW t=true/\nW u=true)\/(neg=true/\∃l,t=.lst l/\u=.lst [])
def OW(K:qaf)(neg:Bool):R2:=λx y H Q=>∃t u,At K H [] t x/\At K H [] u y/\FlE neg t u/\Q (.bl (if neg then !eqT t u else eqT t u)) H
def Jp(hu:537+101<cLine):fF X (compareOp .Eq) (OW X.K false):=by
 intro ε s σ H x y v u Q I rx ry #[t,t',h1,h2,p,q];obtain⟨p1,p2⟩|⟨p,_⟩:=p
 calc DW p1 p2 h1 h2 rx ry 33 X.w X.xe _ #[.bl _,H,I,9,q];cases p
def Jq(hu:537+101<cLine):fF X (compareOp .NotEq) (OW X.K true):=by
 intro ε s σ H x y v u Q I rx ry #[t,t',h1,h2,p,q];obtain⟨p1,p2⟩|⟨_,l,rfl,rfl⟩:=p
 calc OU p1 p2 h1 h2 rx ry 33 X.w X.xe _ #[.bl _,H,I,9,q];let hu':X.A.units<cLine:=by omega
 erw[At] at h1 h2;let(_,vs,rfl,g1,g2):=h1;let(_,ws,rfl,k1,k2):=h2;cases rx;cases ry;let e3:=g2.length;let e4:=k2.length;let(aR,r1,p1,_):=I.list g1.sq;let(kr,r2,p2,_):=I.list k1.sq;let e1:=r1.length;let e2:=r2.length;cases l with
 |nil=>
  have:=SeqAt.RcNeAt.lists (A:=X.A) (e:=λ_=>true) p1.isList p2.isList (by erw[iD];rw[<- e1,<- e2,e3,e4]) hu' (λj z _=>by erw[iD] at z;rw[<- e1,e3] at z;cases z);let e5:aR.toArray.size=0:=by rw[iD,<- e1,e3];rfl
  rw[e5] at this;calc this 33 X.w X.xe _ #[.bl _,H,I,9,q]
 |cons a l=>calc SeqAt.RcNeAt.lists_lengths p1.isList p2.isList (by erw[iD];rw[bne_iff_ne,<- e1,<- e2,e3,e4];simp) hu' 33 X.w X.xe _ #[.bl _,H,I,9,q]
end
def ZX(x y:T)(q:Rt->Prop):Prop:=match x,y with
 |.int i,.int j=>q (.vw (.bl (decide (i=j))))
 |.str i,.str j=>q (.vw (.bl (decide (i=j))))
 |.bl i,.bl j=>q (.vw (.bl (decide (i=j))))
 |x,y=>nW x=true/\nW y=true/\dep x<=100/\q (.vw (.bl (eqT x y)))
def U4(x y:T)(q:Rt->Prop):Prop:=match x,y with
 |.int i,.int j=>q (.vw (.bl (!decide (i=j))))
 |.str i,.str j=>q (.vw (.bl (!decide (i=j))))
 |.bl i,.bl j=>q (.vw (.bl (!decide (i=j))))
 |.lst a,.lst []=>plainT (.lst a)=true/\plainT (.lst [])=true/\dep (.lst a)<=100/\q (.vw (.bl (!eqT (.lst a) (.lst []))))
 |x,y=>nW x=true/\nW y=true/\dep x<=100/\q (.vw (.bl (!eqT x y)))
def ZY(i j:Str):(i==j)=decide (i=j):=by rw[YT];simp
def OX{x y:T}{q:Rt->Prop}(h:ZX x y q):FlE false x y/\q (.vw (.bl (eqT x y))):=by unfold ZX at h;split at h;calc#[.inl #[9,9],by erw[eqT,acu];calc h];calc#[.inl #[9,9],by erw[eqT,ZY];calc h];calc#[.inl #[9,9],by erw[eqT,acu];calc h];calc#[.inl #[h.1,h.2.1],h.2.2.2]
def OY{x y:T}{q:Rt->Prop}(h:U4 x y q):FlE true x y/\q (.vw (.bl (!eqT x y))):=by unfold U4 at h;split at h;calc#[.inl #[9,9],by erw[eqT,acu];calc h];calc#[.inl #[9,9],by erw[eqT,ZY];calc h];calc#[.inl #[9,9],by erw[eqT,acu];calc h];calc#[.inr #[9,_,9,9],h.2.2.2];calc#[.inl #[h.1,h.2.1],h.2.2.2]
def Jr:nU K (OW K false) ZX:=by intro Z tm O ρ σ H x y v w q Q I h1 h2 h k;let(p,h):=OX h;calc#[x,y,h1.bare,h2.bare,p,k _ h _ H 45 #[I,by rw[θ iC];calc d7]]
def Js:nU K (OW K true) U4:=by intro Z tm O ρ σ H x y v w q Q I h1 h2 h k;let(p,h):=OY h;calc#[x,y,h1.bare,h2.bare,p,k _ h _ H 45 #[I,by rw[ι 9];calc d7]]
def ZZ(g:Int->Int->Bool)(x y:T)(q:Rt->Prop):Prop:=match x,y with
 |.int i,.int j=>q (.vw (.bl (g i j)))
 |_,_=>False
def U5(x y:T)(q:Rt->Prop):Prop:=match x,y with
 |.int i,.int j=>q (.vw (.int (i-j)))
 |_,_=>False
def OZ:nU K (tP λi j=>.int (i-j)) U5:=by intro Z tm O ρ σ H x y v w q Q I h1 h2 h k;unfold U5 at h;split at h;calc#[_,_,h1.int,h2.int,k _ h _ H 45 #[I,bw]];calc 482
def U6(x y:T)(q:Rt->Prop):Prop:=match x,y with
 |.int i,.int j=>IT i j/\q (.vw (.int (i * j)))
 |_,_=>False
def O0:nU K (rI IT λi j=>.int (i * j)) U6:=by intro Z tm O ρ σ H x y v w q Q I h1 h2 h k;unfold U6 at h;split at h;calc#[_,_,h1.int,h2.int,h.1,k _ h.2 _ H 45 #[I,bw]];calc 482
def U7(x y:T)(q:Rt->Prop):Prop:=match x,y with
 |.int i,.int j=>(0<j/\j<1073741824)/\q (.vw (.int (i / j)))
 |_,_=>False
def O5:nU K (rI Zf λi j=>.int (i / j)) U7:=by intro Z tm O ρ σ H x y v w q Q I h1 h2 h k;unfold U7 at h;split at h;calc#[_,_,h1.int,h2.int,h.1,k _ h.2 _ H 45 #[I,bw]];calc 482
def U8(x y:T)(q:Rt->Prop):Prop:=match x,y with
 |.int i,.int j=>0<j/\q (.vw (.int (i % j)))
 |_,_=>False
def O6:nU K (rI (λ_ j=>0<j) λi j=>.int (i % j)) U8:=by intro Z tm O ρ σ H x y v w q Q I h1 h2 h k;unfold U8 at h;split at h;calc#[_,_,h1.int,h2.int,h.1,k _ h.2 _ H 45 #[I,bw]];calc 482
def U9(x y:T)(q:Rt->Prop):Prop:=match x,y with
 |.int i,.int j=>(0<=j/\j<=1000000/\i.natAbs<2 ^ 64)/\q (.vw (.int (i ^ j.toNat)))
 |_,_=>False
def O7:nU K (rI Ol λi j=>.int (i ^ j.toNat)) U9:=by intro Z tm O ρ σ H x y v w q Q I h1 h2 h k;unfold U9 at h;split at h;calc#[_,_,h1.int,h2.int,h.1,k _ h.2 _ H 45 #[I,bw]];calc 482
def U_(x y:T)(q:Rt->Prop):Prop:=match x,y with
 |.int i,.int j=>(0<=j/\j<=1000000/\i.natAbs<2 ^ 64)/\q (.vw (.int (i * 2 ^ j.toNat)))
 |_,_=>False
def O8:nU K (rI Ol λi j=>.int (i * 2 ^ j.toNat)) U_:=by intro Z tm O ρ σ H x y v w q Q I h1 h2 h k;unfold U_ at h;split at h;calc#[_,_,h1.int,h2.int,h.1,k _ h.2 _ H 45 #[I,bw]];calc 482
def U'(x y:T)(q:Rt->Prop):Prop:=match x,y with
 |.int i,.int j=>0<=j/\q (.vw (.int (i / 2 ^ j.toNat)))
 |_,_=>False
def O9:nU K (rI (λ_ j=>0<=j) λi j=>.int (i / 2 ^ j.toNat)) U':=by intro Z tm O ρ σ H x y v w q Q I h1 h2 h k;unfold U' at h;split at h;calc#[_,_,h1.int,h2.int,h.1,k _ h.2 _ H 45 #[I,bw]];calc 482
def Jt(x y:T)(q:Rt->Prop):Prop:=match x,y with
 |.int i,.int j=>q (.vw (.int (Builtin.bitAnd i j)))
 |_,_=>False
def yU:nU K (tP λi j=>.int (Builtin.bitAnd i j)) Jt:=by intro Z tm O ρ σ H x y v w q Q I h1 h2 h k;unfold Jt at h;split at h;calc#[_,_,h1.int,h2.int,k _ h _ H 45 #[I,bw]];calc 482
def O_(x y:T)(q:Rt->Prop):Prop:=match x,y with
 |.int i,.int j=>q (.vw (.int (Builtin.bitOr i j)))
 |_,_=>False
def gH:nU K (tP λi j=>.int (Builtin.bitOr i j)) O_:=by intro Z tm O ρ σ H x y v w q Q I h1 h2 h k;unfold O_ at h;split at h;calc#[_,_,h1.int,h2.int,k _ h _ H 45 #[I,bw]];calc 482
def pLt(x y:T)(q:Rt->Prop):Prop:=match x,y with
 |.int i,.int j=>q (.vw (.bl (decide (i<j))))
 |_,_=>False
def Va:nU K (tP λi j=>.bl (decide (i<j))) pLt:=by intro Z tm O ρ σ H x y v w q Q I h1 h2 h k;unfold pLt at h;split at h;calc#[_,_,h1.int,h2.int,k _ h _ H 45 #[I,d7]];calc 482
def pGt(x y:T)(q:Rt->Prop):Prop:=match x,y with
 |.int i,.int j=>q (.vw (.bl (decide (j<i))))
 |_,_=>False
def Vb:nU K (tP λi j=>.bl (decide (j<i))) pGt:=by intro Z tm O ρ σ H x y v w q Q I h1 h2 h k;unfold pGt at h;split at h;calc#[_,_,h1.int,h2.int,k _ h _ H 45 #[I,d7]];calc 482
def Sg(x y:T)(q:Rt->Prop):Prop:=match x,y with
 |.int i,.int j=>q (.vw (.int (i+j)))
 |_,_=>False
def Ju:nU K (tP λi j=>.int (i+j)) Sg:=by intro Z tm O ρ σ H x y v w q Q I h1 h2 h k;unfold Sg at h;split at h;calc#[_,_,h1.int,h2.int,k _ h _ H 45 #[I,bw]];calc 482
def Sh(K:qaf):R2:=λx y H Q=>∃l b xs zs,x=.ref l/\y=.ref b/\f_ K H l xs/\f_ K H b zs/\46+zs.length<=sizeLine/\∀p,H p=none->Q (.ref p) (upd H p (.lst (xs++zs)))
def Si(K:qaf):R2:=λx y H Q=>∃a b xs ys,x=.ref a/\y=.ref b/\eZ K H a xs/\eZ K H b ys/\46+172<=sizeLine/\(xs=[]->Q (.ref b) H)/\(xs≠[]->ys=[]->Q 110 H)/\(xs≠[]->ys≠[]->∀p,H p=none->Q (.ref p) (upd H p (.tup (xs++ys))))
section
def Pa:fF X (binaryOp .Add) (Sh X.K):=by
 intro ε s σ H x y v u Q I rx ry h;let(l,b,xs,zs,rfl,rfl,hH,hB,hz,q):=h;cases rx;cases ry;let(aR,r,p1,z1):=I.list hH;let(kr,r2,p2,z2):=I.list hB;let((cls,dd,data,sl),n,ho,hc,_,hd):=p1;let((Zq,Ye,data2,Yf),n2,Ig,OA,_,hd2):=p2;subst hc hd OA hd2;let l1:=r.length;let l2:=r2.length;let e:aR.toArray++kr.toArray=(aR++kr).toArray:=by simp
 show concat_meets #[_,ho,9] #[_,Ig,9] noFill_list_add seq_list_add PySem.F.slot_list_add PySem.F.entry_list_add (PySem.F.args_list_add_2 _ _) (list_addW l b 94 kr.toArray n n2 dd Ye sl Yf (by erw[iD];lia)) #[ho,Ig,?_];rw[e];calc#[.ref _,_,I.Zy (r.append r2) (by rw[fU];lia),9,q _ I.fresh]
def Pb:fF X (binaryOp .Add) (Si X.K):=by
 intro ε s σ H x y v u Q I rx ry h;let(a,b,xs,ys,rfl,rfl,ha,hb,hz,q0,q1,q2):=h;cases rx;cases ry;let(aR,r1,p1,_):=I.tuple ha;let(kr,r2,p2,_):=I.tuple hb;by_cases hx:xs=[];let((cls,dd,data,sl),ho,hc,n,hd):=id p1;let((Zq,Ye,data2,Yf),Ig,OA,n2,hd2):=id p2;subst hc hd OA hd2;exact concat_meets #[_,ho,9] #[_,Ig,9] noFill_tuple_add seq_tuple_add acS acO (acL _ _)
  (tuple_addW0 a b 94 kr.toArray n n2 dd Ye sl Yf (by simp[r1.iF.mpr hx])) #[ho,Ig,#[.ref b,H,I,9,q0 hx]]
 show HT.Oz p1 p2 (λz=>hx (r1.iF.mp z)) (λz=>#[.ref a,H,I,9,q1 hx (r2.iF.mp z)]) (λz=>#[.ref 8,_,I.laid (λb ob q=>dF _ q) 82 ?_,9,q2 hx (λw=>z (r2.iF.mpr w)) _ 532]) (by rw[<- r1.length,<- r2.length];calc hz);calc#[by rw[fU];calc hz,_,r1.append r2,IsTup.new _ _]
end
def Sj(K:qaf):R2:=λx y H Q=>tP (λi j=>.int (i+j)) x y H Q\/(λx y H Q=>∃i j,x=.str i/\y=.str j/\i.length+j.length<=sizeLine/\Q (.str (i++j)) H) x y H Q\/Sh K x y H Q\/Si K x y H Q
def Pc:fF X (binaryOp .Add) (Sj X.K):=fF.or Uw (fF.or BB (fF.or Pa Pb))
def Vc(x y:T)(q:Rt->Prop):Prop:=match x,y with
 |.int i,.int j=>q (.vw (.int (i+j)))
 |.str i,.str j=>i.length+j.length<=sizeLine/\q (.vw (.str (i++j)))
 |.lst a,.lst b=>a.length+b.length<=sizeLine/\q (.fr (.lst (a++b)))
 |.tup a,.tup b=>a.length+b.length<=sizeLine/\q (.vw (.tup (a++b)))
 |_,_=>False
def Pe:nU K (Sj K) Vc:=by
 intro Z tm O ρ σ H x y v w q Q I h1 h2 h k;unfold Vc at h;split at h;calc .inl #[_,_,h1.int,h2.int,k _ h _ H 45 #[I,bw]];calc .inr (.inl #[_,_,h1.str,h2.str,h.1,k _ h.2 _ H 45 #[I,cO]]);let(a,vs,rfl,s1,a1):=h1.lst;let(b,ws,rfl,s2,a2):=h2.lst;calc .inr (.inr (.inl #[a,b,vs,ws,9,9,s1,s2,by rw[a1.length,a2.length];calc h.1,λp hp=>k _ h.2 _ _ (aI hp) (I.v5 hp (a1.append a2))]));let(a,vs,rfl,s1,a1):=h1.tup;let(b,ws,rfl,s2,a2):=h2.tup;show .inr (.inr (.inr #[a,b,vs,ws,9,9,s1,s2,by rw[a1.length,a2.length];calc h.1,λe=>?_,λ_ e=>?_,λ_ _ p hp=>?_]));subst e;let e:=a1.length
 rename_i xs ys
 let e':=NC.mp e.symm;subst e';calc k _ h.2 _ H 45 #[I,cj s2 a2];subst e;let e:=a2.length
 rename_i xs ys _
 let e':=NC.mp e.symm;subst e';calc k _ h.2 _ H 45 #[I,by rw[HX];calc cj s1 a1];calc k _ h.2 _ _ (aI hp) #[I.same (aI hp),cj (eZ.of aK) ((a1.append a2).same (aI hp))];calc 482
section
variable{Z:Zc}{a:Expr}{pos:Pos}{fa fb:FE}
def cH(ha:VR X Z a fa)(hb:VR X Z b fb):VP X Z (.BinOp a .Add b pos) (f2 fa fb Vc):=gT Pc Pe ha hb
def qQ(ha:VR X Z a fa)(hb:VR X Z b fb):VP X Z (.BinOp a .Sub b pos) (f2 fa fb U5):=gT Ux OZ ha hb
def gU(ha:VR X Z a fa)(hb:VR X Z b fb):VP X Z (.BinOp a .Mult b pos) (f2 fa fb U6):=gT Uy O0 ha hb
def bO(ha:VR X Z a fa)(hb:VR X Z b fb):VP X Z (.BinOp a .FloorDiv b pos) (f2 fa fb U7):=gT Om O5 ha hb
def bz(ha:VR X Z a fa)(hb:VR X Z b fb):VP X Z (.BinOp a .Mod b pos) (f2 fa fb U8):=gT Uz O6 ha hb
def jw(ha:VR X Z a fa)(hb:VR X Z b fb):VP X Z (.BinOp a .Pow b pos) (f2 fa fb U9):=gT UA O7 ha hb
def qR(ha:VR X Z a fa)(hb:VR X Z b fb):VP X Z (.BinOp a .LShift b pos) (f2 fa fb U_):=gT UB O8 ha hb
def Vd(ha:VR X Z a fa)(hb:VR X Z b fb):VP X Z (.BinOp a .RShift b pos) (f2 fa fb U'):=gT UC O9 ha hb
def j2(ha:VR X Z a fa)(hb:VR X Z b fb):VP X Z (.BinOp a .BitAnd b pos) (f2 fa fb Jt):=gT IU yU ha hb
def qS(ha:VR X Z a fa)(hb:VR X Z b fb):VP X Z (.BinOp a .BitOr b pos) (f2 fa fb O_):=gT Zg gH ha hb
def afA(f:FE):FP:=λρ Q=>f ρ λx=>match x with
 |.int i=>Q (.vw (.int (-i)))
 |_=>False
def qT(ha:VR X Z a fa):VP X Z (.UnaryOp .USub a pos) (afA fa):=.mk λtm=>PE.weak (R8 UD 503) λσ H Q #[ρ,O,q,I,hf,k]=>#[ρ,O,_,I,hf,λt ht v H1 s1 a1=>by split at ht;calc#[_,a1.int,k _ ht _ H1 s1 #[I.same s1,bw]];calc ht.elim]
def DX(hu:537+101<cLine)(ha:VR X Z a fa)(hb:VR X Z b fb):VP X Z (.Compare a [.Eq] [b] pos) (f2 fa fb ZX):=BR (Jp hu) Jr ha hb (jm _)
def Jv(hu:537+101<cLine)(ha:VR X Z a fa)(hb:VR X Z b fb):VP X Z (.Compare a [.NotEq] [b] pos) (f2 fa fb U4):=BR (Jq hu) Js ha hb (jm _)
def bG(hu:537+101<cLine)(ha:VR X Z a fa)(hb:VR X Z b fb):VC X Z (.Compare a [.Eq] [b] pos) (mq (f2 fa fb ZX)):=ju (Jp hu) Jr ha hb (jm _)
def h_(hu:537+101<cLine)(ha:VR X Z a fa)(hb:VR X Z b fb):VC X Z (.Compare a [.NotEq] [b] pos) (mq (f2 fa fb U4)):=ju (Jq hu) Js ha hb (jm _)
def mw(ha:VR X Z a fa)(hb:VR X Z b fb):VC X Z (.Compare a [.Lt] [b] pos) (mq (f2 fa fb pLt)):=ju Zh Va ha hb (jm _)
def yV(ha:VR X Z a fa)(hb:VR X Z b fb):VC X Z (.Compare a [.Gt] [b] pos) (mq (f2 fa fb pGt)):=ju Zi Vb ha hb (jm _)
def f3(fa fb fc:FE)(p p':T->T->529->Prop):FP:=λρ Q=>fa ρ λx=>fb ρ λy=>p x y λr=>match r with
 |.vw (.bl true)=>fc ρ λz=>p' y z Q
 |.vw (.bl false)=>Q (.vw (.bl false))
 |_=>False
end
def Jw{A:zm}{ts:List T}{i:Int}{t:T}(h:aD K H A ts vs)(e:h7 ts i\t):∃v,h7 vs i\v/\At K H A t v:=by
 unfold h7 at e ⊢;rw[h.length];cases q:vQ ts.length i with
 |none=>rw[q] at e;cases e
 |some j=>rw[q] at e;let(v,h1,h2):=h.get e;calc#[v,h1,h2]
def Z0(x y:T)(q:Rt->Prop):Prop:=match x,y with
 |.lst ts,.int i=>∃t,h7 ts i\t/\q (.vw t)
 |.tup ts,.int i=>∃t,h7 ts i\t/\q (.vw t)
 |.str z,.int i=>z.length<=sizeLine/\∃c,h7 z.cps.toList i\c/\q (.vw (.str #[527]))
 |_,_=>False
def Jx:nU K (rIx K) Z0:=by intro Z tm O ρ σ H x y v w q Q I h1 h2 h k;unfold Z0 at h;split at h;let(t,e,h):=h;let(a,vs,rfl,s1,a1):=h1.lst;let(u,e',a2):=Jw a1 e;calc .inl #[a,vs,_,u,9,h2.int,s1,e',k _ h _ H 45 #[I,a2]];let(t,e,h):=h;let(a,vs,rfl,s1,a1):=h1.tup;let(u,e',a2):=Jw a1 e;calc .inr (.inl #[a,vs,_,u,9,h2.int,s1,e',k _ h _ H 45 #[I,a2]]);let(hz,c,e,h):=h;calc .inr (.inr #[_,_,c,h1.str,h2.int,hz,e,k _ h _ H 45 #[I,cO]]);calc 482
section
variable{Z:Zc}{a:Expr}{pos:Pos}{fa fb:FE}
def ay(ha:VR X Z a fa)(hb:VR X Z b fb)(hs:vR b:=by calc λ_ _=>rfl):VP X Z (.Subscript a b pos) (f2 fa fb Z0) :=
 .mk λtm=>PE.weak (Sd Ja 503 (hb tm) hs) (two Jx)
end
abbrev FO:=En->(Option Int->Prop)->Prop
def lO(X:Cx)(Z:Zc)(tm:List 483)(f:FO):TO:=λσ H Q=>∃ρ O q,aB X.K Z tm O ρ σ H/\f ρ q/\∀o,q o->∀H',aW H H'->Q o H'
def VO(X:Cx)(Z:Zc)(e:Option Expr)(f:FO):Prop:=Bx λtm=>PO X e (lO X Z tm f)
instance{X:Cx}{Z:Zc}{e:Option Expr}{f:FO}:CoeFun (VO X Z e f) λ_=>∀tm,PO X e (lO X Z tm f):=#[λh=>Bx.h h]
def PO.weak{e:Option Expr}{t t':TO}(h:PO X e t)(hw:∀σ H Q,t' σ H Q->t σ H Q):PO X e t':=λε s σ H Q I q=>h ε s σ H Q I (hw _ _ _ q)
def fO0:FO:=λ_ Q=>Q none
def fO1(f:FE):FO:=λρ Q=>f ρ λt=>match t with
 |.int i=>Q (some i)
 |_=>False
def t_{α:Type}(xs:List α)(lo hi:Option Int):List α:=(xs.drop (HT.fD 46 0 lo)).take 189
def aD.cut{A:zm}{ts:List T}(h:aD K H A ts vs)(lo hi:Option Int):aD K H A (t_ ts lo hi) (FU vs lo hi):=by unfold t_ FU;rw[h.length];calc (h.drop _).take _
def afB(K:qaf):V->Option Int->Option Int->Hp->VK->Prop:=λx lo hi H Q=>Zx K x lo hi H Q\/Zt K x lo hi H Q\/ZR x lo hi H Q
def afC:I9 X (afB X.K):=I9.or OH (I9.or UN U1)
def pSl(x:T)(lo hi:Option Int)(q:Rt->Prop):Prop:=match x with
 |.lst ts=>q (.fr (.lst (t_ ts lo hi)))
 |.tup ts=>¬ (HT.fD 25 0 lo=0/\HT.fD 25 25 hi=25)/\q (.vw (.tup (t_ ts lo hi)))
 |.str z=>z.length<=sizeLine/\q (.vw (.str (Txt.slice z lo hi)))
 |_=>False
def fSl(fa:FE)(fl fh:FO):FP:=λρ Q=>fa ρ λx=>fl ρ λlo=>fh ρ λhi=>pSl x lo hi Q
section
variable{Z:Zc}{a:Expr}{lo hi:Option Expr}{pos:Pos}{fa:FE}{fl fh:FO}
def DY:VO X Z none fO0:=.mk λtm=>PO.weak OD λσ H Q #[ρ,O,q,I,hf,k]=>k _ hf H 45
def j3(h:VR X Z e fa):VO X Z (some e) (fO1 fa):=.mk λtm=>PO.weak (OE 513) λσ H Q #[ρ,O,q,I,hf,k]=>#[ρ,O,_,I,hf,λt ht v H' s z=>by split at ht;calc#[_,z.int,k _ ht H' s];calc ht.elim]
def mx(he:VR X Z e fa)(hl:VO X Z lo fl)(hh:VO X Z hi fh):VP X Z (.Subscript e (.Slice lo hi none p2) pos) (fSl fa fl fh) :=
 .mk λtm=>PE.weak (I_ afC (he tm) (hl tm) (hh tm)) λσ H Q #[ρ,O,q,I,hf,k]=>#[ρ,O,_,I,hf,λx hx v H1 s1 a1=>#[ρ,O,_,I.same s1,hx,λl hl H2 s2=>#[ρ,O,_,(I.same s1).same s2,hl,λu hu H3 s3=>by let J:=((I.same s1).same s2).same s3;let a3:=(a1.same s2).same s3;let S:=(s1.trans s2).trans s3;unfold pSl at hu;split at hu;let(p,vs,rfl,q1,q2):=a3.lst;calc .inl #[p,vs,9,q1,λr hr=>k _ hu _ _ (S.trans (aI hr)) (J.v5 hr (q2.cut _ _))];let(p,vs,rfl,q1,q2):=a3.tup;show .inr (.inl #[p,vs,9,q1,by rw[q2.length];calc hu.1,λr hr=>k _ hu.2 _ _ (S.trans (aI hr)) #[J.same (aI hr),cj (eZ.of aK) ((q2.cut _ _).same (aI hr))]]);calc .inr (.inr #[_,a3.str,hu.1,k _ hu.2 _ H3 S #[J,cO]]);calc hu.elim]]]
end
def Sk(g:FA)(p:List T->529->Prop):FP:=λρ Q=>g ρ λts=>p ts Q
def my(K:qaf)(r:qak->Hp->VK->Prop)(p:List T->529->Prop):Prop :=
 ∀(Z:Zc)(tm:List (T×V))(O:HD)(ρ:En)(σ:St)(H:Hp)(ts:List T)(vs:qak)(q:Rt->Prop)(Q:VK),aB K Z tm O ρ σ H->Paired (λv t=>hV K H 242 t v) vs ts->p ts q ->
  (∀t,q t->∀u H',aW H H'->h9 K Z tm O ρ σ H' t u->Q u H')->r vs H Q
section
variable{Z:Zc}{a:Expr}{pos:Pos}{g:FA}{id Ty:String}{r:qak->Hp->VK->Prop}{pp:List T->(Rt->Prop)->Prop}
def aS(hc:dh X 541 r)(ht:my X.K r pp)(hg:Gl X x)(hm:X.mg x=none)(hv:bootBuiltins x\.builtin id)(ha:Yi X Z (e::es) g)(hn:x≠"__name__":=by decide)(tZ:gD x:=by decide)(hs:starEach (e::es) 3=(false,eval e 3)::starEach es 3:=by rfl)(j1:(backTo pos 90).any (·.1)=false:=by rfl):VP X Z (.Call 31 (e::es) [] pos) (Sk g pp) :=
 .mk λtm=>PE.weak (jo hc hg hm hv 503 hn tZ hs j1) λσ H Q #[ρ,O,q,I,hf,k]=>#[ρ,O,_,I,hf,λts hW vs H1 s1 a1=>ht Z tm O ρ σ H1 ts vs q _ (I.same s1) a1 hW λt h u H' s z=>k t h u H' (s1.trans s) z]
def ic(hc:dh X (.type Ty) r)(ht:my X.K r pp)(hg:Gl X x)(hm:X.mg x=none)(hv:bootBuiltins x\.type Ty)(ha:Yi X Z (e::es) g)(hn:x≠"__name__":=by decide)(tZ:gD x:=by decide)(hs:starEach (e::es) 3=(false,eval e 3)::starEach es 3:=by rfl)(j1:(backTo pos 90).any (·.1)=false:=by rfl):VP X Z (.Call 31 (e::es) [] pos) (Sk g pp) :=
 .mk λtm=>PE.weak (nQ hc hg hm hv 503 hn tZ hs j1) λσ H Q #[ρ,O,q,I,hf,k]=>#[ρ,O,_,I,hf,λts hW vs H1 s1 a1=>ht Z tm O ρ σ H1 ts vs q _ (I.same s1) a1 hW λt h u H' s z=>k t h u H' (s1.trans s) z]
end
def Z1(ts:List T)(q:Rt->Prop):Prop:=match ts with
 |[.lst l]=>q (.vw (.int 490))
 |[.tup l]=>q (.vw (.int 490))
 |[.str z]=>z.length<=sizeLine/\q (.vw (.int z.length))
 |_=>False
def Sl(K:qaf):qak->Hp->VK->Prop:=λxs H Q=>(∃p ys,xs=[.ref p]/\(f_ K H p ys\/eZ K H p ys)/\Q (.int 172) H)\/(∃z,xs=[.str z]/\z.length<=sizeLine/\Q (.int z.length) H)
def aT:dh X (.builtin "len") (Sl X.K):=dh.or vV vW
def dH{F:α->β->Prop}{vs:List α}{t:β}(h:Paired F vs [t]):∃v,vs=[v]/\F v t:=by
 cases h with
 |cons r q=>cases q;calc#[_,9,r]
def aV:my K (Sl K) Z1:=by intro Z tm O ρ σ H ts vs q Q I h hp k;unfold Z1 at hp;split at hp;let(v,rfl,a):=dH h;let(p,ws,rfl,q1,q2):=a.lst;calc .inl #[p,ws,9,.inl q1,k _ hp _ H 45 #[I,by rw[q2.length];calc bw]];let(v,rfl,a):=dH h;let(p,ws,rfl,q1,q2):=a.tup;calc .inl #[p,ws,9,.inr q1,k _ hp _ H 45 #[I,by rw[q2.length];calc bw]];let(v,rfl,a):=dH h;calc .inr #[_,by rw[a.str],hp.1,k _ hp.2 _ H 45 #[I,bw]];calc hp.elim
def Sn(ts:List T)(q:Rt->Prop):Prop:=match ts with
 |[.lst l]=>q (.fr (.lst l))
 |[.tup l]=>q (.fr (.lst l))
 |_=>False
def lp:my K (λxs H Q=>∃p ys,xs=[.ref p]/\(f_ K H p ys\/eZ K H p ys)/\∀l,H l=none->Q (.ref l) (upd H l (.lst ys))) Sn:=by intro Z tm O ρ σ H ts vs q Q I h hp k;unfold Sn at hp;split at hp;let(v,rfl,a):=dH h;let(p,ws,rfl,q1,q2):=a.lst;calc#[p,ws,9,.inl q1,λl hl=>k _ hp _ _ (aI hl) (I.v5 hl q2)];let(v,rfl,a):=dH h;let(p,ws,rfl,q1,q2):=a.tup;calc#[p,ws,9,.inr q1,λl hl=>k _ hp _ _ (aI hl) (I.v5 hl q2)];calc hp.elim
def Jy(ts:List T)(q:Rt->Prop):Prop:=match ts with
 |[.lst l]=>q (.vw (.tup l))
 |[.tup l]=>q (.vw (.tup l))
 |_=>False
def oY:my K (λxs H Q=>∃p ys,xs=[.ref p]/\((f_ K H p ys/\∀l,H l=none->Q (.ref l) (upd H l (.tup ys)))\/(eZ K H p ys/\Q (.ref p) H))) Jy:=by intro Z tm O ρ σ H ts vs q Q I h hp k;unfold Jy at hp;split at hp;let(v,rfl,a):=dH h;let(p,ws,rfl,q1,q2):=a.lst;calc#[p,ws,9,.inl #[q1,λl hl=>k _ hp _ _ (aI hl) #[I.same (aI hl),cj (eZ.of aK) (q2.same (aI hl))]]];let(v,rfl,a):=dH h;let(p,ws,rfl,q1,q2):=a.tup;calc#[p,ws,9,.inr #[q1,k _ hp _ H 45 #[I,cj q1 q2]]];calc hp.elim
structure So where
 nx:En->Prop
 rt:En->Rt->Prop
 bk:En->Prop:=λ_=>False
 ct:En->Prop:=λ_=>False
structure Fin(K:qaf)(Z:Zc)(tm:List 483)(d:So)(D:Ends):Prop where
 nx:∀O ρ σ H,aB K Z tm O ρ σ H->d.nx ρ->D.nx σ H
 rt:∀O ρ σ H r v,h9 K Z tm O ρ σ H r v->d.rt ρ r->D.rt v H
 bk:∀O ρ σ H,aB K Z tm O ρ σ H->d.bk ρ->D.bk σ H
 ct:∀O ρ σ H,aB K Z tm O ρ σ H->d.ct ρ->D.ct σ H
abbrev FS:=So->En->Prop
def lS(X:Cx)(Z:Zc)(tm:List 483)(g:FS):TS:=λD σ H=>∃ρ O d,aB X.K Z tm O ρ σ H/\g d ρ/\Fin X.K Z tm d D
def VS(X:Cx)(Z:Zc)(st:Stmt)(g:FS):Prop:=Bx λtm=>PS X st (lS X Z tm g)
instance{X:Cx}{Z:Zc}{st:Stmt}{g:FS}:CoeFun (VS X Z st g) λ_=>∀tm,PS X st (lS X Z tm g):=#[λh=>Bx.h h]
def kx(X:Cx)(Z:Zc)(st:qaq)(g:FS):Prop:=Bx λtm=>ko X st (lS X Z tm g)
instance{X:Cx}{Z:Zc}{st:qaq}{g:FS}:CoeFun (kx X Z st g) λ_=>∀tm,ko X st (lS X Z tm g):=#[λh=>Bx.h h]
def aY(Z:Zc)(i:Nat):Prop:=∀p∈Z.P,p.1≠i
section
variable{Z:Zc}{st:Stmt}{rest:qaq}{g u:FS}{pos:Pos}
def Z2:FS:=λd ρ=>d.nx ρ
def Z3(g u:FS):FS:=λd ρ=>g {d with nx:=u d} ρ
def aE:kx X Z [] Z2:=.mk λtm=>ko.mj DJ λD σ H #[ρ,O,d,I,h,F]=>F.nx O ρ σ H I h
def af(h1:VS X Z st g)(h2:kx X Z rest u):kx X Z (st::rest) (Z3 g u):=.mk λtm=>ko.mj (jl (h1 tm) (h2 tm)) λD σ H #[ρ,O,d,I,h,F] =>
 #[ρ,O,{d with nx:=u d},I,h,#[λO' ρ' σ' H' I' h'=>#[ρ',O',d,I',h',F],F.rt,F.bk,F.ct]]
def aq(h1:VS X Z st g):kx X Z [st] g:=.mk λtm=>l8 (h1 tm)
def kx.weak(h:kx X Z rest g)(hw:∀d ρ,u d ρ->g d ρ):kx X Z rest u:=.mk λtm=>ko.mj 513 λD σ H #[ρ,O,d,I,q,F]=>#[ρ,O,d,I,hw d ρ q,F]
def Z4(f:FX):FS:=λd ρ=>f ρ λρ' _=>d.nx ρ'
def bA{f:FX}(h:VX X Z e f)(hs:swapsWith e none pos.line 3=pure false:=by rfl):VS X Z (.Expr e pos) (Z4 f):=.mk λtm=>PS.weak (Ob 513 hs) λD σ H #[ρ,O,d,I,q,F] =>
 #[ρ,O,_,I,q,λρ' r hr O' v H' z=>F.nx O' ρ' σ H' z.env hr]
def afD(f:FX):FS:=λd ρ=>f ρ λρ' r=>d.rt ρ' r
def aA{f:FX}(h:VX X Z e f):VS X Z (.Return (some e) pos) (afD f):=.mk λtm=>PS.weak (Bu 513) λD σ H #[ρ,O,d,I,q,F] =>
 #[ρ,O,_,I,q,λρ' r hr O' v H' z=>F.rt O' ρ' σ H' r v z hr]
def gIf(c:FB)(g u:FS):FS:=λd ρ=>c ρ λb=>if b=true then g d ρ else u d ρ
def bb{fc:FB}{a b:qaq}(hc:VC X Z c fc)(ha:kx X Z a g)(hb:kx X Z b u):VS X Z (.If c a b pos) (gIf fc g u):=.mk λtm=>PS.weak (R6 (hc tm) 503 (hb tm)) λD σ H #[ρ,O,d,I,q,F] =>
 #[ρ,O,_,I,q,λb hb H' s=>by
  cases b with
  |true=>rw[ι 9] at hb ⊢;calc#[ρ,O,d,I.same s,hb,F]
  |false=>rw[θ iC] at hb ⊢;calc#[ρ,O,d,I.same s,hb,F]]
def Z5(i:Nat)(f:FX):FS:=λd ρ=>f ρ λρ' r=>d.nx (ρ'.set i (some (r.t,false)))
def afE(i:Nat)(f:FX):FS:=λd ρ=>f ρ λρ' r=>match r with
 |.fr t=>d.nx (ρ'.set i (some (t,true)))
 |_=>False
def aJ{f:FX}(hN:X.N.Nodup)(hi:X.N[i]?\x)(hx:Loc 39 x)(he:VX X Z e f)(hp:aY Z i)(hs:swapsWith e (some (.Name x pos')) pos.line 3=pure false:=by rfl)(hf:X.fn x=true\/X.env.scope.names.lookup x\.local:=by first|calc .inl rfl|calc .inr rfl|assumption):VS X Z (.Assign [.Name x pos'] e pos) (Z5 i f):=.mk λtm=>PS.weak (vO hN hi hx (he tm) hs hf) λD σ H #[ρ,O,d,I,q,F] =>
 #[ρ,O,_,I,q,λρ' r hr O' v H' z=>F.nx _ _ _ H' (z.env.put hp z.at) hr]
def cP{f:FX}(hN:X.N.Nodup)(hi:X.N[i]?\x)(hx:Loc 39 x)(he:VX X Z e f)(hp:aY Z i)(hs:swapsWith e (some (.Name x pos')) pos.line 3=pure false:=by rfl)(hf:X.fn x=true\/X.env.scope.names.lookup x\.local:=by first|calc .inl rfl|calc .inr rfl|assumption):VS X Z (.Assign [.Name x pos'] e pos) (afE i f):=.mk λtm=>PS.weak (vO hN hi hx (he tm) hs hf) λD σ H #[ρ,O,d,I,q,F] =>
 #[ρ,O,_,I,q,λρ' r hr O' v H' z=>by split at hr;let(a,rfl,J,hR,h0,Ii):=z;calc F.nx _ _ _ H' (J.afw hp hR h0 Ii) hr;calc hr.elim]
def Z6(i:Nat)(f:FE)(p:T->T->529->Prop):FS:=λd ρ=>match ρ[i]? with
 |some (some (x,false))=>f ρ λy=>p x y λr=>d.nx (ρ.set i (some (r.t,false)))
 |_=>False
def lq{f:FE}{op:Operator}{r:R2}{p:T->T->529->Prop}(hN:X.N.Nodup)(hi:X.N[i]?\x)(hx:Loc 39 x)(he:VR X Z e f)(ho:fF X (inplaceOp op) r)(ht:nU X.K r p)(hp:aY Z i)(hf:X.fn x=true\/X.env.scope.names.lookup x\.local:=by first|calc .inl rfl|calc .inr rfl|assumption):VS X Z (.AugAssign (.Name x pos') op e pos) (Z6 i f p):=.mk λtm=>PS.weak (Up hN hi hx (he tm) ho hf) λD σ H #[ρ,O,d,I,q,F]=>by
 unfold Z6 at q;split at q
 rename_i t e0
 let(o,s,h1,h2,rfl,v,rfl,h3):=I.sl i _ e0;calc#[v,h2,ρ,O,_,I,q,λy hy w H1 s1 a1=>ht Z tm O ρ σ H1 t y v w _ _ (I.same s1) (.inl (h3.same s1)) a1 hy λr hr z H2 s2 k=>F.nx _ _ _ H2 (k.env.put hp k.at) hr];calc q.elim
def afF(is:qao)(g:FS):FS:=λd ρ=>g d (is.foldl (λρ i=>match ρ[i]? with
 |some (some (t,true))=>ρ.set i (some (t,false))
 |_=>ρ) ρ)
theorem qU{K:qaf}{tm:List 483}:∀(is:qao){O:HD}{ρ:En}{σ:St}{H:Hp},(∀i∈is,aY Z i)->aB K Z tm O ρ σ H->∃O',aB K Z tm O' (is.foldl (λρ i=>match ρ[i]? with
 |some (some (t,true))=>ρ.set i (some (t,false))
 |_=>ρ) ρ) σ H
 |[],O,ρ,σ,H,_,I=>#[O,I]
 |i::is,O,ρ,σ,H,hp,I=>by
  rw[YS];let hp':=λj hj=>hp j (iB _ hj);split
  rename_i t e
  calc qU is hp' (I.k6 (hp i iz) e);calc qU is hp' I
def Pf(is:qao)(h:kx X Z rest g)(hp:∀i∈is,aY Z i):kx X Z rest (afF is g):=.mk λtm=>ko.mj 513 λD σ H #[ρ,O,d,I,q,F]=>let #[O',I']:=qU is hp I;#[_,O',d,I',q,F]
end
section
variable{Z:Zc}{a:Expr}{pos:Pos}
def aB.root{tm:List 483}{ρ:En}(I:aB K Z tm O ρ σ H){k:Nat}{t:T}(e:ρ[k]?\some (t,true)):∃a,O[k]?\some a/\σ[k]?\some 110/\dq K H 242 a t:=by let(o,s,h1,h2,a,rfl,rfl,h3):=I.sl k _ e;calc#[a,h1,h2,h3]
def DZ(k:Nat)(g:FA)(p:List T->List T->(List T->T->Prop)->Prop):FX:=λρ Q=>match ρ[k]? with
 |some (some (.lst ts,true))=>g ρ λvs=>p ts vs λj4 r=>Q (ρ.set k (some (.lst j4,true))) (.vw r)
 |_=>False
def Z7(K:qaf)(r:V->qak->Hp->VK->Prop)(p:List T->List T->(List T->T->Prop)->Prop):Prop :=
 ∀(H:Hp)(A:zm)(l:Addr)(xs:qak)(ts us:List T)(vs:qak)(q:List T->T->Prop)(Q:VK),l∈A->H l\.lst xs->aD K H A ts xs->aD K H A us vs->p ts us q ->
  (∀j4 t,q j4 t->∀xs' v,aD K H A j4 xs'->At K H A t v->Q v (upd H l (.lst xs')))->r (.ref l) vs H Q
def D0{r:V->qak->Hp->VK->Prop}{p:List T->List T->(List T->T->Prop)->Prop}(hm:Z7 X.K r p){k:Nat}{g:FA}{tm:List 483}{Q:VK}(h:lX X Z tm (DZ k g p) σ H Q) :
  ∃l,σ[k]?\some (.ref l)/\(∃xs,f_ X.K H l xs)/\lA X Z tm g σ H λvs H1=>r (.ref l) vs H1 Q:=by
 let(ρ,O,q,I,hf,kk):=h;unfold DZ at hf;split at hf
 rename_i ts e0
 let(l,h1,h2,xs,h3,h4):=I.root e0;show#[l,h2,#[xs,f_.of h3],ρ,O,_,I,hf,λus hus vs H1 s1 a1=>?_];let J:=I.same s1;let ha:l∈av Z O:=hX _ 540;calc hm H1 242 l xs ts us vs _ Q ha (s1 _ _ h3) (h4.same s1) a1 hus λj4 t ht xs' v b1 b2=>kk _ _ ht O _ _ #[J.wrote e0 h1 #[xs',aK,b1.wrote ha (s1 _ _ h3) 9],b2.wrote ha (s1 _ _ h3) 9];calc hf.elim
def dy(k:Nat){name:Str}{id:String}{g:FA}{r:V->qak->Hp->VK->Prop}{pp:List T->List T->(List T->T->Prop)->Prop}(slot:Slot "list" name id)(UU:typeOf 541=pure (.type "method_descriptor"))(hm:Sb X id r)(ht:Z7 X.K r pp)(ha:VA X Z (e::es) g)(hN:X.N[k]?\x:=by rfl)(hv:nI 39 x:=by first|calc Or.inl rfl|calc Or.inr 7|calc Or.inr 95)(hd:gD x:=by decide)(fL:qt x:=by decide)(du:attributeBase 31 name 3 (eval 31 3)=eval 31 3:=by rfl)(qI:((backTo bF (starEach (e::es) 3)).all (λx=>!x.1) && (backToKw bF 499).all (λx=>x.1.isSome)
    && decide ((e::es).length+([]:List Keyword).length+(if ([]:List Keyword).isEmpty then 0 else 1)<30))=true:=by rfl)(dw:91=true:=by rfl)(hs:starEach (e::es) 3=(false,eval e 3)::starEach es 3:=by rfl)(gi:(backTo bF 90).any (·.1)=false:=by rfl) :
  VX X Z (.Call (.Attribute 31 name apos) (e::es) [] bF) (DZ k g pp):=.mk λtm=>
 PE.weak (yI aco slot UU hm 123 503 du qI dw hs gi) λσ H Q h=>
  let #[l,h1,h2,h3]:=D0 ht h;#[.ref l,h1,.inl #[9,h2],h3]
def v_(k:Nat){name:Str}{id:String}{r:V->qak->Hp->VK->Prop}{pp:List T->List T->(List T->T->Prop)->Prop}(slot:Slot "list" name id)(UU:typeOf 541=pure (.type "method_descriptor"))(hm:Sb X id r)(ht:Z7 X.K r pp)(hN:X.N[k]?\x:=by rfl)(hv:nI 39 x:=by first|calc Or.inl rfl|calc Or.inr 7|calc Or.inr 95)(hd:gD x:=by decide)(fL:qt x:=by decide)(du:attributeBase 31 name 3 (eval 31 3)=eval 31 3:=by rfl)(dw:91=true:=by rfl):VX X Z (.Call (.Attribute 31 name apos) [] [] bF) (DZ k t9 pp):=.mk λtm=>
 PE.weak (BP aco slot UU hm 123 du dw) λσ H Q h=>by let(l,h1,h2,ρ,O,q,I,hf,kk):=D0 ht h;calc#[.ref l,h1,.inl #[9,h2],kk [] hf [] H 45 451]
def D1(ts us:List T)(q:List T->T->Prop):Prop:=match us with
 |[t]=>25<sizeLine/\q (ts++[t]) .bY
 |_=>False
def ba:Z7 K DS D1:=by intro H A l xs ts us vs q Q hl hH h1 h2 hp k;unfold D1 at hp;split at hp;let(v,rfl,a):=dH (aD.iff.mp h2);calc#[l,xs,v,9,9,hH,by rw[h1.length];calc hp.1,k _ _ hp.2 _ _ (h1.append (aD.cons a 451)) qO];calc hp.elim
def afG(ts us:List T)(q:List T->T->Prop):Prop:=us=[]/\∃t,ts[25-1]?\t/\q ts.dropLast t
def aD.dropLast{A:zm}{ts:List T}(h:aD K H A ts vs):aD K H A ts.dropLast vs.dropLast:=by rw[List.dropLast_eq_take,List.dropLast_eq_take,h.length];calc h.take _
def p_:Z7 K Zz afG:=by
 intro H A l xs ts us vs q Q hl hH h1 h2 hp k;let(rfl,t,e1,hq):=hp;let e:vs=[]:=by simpa only[aD] using h2
 let(v,e2,a):=h1.get e1;calc#[l,xs,v,9,e,hH,by rw[h1.length];calc e2,k _ _ hq _ _ h1.dropLast a]
def Sq(k:Nat)(f fi:FE):FS:=λd ρ=>match ρ[k]? with
 |some (some (.lst ts,true))=>f ρ λv=>fi ρ λi=>match i with
  |.int j=>∃n,vQ 25 j\n/\d.nx (ρ.set k (some (.lst (ts.set n v),true)))
  |_=>False
 |_=>False
def gk(k:Nat){f fi:FE}{i:Expr}(he:VE X Z e f)(hi:VR X Z i fi)(hN:X.N[k]?\x:=by rfl)(hv:nI 39 x:=by first|calc Or.inl rfl|calc Or.inr 7|calc Or.inr 95)(hd:gD x:=by decide)(fL:qt x:=by decide)(ha:∀v,assign (.Subscript 31 i eA) 3 v=(do
    let ov <- holding [v] (eval (.Name x p) X.env)
    let iv <- holding [v,ov] (eval i X.env)
    standAt eA
    holding [v,ov,iv] (setItem ov iv v)
    release [v,ov,iv] []):=by intro _;rfl)(hs:swapsWithSole [.Subscript 31 i eA] e pos.line 3=pure false:=by rfl)(hw:swappedStores [.Subscript 31 i eA] e 3=pure none:=by rfl)(h1:(assignEach [.Subscript 31 i eA] 3).map (·.2)=[assign (.Subscript 31 i eA) 3]:=by rfl):VS X Z (.Assign [.Subscript 31 i eA] e pos) (Sq k f fi):=.mk λtm=>
 PS.weak (IP (he tm) (Uo 123 (hi tm) set_list ha) hs hw h1) λD σ H #[ρ,O,d,I,q,F]=>by
  unfold Sq at q;split at q
  rename_i ts e0
  let(l,h1,h2,xs,h3,h4):=I.root e0;let ha:l∈av Z O:=hX _ 540;show#[ρ,O,_,I,q,λt ht v H1 s1 a1=>#[.ref l,h2,ρ,O,_,I.same s1,ht,λj hj w H2 s2 a2=>?_]];split at hj;let(n,e1,hj):=hj;calc#[l,xs,_,n,9,a2.int,s2 _ _ (s1 _ _ h3),by rw[h4.length];calc e1,F.nx O _ σ _ (((I.same s1).same s2).wrote (t':=.lst (ts.set n t)) e0 h1 #[xs.set n v,aK,aD.wrote ha (s2 _ _ (s1 _ _ h3)) 9 (((h4.same s1).same s2).set n (a1.same s2))]) hj];calc hj.elim;calc q.elim
def aB.give{tm:List 483}{ρ:En}(I:aB K Z tm O ρ σ H){t:T}(hp:aY Z i)(hi:ρ[i]?\some (t,true)):∃a,σ[i]?\some 110/\h9 K Z tm (O.set i none) (ρ.set i none) σ H (.fr t) 110:=by
 let(a,h1,h2,h3):=I.root hi;let ha:=aH.mpr (fM h1);let(o1,o2,o3):=I.own a ha;let J:=I.forget hp;let J2:=I.k6 hp hi;let na:a∉roots (O.set i none):=λz=>by
  let(o,s,g1,g2,g3,v,g4,g5):=J2.sl i (some (t,false)) (by rw[DC (by rw[<- I.lO];calc (c7.mp h1).1)]);rw[h2] at g2;cases g2;cases g4;let nn:a∉av Z (O.set i none):=by
   cases t with
   |lst ts=>
    erw[At] at g5;let(b,vs,eb,l,_):=g5;cases eb;obtain l|⟨oo,_,_,lk,_⟩:=l
    calc l.2;exact λz2=>by
     let key:∀O i,O[i]?\some a->(roots O).Nodup->a∉roots (O.set i none):=by
      intro O;induction O with
      |nil=>intro i h;simp at h
      |cons o O ih=>
       intro i h nd;cases i with
       |zero=>
        have:o\a:=by simpa using h
        subst this;calc (qy.mp nd).1
       |succ i=>
        let h':O[i]?\some a:=by simpa using h
        cases o with
        |none=>erw[roots,X6,tV,id] at nd ⊢;calc ih i h' nd
        |some b=>
         erw[roots,X6,tV,id] at nd ⊢;rw[qy] at nd;intro z;rcases dQ.mp z with z|z
         calc nd.1 (by rw[<- z];calc aH.mpr (fM h'));exact ih i h' nd.2 z
     rcases fO.mp z2 with z2|z2
     calc key O i h1 I.nd z2;calc o2 z2
   |dk ks ts=>erw[At] at g5;let(b,vs,eb,_,d,_):=g5;cases eb;calc d.2
   |dt ks ts=>erw[At] at g5;let(b,vs,eb,_,d,_):=g5;cases eb;calc d.2
   |ins C ns ts=>erw[At] at g5;let(b,dx,vs,eb,_,d,_):=g5;cases eb;calc d.2
   |_=>exact h3.elim
  exact nn (hX _ z)
 let hP:Z.H0 a=none:=by
  obtain z|z:=o1
  let(p,hpm,rfl):=k5.mp z;have:=J.par p hpm;calc absurd (aH.mpr (fM this)) na;exact z
 let sub:∀b∈av (Z.ex a) (O.set i none),b∈av Z O:=λb hb=>by
  rcases dG b hb with z|z
  calc cu i b z;rw[z];exact hX _ ha
 show#[a,h2,a,9,#[J.lσ,J.lO,λj e h=>?_,J.nd,λb hb=>?_,J.par,λb hb=>?_,J.keep,λp hp=>(I.lh p hp).bC sub],h3.bC sub,hP,o2];rcases get_set h with⟨rfl,rfl,hl⟩|⟨ne,h⟩
 let(o,s,g1,g2,g3):=J.sl j none (by rw[DC hl]);calc#[o,s,g1,g2,g3];let(o,s,g1,g2,g3):=I.sl j e h;calc#[o,s,by rw[uG (Ne.symm ne)];calc g1,g2,g3.map (λ_ _ q=>q.bC sub) λ_ _ _ q=>q.bC sub];let(q1,q2,q3):=J.own b hb;show#[q1,λz=>?_,q3];rcases dQ.mp z with z|z
 calc na (by rw[<- z];calc hb);calc q2 z;rcases dQ.mp hb with z|z
 let(u,eu,_):=o3;rw[z,eu];simp;calc I.ox b z
def Sr(i:Nat):FX:=λρ Q=>match ρ[i]? with
 |some (some (t,true))=>Q (ρ.set i none) (.fr t)
 |some (some (t,false))=>Q ρ (.vw t)
 |_=>False
def eF(i:Nat)(hp:aY Z i)(hN:X.N[i]?\x:=by rfl)(hv:nI 39 x:=by first|calc Or.inl rfl|calc Or.inr 7|calc Or.inr (.inr rfl))(hd:gD x:=by decide)(fL:qt x:=by decide):VX X Z (.Name x pos) (Sr i):=.mk λtm=>PE.weak 123 λσ H Q #[ρ,O,q,I,hf,k]=>by
 unfold Sr at hf;split at hf
 rename_i t e
 let(a,h1,h2):=I.give hp e;exact#[_,h1,k _ _ hf _ _ H h2]
 rename_i t e
 let(o,s,h1,h2,rfl,v,rfl,h3):=I.sl i _ e;calc#[v,h2,k _ _ hf O v H #[I,h3]];calc hf.elim
end
def aB.pP{Z:Zc}{tm Yj:List 483}{ρ:En}(I:aB K Z tm O ρ σ H)(h:∀p∈Yj,At K H 242 p.1 p.2):aB K Z Yj O ρ σ H :=
 #[I.lσ,I.lO,I.sl,I.nd,I.own,I.par,I.ox,I.keep,h]
def h9.pP{Z:Zc}{bu tm:List 483}{ρ:En}{r:Rt}(h:h9 K Z 237 O ρ σ H r v):h9 K Z tm O ρ σ H r v:=by
 cases r with
 |vw t=>calc#[h.1.pP λp hp=>h.1.lh p (jY _ hp),h.2]
 |fr t=>let(a,e,I,q):=h;calc#[a,e,I.pP λp hp=>I.lh p (jY _ hp),q]
def Wk(K:qaf)(J:It)(bu:List 483)(ts:List T):Prop:=∀H A,(∀a∈A,H a≠none)->(∀p∈bu,At K H A p.1 p.2)->∀i:Nat,
 (i<25->J.go i H)/\(25=i->J.stop i H)/\∀t,ts[i]?\t->∀x H',J.Yc i H x H'->aW H H'/\At K H' A t x
abbrev FI:=En->(List T->Prop)->Prop
def lI(X:Cx)(Z:Zc)(tm:List 483)(f:FI):TI:=λσ H R=>∃ρ O q,aB X.K Z tm O ρ σ H/\f ρ q/\∀ts,q ts->∀J H' bu,aW H H'->(∀p∈bu,At X.K H' 242 p.1 p.2)->Wk X.K J bu ts->R J H'
def VI(X:Cx)(Z:Zc)(tg iter:Expr)(f:FI):Prop:=Bx λtm=>PI X tg iter (lI X Z tm f)
instance{X:Cx}{Z:Zc}{tg iter:Expr}{f:FI}:CoeFun (VI X Z tg iter f) λ_=>∀tm,PI X tg iter (lI X Z tm f):=#[λh=>Bx.h h]
def PI.weak{tg:Expr}{t t':TI}(h:PI X tg e t)(hw:∀σ H R,t' σ H R->t σ H R):PI X tg e t':=λε s σ H R I q=>h ε s σ H R I (hw _ _ _ q)
def PG.weak{tg:Expr}{t t':TG}(h:PG X tg t)(hw:∀v σ H Q,t' v σ H Q->t v σ H Q):PG X tg t':=λε s σ H v u Q I r q=>h ε s σ H v u Q I r (hw _ _ _ _ q)
def IK.weak{tg:qap}{t t':Oc}(h:IK X tg t)(hw:∀v σ H Q,t' v σ H Q->t v σ H Q):IK X tg t':=λε s σ H v u Q I r q=>h ε s σ H v u Q I r (hw _ _ _ _ q)
def afH(K:qaf)(tl:TE):TI:=λσ H R=>tl σ H λx H1=>(∃a,x=.ref a/\(∃xs,f_ K H1 a xs)/\R (Itl K a) H1)\/(∃a,x=.ref a/\(∃xs,eZ K H1 a xs)/\R (Itt K a) H1)\/∃z,x=.str z/\R (Its z) H1
section
variable{Z:Zc}{tg:Expr}
def Jz{l:Expr}{tl:TE}(hl:PE X l tl):PI X tg l (afH X.K tl):=by
 intro ε s σ H R I h;show cT (hl ε s σ H _ I h) λv s1 #[x,H1,I1,r1,q1]=>?_;obtain⟨a,e,hq,q⟩|⟨a,e,hq,q⟩|⟨z,e,q⟩:=q1
 subst e;cases r1;let(xs,hq):=hq;let(aR,rv,p,hz):=I1.list hq;show aay p.isList #[96,[96],_,_,H1,9,I1.kept λb o e=>dF _ e,FD a _,#[_,gP _ 9,9,9],λb hb=>?_,q];let e:b=s1.heap.objs.size:=by simpa using hb
 subst e;calc I1.qC 82 (I1.bZ.fresh 82);subst e;cases r1;let(xs,hq):=hq;let(aR,rv,p,hz):=I1.tuple hq;show wpAny_pyIter_tuple (show s1.heap.IsTuple a 94 from p) #[96,[96],_,_,H1,9,I1.kept λb o e=>dF _ e,Bv a _,#[_,gP _ 9,9,9],λb hb=>?_,q];let e:b=s1.heap.objs.size:=by simpa using hb
 subst e;calc I1.qC 82 (I1.bZ.fresh 82);subst e;let(t,rfl):=r1;show wpAny_pyIter_strU ?_;let I2:Inv X ε σ H1 {s1 with heap:=s1.heap.push {cls:=.type (strIterType z),data:=.fields ([.str z t,.int 0 0].toArray)} }:=I1.kept λb o e=>dF _ e;show#[96,[96],_,_,H1,9,I2,Jj z t _,#[_,gP _ 9,9,9],λb hb=>?_,q];let e:b=s1.heap.objs.size:=by simpa using hb
 subst e;calc I1.qC 82 I1.fresh
def afI(f:FE):FI:=λρ Q=>f ρ λt=>match t with
 |.lst ts=>Q ts
 |.tup ts=>Q ts
 |.str z=>Q (z.cps.toList.map λc=>.str #[527])
 |_=>False
theorem D2{ts:List T}:Wk K (Itl K a) [(.lst ts,.ref a)] ts:=λH A hA h i=>by let h:=h _ iz;let(b,vs,e,l,q):=h;cases e;let hl:=q.length;show#[λhi=>#[vs,vs[i]'(),l.sq,by simp],λhi=>#[vs,l.sq,()],λt ht x H' y=>?_];let(rfl,y):=y;let(v,e1,e2):=q.get ht;have:=y vs l.sq;rw[e1] at this;cases this;calc#[aW.refl _,e2]
theorem Ve{ts:List T}:Wk K (Itt K a) [(.tup ts,.ref a)] ts:=λH A hA h i=>by let h:=h _ iz;let(b,vs,e,l,q):=h;cases e;let hl:=q.length;show#[λhi=>#[vs,vs[i]'(),l,by simp],λhi=>#[vs,l,()],λt ht x H' y=>?_];let(rfl,y):=y;let(v,e1,e2):=q.get ht;have:=y vs l;rw[e1] at this;cases this;calc#[aW.refl _,e2]
def Vf{z:Str}:Wk K (Its z) [] (z.cps.toList.map λc=>T.str #[527]):=λH A hA h i=>by show#[λhi=>by rw[bS,Fq] at hi;calc hi,λhi=>by rw[bS,Fq] at hi;calc Ya hi,λt ht x H' y=>?_];let(rfl,c,hc,rfl):=y;rw[fW,DD,hc] at ht;cases ht;calc#[aW.refl _,cO]
def eG{l:Expr}{f:FE}(h:VE X Z l f):VI X Z tg l (afI f):=.mk λtm=>PI.weak (Jz 513) λσ H R #[ρ,O,q,I,hf,k]=>#[ρ,O,_,I,hf,λt ht v H' s a=>by split at ht;let a0:=a;let(p,vs,rfl,l,_):=a;calc .inl #[p,9,#[vs,l.sq],k _ ht _ H' _ s (λp hp=>by rw[fE.mp hp];calc a0) D2];let a0:=a;let(p,vs,rfl,l,_):=a;calc .inr (.inl #[p,9,#[vs,l],k _ ht _ H' _ s (λp hp=>by rw[fE.mp hp];calc a0) Ve]);let e:=a;calc .inr (.inr #[_,e,k _ ht _ H' [] s (λp hp=>nomatch hp) Vf]);calc ht.elim]
def rangeT(lo:Int)(n:Nat):List T:=(List.range n).map λi=>T.int (lo+((i:Nat):Int))
theorem JA{lo:Int}:Wk K (Itr lo n) [] (rangeT lo n):=λH A hA h i=>by
 unfold rangeT;show#[λhi=>by rw[bS,pJ] at hi;calc hi,λhi=>by rw[bS,pJ] at hi;calc Ya hi,λt ht x H' y=>?_];let(rfl,rfl):=y;rw[fW] at ht;cases e:(List.range n)[i]? with
 |none=>rw[e] at ht;cases ht
 |some j=>
  rw[e] at ht;let hj:j=i:=by have:=c7.mp e;let(h1,h2):=this;simpa using h2.symm
  subst hj;cases ht;calc#[aW.refl _,bw]
def pR1(ts:List T)(Q:List T->Prop):Prop:=match ts with
 |[.int j]=>-(2 ^ 62)<=j/\j<2 ^ 62/\Q (rangeT 0 j.toNat)
 |_=>False
def Vg(g:FA)(p:List T->(List T->Prop)->Prop):FI:=λρ Q=>g ρ λts=>p ts Q
def cX{a:Expr}{g:FE}{pos:Pos}(hg:Gl X "range")(hm:X.mg "range"=none)(ha:VR X Z a g)(hs:starEach [a] 3=[(false,eval a 3)]:=by rfl) :
  VI X Z tg (.Call (.Name "range" p) [a] [] pos) (Vg (gj g t9) pR1):=.mk λtm=>PI.weak (FH hg hm ((aO ha aX hs) tm) hs) λσ H R #[ρ,O,q,I,hf,k]=>#[ρ,O,_,I,hf,λts hW vs H' s a=>by
 unfold pR1 at hW;split at hW;let(v,rfl,a1):=dH a;calc#[_,by rw[a1.int],hW.1,hW.2.1,k _ hW.2.2 _ H' [] s (λp hp=>nomatch hp) JA];calc hW.elim]
abbrev FG:=T->En->(En->Prop)->Prop
abbrev Ph:=List T->En->(En->Prop)->Prop
def lG(X:Cx)(Z:Zc)(tm:List 483)(is:qao)(h:FG):TG:=λv σ H Q=>∃ρ O t q,aB X.K Z tm O ρ σ H/\At X.K H 242 t v/\h t ρ q/\∀ρ',q ρ'->∀O' σ',aB X.K Z tm O' ρ' σ' H->(∀a∈roots O',a∈roots O)->(∀(j:Nat),j∉is->O'[j]?=O[j]?)->σ'.length=σ.length->(∀(j:Nat),j∉is->σ'[j]?=σ[j]?)->Q σ' H
def lGs(X:Cx)(Z:Zc)(tm:List 483)(is:qao)(h:Ph):Oc:=λvs σ H Q=>∃ρ O ts q,aB X.K Z tm O ρ σ H/\aD X.K H 242 ts vs/\h ts ρ q/\∀ρ',q ρ'->∀O' σ',aB X.K Z tm O' ρ' σ' H->(∀a∈roots O',a∈roots O)->(∀(j:Nat),j∉is->O'[j]?=O[j]?)->σ'.length=σ.length->(∀(j:Nat),j∉is->σ'[j]?=σ[j]?)->Q σ' H
def VG(X:Cx)(Z:Zc)(tg:Expr)(is:qao)(h:FG):Prop:=Bx λtm=>PG X tg (lG X Z tm is h)
instance{X:Cx}{Z:Zc}{tg:Expr}{is:qao}{h:FG}:CoeFun (VG X Z tg is h) λ_=>∀tm,PG X tg (lG X Z tm is h):=#[λh=>Bx.h h]
def Z8(X:Cx)(Z:Zc)(tgs:qap)(is:qao)(h:Ph):Prop:=Bx λtm=>IK X tgs (lGs X Z tm is h)
instance{X:Cx}{Z:Zc}{tgs:qap}{is:qao}{h:Ph}:CoeFun (Z8 X Z tgs is h) λ_=>∀tm,IK X tgs (lGs X Z tm is h):=#[λh=>Bx.h h]
def hName(i:Nat):FG:=λt ρ Q=>Q (ρ.set i (some (t,false)))
def aM{pos:Pos}(hN:X.N.Nodup)(hi:X.N[i]?\x)(hx:Loc 39 x)(hp:aY Z i)(hf:X.fn x=true\/X.env.scope.names.lookup x\.local:=by first|calc .inl rfl|calc .inr rfl|assumption) :
  VG X Z (.Name x pos) [i] (hName i):=.mk λtm=>PG.weak (Od hN hi hx hf) λv σ H Q #[ρ,O,t,q,I,a,h,k] =>
 k _ h _ _ (I.put hp a) (cq i) (λj hj=>uG (λe=>hj (by simp[e]))) 6 λj hj=>uG (λe=>hj (by simp[e]))
def afJ:Ph:=λts ρ Q=>ts=[]/\Q ρ
def Ss(h:FG)(hs:Ph):Ph:=λts ρ Q=>match ts with
 |t::r=>h t ρ λρ'=>hs r ρ' Q
 |[]=>False
def Z9(n:Nat)(h:Ph):FG:=λt ρ Q=>match t with
 |.tup ts=>25=n/\h ts ρ Q
 |_=>False
def dI:Z8 X Z [] [] afJ:=.mk λtm=>IK.weak Oe λvs σ H Q #[ρ,O,ts,q,I,a,h,k]=>by
 let(rfl,h):=h;let e:vs=[]:=by simpa only[aD] using a
 calc#[e,k _ h O σ I (λ_ z=>z) (λ_ _=>rfl) 9 λ_ _=>rfl]
def bq{is js:qao}{h:FG}{hs:Ph}(h1:VG X Z e is h)(h2:Z8 X Z es js hs)(hse:(assignEach (e::es) 3).map (·.2)=assign e 3::(assignEach es 3).map (·.2):=by rfl):Z8 X Z (e::es) (is++js) (Ss h hs):=.mk λtm=>IK.weak (IM (h1 tm) (h2 tm) hse) λvs σ H Q #[ρ,O,ts,q,I,a,hh,k]=>by
 unfold Ss at hh;split at hh;erw[aD] at a;let(v,r,rfl,a1,a2):=a;show#[v,r,9,ρ,O,_,_,I,a1,hh,λρ' hρ O' σ' I' ro eo l e=>#[ρ',O',_,q,I',a2.bC λb hb=>?_,hρ,λρ2 h2 O2 σ2 I2 ro2 eo2 l2 e2=>k ρ2 h2 O2 σ2 I2 (λa z=>ro a (ro2 a z)) (λj hj=>?_) (l2.trans l) λj hj=>?_]];rcases fO.mp hb with z|z
 calc hX _ (ro b z);calc jY _ z;rw[fO,not_or] at hj;calc (eo2 j hj.2).trans (eo j hj.1);rw[fO,not_or] at hj;calc (e2 j hj.2).trans (e j hj.1);calc hh.elim
def e_{k:Nat}{is:qao}{h:Ph}{pos:Pos}(hc:X.calm=true)(hh:Z8 X Z es is h)(hn:(assignEach es 3).length=n:=by rfl)(yC:(assignEach es 3).findIdx? (·.1)=none:=by rfl):VG X Z (.Tuple es k pos) is (Z9 n h):=.mk λtm=>PG.weak (Um hc (hh tm) hn yC) λv σ H Q #[ρ,O,t,q,I,a,h',kk]=>by unfold Z9 at h';split at h';erw[At] at a;let(p,vs,rfl,s,a):=a;calc#[p,vs,9,s,a.length.trans h'.1,ρ,O,_,q,I,a,h'.2,kk];calc h'.elim
def afK(f:FE)(h:FG):FS:=λd ρ=>f ρ λt=>h t ρ d.nx
def Vh{tg:Expr}{f:FE}{is:qao}{h:FG}{pos:Pos}(he:VE X Z e f)(hg:VG X Z tg is h)(hs:swapsWithSole [tg] e pos.line 3=pure false:=by rfl)(hw:swappedStores [tg] e 3=pure none:=by rfl)(h1:(assignEach [tg] 3).map (·.2)=[assign tg 3]:=by rfl):VS X Z (.Assign [tg] e pos) (afK f h):=.mk λtm=>PS.weak (IP (he tm) (hg tm) hs hw h1) λD σ H #[ρ,O,d,I,q,F] =>
 #[ρ,O,_,I,q,λt ht v H' s a=>#[ρ,O,t,_,I.same s,a,ht,λρ' hρ O' σ' I' _ _ _ _=>F.nx O' ρ' σ' H' I' hρ]]
def oZ(ts:List T)(h:FG)(g:FS):FS:=λd ρ=>∃Pv:Nat->En->Prop,Pv 0 ρ/\(∀(i:Nat) t ρ',ts[i]?\t->Pv i ρ'->h t ρ' λρ2=>g {nx:=Pv 525,ct:=Pv 525,bk:=d.nx,rt:=d.rt} ρ2)/\∀ρ',Pv 25 ρ'->d.nx ρ'
def afL(f:FI)(h:FG)(g:FS):FS:=λd ρ=>f ρ λts=>oZ ts h g d ρ
theorem cQ{body:qaq}{f:FI}{is:qao}{h:FG}{g:FS}{pos:Pos}(hp:PassesOwn 17 X.A 3 X.xe)(hc:X.calm=true)(hi:VI X Z tg iter f)(hg:VG X Z tg is h)(hb:kx X Z body g)(hs:∀x,foldedSetIterable iter 3 x=pure x:=by intro _;rfl):VS X Z (.For tg iter body [] pos) (afL f h g):=by
 show .mk λtm ε s σ H D I0 hw=>?_;let(ρ,O,d,I,q,F):=hw;show By (g:=λv σ H Q=>∃bu,lG X Z 237 is h v σ H Q) (tb:=λD σ H=>∃bu,lS X Z 237 g D σ H) hp hc (hi tm) (λε s σ H v u Q I r #[bu,z]=>hg 237 ε s σ H v u Q I r z) (λε s σ H D I #[bu,z]=>hb 237 ε s σ H D I z) hs ε s σ H D I0 #[ρ,O,_,I,q,λts hW J H' bu s a wk=>?_];let(Pv,p0,step,fin):=hW;let J0:=(I.same s).pP λp hp=>by
  rcases fO.mp hp with z|z
  calc a p z;exact (I.same s).lh p z
 show#[λi m σ H=>m=25-i/\i<=25/\∃ρ O,aB X.K Z 237 O ρ σ H/\Pv i ρ,#[25,by simp,fB _,ρ,O,J0,p0],?_];rintro i m σ1 H1 ⟨rfl,hi,ρ1,O1,I1,p1⟩;let(w1,w2,w3):=wk H1 (av Z O1) I1.OT (λp hp=>I1.lh p (hX _ hp)) i;let un:∀{O:HD}{ρ:En}{σ:St}{H:Hp},aB X.K Z (bu++tm) O ρ σ H->aB X.K Z tm O ρ σ H:=λI=>I.pP λp hp=>I.lh p (jY _ hp);by_cases di:i<25;show .inr #[w1 di,λσ' H'=>∃ρ O,aB X.K Z 237 O ρ σ' H'/\Pv 525 ρ,λσ' H' #[ρ',O',I',p']=>#[25-525,(),9,di,ρ',O',I',p'],λx H2 y=>?_];let e:ts[i]?\ts[i]:=by simp[di]
 let(s2,a2):=w3 ts[i] e x H2 y;calc#[bu,ρ1,O1,ts[i],_,I1.same s2,a2,step i _ ρ1 e p1,λρ2 h2 O2 σ2 I2 _ _ _ _=>#[bu,ρ2,O2,_,I2,h2,#[λO ρ σ H I p=>#[ρ,O,I,p],λO ρ σ H r v z p=>F.rt O ρ σ H r v z.pP p,λO ρ σ H I p=>F.nx O ρ σ H (un I) p,λO ρ σ H I p=>#[ρ,O,I,p]]]];let e:i=ts.length:=by lia
 subst e;calc .inl #[w2 (9),F.nx O1 ρ1 σ1 H1 (un I1) (fin ρ1 p1)]
def Vi(c:FB)(g:FS):FS:=λd ρ=>∃(Pv:Nat->En->Prop),(∃m,Pv m ρ)/\∀m ρ',Pv m ρ'->c ρ' λb=>if b=true then g {nx:=λρ2=>∃m',m'<m/\Pv m' ρ2,ct:=λρ2=>∃m',m'<m/\Pv m' ρ2,bk:=d.nx,rt:=d.rt} ρ' else d.nx ρ'
theorem qV{body:qaq}{fc:FB}{g:FS}{pos:Pos}(hp:PassesOwn 17 X.A 3 X.xe)(hc:VC X Z c fc)(hb:kx X Z body g):VS X Z (.While c body [] pos) (Vi fc g):=.mk λtm=>PS.weak (yD hp (hc tm) (hb tm)) λD σ H #[ρ,O,d,I,q,F]=>by
 let(Pv,(m0,p0),step):=q;show#[λm σ H=>∃ρ O,aB X.K Z tm O ρ σ H/\Pv m ρ,#[m0,ρ,O,I,p0],?_];rintro m σ1 H1 ⟨ρ1,O1,I1,p1⟩;show#[ρ1,O1,_,I1,step m ρ1 p1,λb hb H2 s2=>?_];cases b with
 |true=>calc#[λσ' H'=>∃m',m'<m/\∃ρ O,aB X.K Z tm O ρ σ' H'/\Pv m' ρ,λσ' H' z=>z,ρ1,O1,_,I1.same s2,hb,#[λO ρ σ H I #[m',hm,p]=>#[m',hm,ρ,O,I,p],F.rt,F.nx,λO ρ σ H I #[m',hm,p]=>#[m',hm,ρ,O,I,p]]]
 |false=>calc F.nx O1 ρ1 σ1 H2 (I1.same s2) hb
end
def ff(O:HD)(n:Nat):roots (O++List.replicate n none)=roots O:=by
 unfold roots;rw[List.filterMap_append];have:(List.replicate n (none:qar)).filterMap id=[]:=by
  induction n with
  |zero=>rfl
  |succ n ih=>rw[HW,tV];exact ih
 rw[this,HX]
def aB.longer{Z:Zc}{tm:List 483}{ρ:En}(I:aB K Z tm O ρ σ H)(n:Nat){τ:St}(hτ:τ.length=n) :
  aB K Z tm (O++List.replicate n none) (ρ++List.replicate n none) (σ++τ) H:=by
 let ea:av Z (O++List.replicate n none)=av Z O:=by unfold av;rw[ff]
 show#[by simp[I.lσ,hτ],by simp[I.lO],λi e h=>?_,by rw[ff];calc I.nd,λa h=>I.own a (by rw[ff] at h;calc h),λp hp=>?_,I.ox,I.keep,λp hp=>by rw[ea];calc I.lh p hp];rw[ea];by_cases hi:i<ρ.length;rw[pI hi] at h;let(o,s,h1,h2,h3):=I.sl i e h;calc#[o,s,by rw[pI (by rw[I.lO];calc hi)];calc h1,by rw[pI (by rw[I.lσ];calc hi)];calc h2,h3];rw[uF (),HV] at h;split at h
 rename_i hl
 cases h;show#[none,τ[i-σ.length]'(by rw[I.lσ,hτ];calc hl),?_,?_,9];rw[uF (by rw[I.lO];lia),HV,ι (by rw[I.lO];calc hl)];rw[uF (by rw[I.lσ];lia)];simp;cases h;have:=I.par p hp;let hl:=(c7.mp this).1;rw[pI hl];calc this
def aB.Vj{Z:Zc}{tm:List 483}{ρ:En}{u o:HO}(I:aB K (Z.ex a) tm O ρ σ H)(hu:H a\u)(hm:nS u=true)(h0:Z.H0 a=none):aB K (Z.ex a) tm O ρ σ (upd H a o):=by
 let Ik:a∈av (Z.ex a) O:=jY _ iz;let nr:∀b∈roots O,b≠a:=λb hb e=>(I.own b hb).2.1 (by rw[e];calc iz);show#[I.lσ,I.lO,λi e h=>?_,I.nd,λb hb=>?_,I.par,λb hb=>?_,λb o' e n=>?_,λp hp=>(I.lh p hp).wrote Ik hu hm];let(o',s,h1,h2,h3):=I.sl i e h;show#[o',s,h1,h2,h3.map (λ_ _ q=>q.wrote Ik hu hm) λb t e q=>?_];subst e;calc q.map (aG (nr b 540)) λ_ _ z=>z.wrote Ik hu hm;let(q1,q2,v,e,m):=I.own b hb;calc#[q1,q2,v,by rw[aG (nr b hb)];calc e,m];by_cases e:b=a;subst e;rw[aK];simp;rw[aG e];calc I.ox b hb;have:b≠a:=λe'=>by subst e';let e2:Z.H0 b\o':=e;rw[h0] at e2;cases e2
 rw[aG this];calc I.keep b o' e n
def cU(h:FG)(fc:FB)(fe:FE)(ρ:En):List T->(List T->Prop)->Prop
 |[],Q=>Q []
 |t::ts,Q=>h t ρ λρ2=>fc ρ2 λb=>if b=true then fe ρ2 λu=>cU h fc fe ρ ts λus=>Q (u::us) else cU h fc fe ρ ts Q
def D3(n:Nat)(is:qao)(f:FI)(h:FG)(fc:FB)(fe:FE):FP:=λρ Q=>(is.all λj=>decide (ρ.length<=j))=true/\f ρ λts=>25<=sizeLine/\cU h fc fe (ρ++List.replicate n none) ts λus=>Q (.fr (.lst us))
def Yk(X:Cx)(Z:Zc)(ifs:qap)(f:FB):Prop:=Bx λtm=>Jf X ifs (lB X Z tm f)
instance{X:Cx}{Z:Zc}{ifs:qap}{f:FB}:CoeFun (Yk X Z ifs f) λ_=>∀tm,Jf X ifs (lB X Z tm f):=#[λh=>Bx.h h]
def JB:FB:=λ_ Q=>Q true
def Jf.weak{e:qap}{t t':TT}(h:Jf X e t)(hw:∀σ H Q,t' σ H Q->t σ H Q):Jf X e t':=λε s σ H Q I q=>h ε s σ H Q I (hw _ _ _ q)
section
variable{Z:Zc}
def iK:Yk X Z [] JB:=.mk λtm=>Jf.weak OM λσ H Q #[ρ,O,q,I,h,k]=>k true h H 45
def j5{f:FB}(h:VC X Z c f):Yk X Z [c] f:=.mk λtm=>ON 513
def cG(X:Cx)(Z:Zc)(tm:List 483)(is:qao)(h:FG):TG:=λv σ H Q=>∃D bu,lG X (Z.ex D) 237 is h v σ H Q
def cB(X:Cx)(Z:Zc)(tm:List 483)(f:FB):TT:=λσ H Q=>∃D bu,lB X (Z.ex D) 237 f σ H Q
def cE(X:Cx)(Z:Zc)(tm:List 483)(f:FE):TE:=λσ H Q=>∃D bu,lE X (Z.ex D) 237 f σ H Q
theorem Vk{Z:Zc}{tm bu:List 483}{ρ:En}{H1:Hp}{D:Addr}{J:It}{ts:List T}{h:FG}{fc:FB}{fe:FE}{is:qao}{q:Rt->Prop}{Q:VK}(X:Cx)(hK:X.K=K)(I:aB K Z 237 O ρ σ H1)(hD:H1 D=none)(wk:Wk K J bu ts)(hz:25<=sizeLine)(his:∀j∈is,ρ.length<=j)(hw:cU h fc fe (ρ++List.replicate n none) ts λus=>q (.fr (.lst us)))(k:∀r,q r->∀v H',aW H1 H'->h9 K Z tm O ρ σ H' r v->Q v H') :
  Jg J (cG X Z tm is h) (cB X Z tm fc) (cE X Z tm fe) n σ D (Q (.ref D)) H1:=by
 subst hK;let(n1,n2,n3):=I.fresh hD;show#[λi m acc H2=>m=25-i/\i<=25/\aW H1 H2/\H2 D\.lst acc/\∃us,aD X.K H2 (av (Z.ex D) O) us acc/\acc.length<=i/\aB X.K (Z.ex D) 237 O ρ σ H2/\cU h fc fe (ρ++List.replicate n none) (ts.drop i) λr=>q (.fr (.lst (us++r))),
  #[25,by simp,fB _,aI hD,aK,[],451,fB _,I.new hD 9,by simpa using hw],?_]
 rintro i m acc H2 ⟨rfl,hi,s2,hD2,us,a2,hl,I2,w2⟩;show#[hD2,?_];let(w1,w2',w3):=wk H2 (av (Z.ex D) O) I2.OT (λp hp=>I2.lh p (hX _ hp)) i;by_cases di:i<25;show .inr #[w1 di,(),λx H3 y=>?_];let e:ts[i]?\ts[i]:=by simp[di]
 let(s3,a3):=w3 ts[i] e x H3 y;rw[YF di] at w2;let I3:=(I2.same s3).longer n (τ:=List.replicate n none) 6;let ea:av (Z.ex D) (O++List.replicate n none)=av (Z.ex D) O:=by unfold av;rw[ff]
 show#[D,bu,_,_,ts[i],_,I3,by rw[ea];calc a3,w2,λρ4 hρ4 O4 σ4 I4 ro4 eo4 l4 e4=>#[#[?_,λj v hj=>?_],D,bu,ρ4,O4,_,I4,hρ4,λb hb H5 s5=>?_]];rw[l4];simp;let Z_:=(c7.mp hj).1;have:j∉is:=λz=>by have:=his j z;have:=I.lσ;lia
 rw[e4 j this,pI Z_];calc hj;let S5:=(s2.trans s3).trans s5;let J5:=(I2.same s3).same s5;cases b with
 |true=>
   show ZG #[D,bu,ρ4,O4,_,I4.same s5,hb,λu hu y H6 s6 a6=>?_];let hD6:=s6 _ _ (s5 _ _ (s3 _ _ hD2));show#[hD6,25-525,(),9,di,λb o e=>?_,aK,us++[u],?_,by simp;lia,(J5.same s6).Vj hD6 9 n3,?_];rw[aG (bL e hD)];calc s6 _ _ (S5 _ _ e);let Ik:D∈av (Z.ex D) O:=jY _ iz;let a6':At X.K H6 (av (Z.ex D) O) u y:=a6.bC λb hb=>by
    rcases fO.mp hb with z|z
    let(j,hj):=TY.mp (aH.mp z);let Z_:=(c7.mp hj).1;let nj:j∉is:=λz=>by have:=his j z;have:=I.lO;lia
    have:=eo4 j nj;rw[pI Z_,hj] at this;calc hX _ (aH.mpr (fM this));exact jY _ z
   calc aD.wrote Ik hD6 9 ((((a2.same s3).same s5).same s6).append (aD.cons a6' 451));let e2:∀r,(us++[u])++r=us++(u::r):=λr=>by simp
   erw[e2];calc hu
 |false=>exact ZF #[25-525,(),9,di,S5,s5 _ _ (s3 _ _ hD2),us,(a2.same s3).same s5,(),J5,hb]
 let e:i=ts.length:=by lia
 subst e;show .inl #[w2' (9),?_];rw[List.drop_length] at w2;erw[cU,HX] at w2;show k _ w2 _ H2 s2 #[D,9,I2.pP λp hp=>I2.lh p (jY _ hp),#[acc,hD2,a2],n3,n2]
def D4{tm:List 483}{is:qao}{f:FI}{h:FG}{fc:FB}{fe:FE}{Q:VK}(hq:lP X Z tm (D3 n is f h fc fe) σ H Q):Ji n (lI X Z tm f) (cG X Z tm is h) (cB X Z tm fc) (cE X Z tm fe) σ H Q:=by
 let(ρ,O,q,I,(his,hf),k):=hq;show#[ρ,O,_,I,hf,λts hW J H' bu s a wk D hD=>?_];let I':=(I.same s).pP λp hp=>by
  rcases fO.mp hp with z|z
  calc a p z;exact (I.same s).lh p z
 show Vk X 9 I' hD wk hW.1 (λj hj=>?_) hW.2 λr hr v H2 s2 z=>k r hr v H2 (s.trans s2) z;have:=RX.mp his j hj;calc Θ this
variable{ts:χ}{elt tg:Expr}{ifs:qap}{pos:Pos}{f:FI}{h:FG}{fc:FB}{fe:FE}{is:qao}
def eI(hc:X.calm=true)(hS:k9 X.N ts 39 sc=true)(hi:VI X Z tg iter f)(hg:∀D cl C fp s H,VG 29 (Z.ex D) tg is h)(ht:∀D cl C fp s H,Yk 29 (Z.ex D) ifs fc)(he:∀D cl C fp s H,VE 29 (Z.ex D) elt fe)(hs:∀x,foldedSetIterable iter 3 x=pure x:=by intro _;rfl):VP X Z 71 (D3 25 is f h fc fe):=.mk λtm=>
 PE.weak (OQ hc hS (hi tm) (λcl C fp s H ε s' σ H' v u Q I r #[D,bu,z]=>hg D cl C fp s H 237 ε s' σ H' v u Q I r z) (λcl C fp s H ε s' σ H' Q I #[D,bu,z]=>ht D cl C fp s H 237 ε s' σ H' Q I z)
  (λcl C fp s H ε s' σ H' Q I #[D,bu,z]=>he D cl C fp s H 237 ε s' σ H' Q I z) hs) λσ H Q hq=>D4 hq
def yW{y:Str}{py yP:Pos}(hN:X.N.Nodup)(hy:X.N[i]?\y)(hx:Loc 39 y)(hc:X.calm=true)(hS:k9 X.N ts 39 sc=true)(hi:VI X Z tg iter f)(hg:∀D cl C fp s H,VG 29 (Z.ex D) tg is h)(ht:∀D cl C fp s H,Yk 29 (Z.ex D) ifs fc)(he:∀D cl C fp s H,VE 29 (Z.ex D) elt fe)(ZP:swapsWith 71 (some (.Name y py)) yP.line 3=pure true)(hs:∀x,foldedSetIterable iter 3 x=pure x)(hf:X.fn y=true\/X.env.scope.names.lookup y\.local)(tm:List 483) :
  PS X (.Assign [.Name y py] 71 yP) (Og (lP X Z tm (D3 25 is f h fc fe)) (l9 i)) :=
 PS.weak (OR hN hy hx hc hS (hi tm) (λcl C fp s H ε s' σ H' v u Q I r #[D,bu,z]=>hg D cl C fp s H 237 ε s' σ H' v u Q I r z) (λcl C fp s H ε s' σ H' Q I #[D,bu,z]=>ht D cl C fp s H 237 ε s' σ H' Q I z)
  (λcl C fp s H ε s' σ H' Q I #[D,bu,z]=>he D cl C fp s H 237 ε s' σ H' Q I z) ZP hs hf) λD σ H hq=>D4 hq
def D5{y:Str}{py yP:Pos}(hN:X.N.Nodup)(hy:X.N[i]?\y)(hx:Loc 39 y)(hc:X.calm=true)(hS:k9 X.N ts 39 sc=true)(hi:VI X Z tg iter f)(hg:∀D cl C fp s H,VG 29 (Z.ex D) tg is h)(ht:∀D cl C fp s H,Yk 29 (Z.ex D) ifs fc)(he:∀D cl C fp s H,VE 29 (Z.ex D) elt fe)(hp:aY Z i)(ZP:swapsWith 71 (some (.Name y py)) yP.line 3=pure true:=by rfl)(hs:∀x,foldedSetIterable iter 3 x=pure x:=by intro _;rfl)(hf:X.fn y=true\/X.env.scope.names.lookup y\.local:=by first|calc .inl rfl|calc .inr rfl|assumption) :
  VS X Z (.Assign [.Name y py] 71 yP) (Z5 i (fX (D3 25 is f h fc fe))):=.mk λtm=>
 PS.weak (yW hN hy hx hc hS hi hg ht he ZP hs hf tm) λD σ H #[ρ,O,d,I,q,F]=>#[ρ,O,_,I,q,λr hr v H' s z=>F.nx _ _ _ H' (z.env.put hp z.at) hr]
def ie{h:FG}{fc:FB}{fe:FE}{ρ:En}{ts:List T}{Q:List T->Prop}(p:T->Bool)(u:T->T)(step:∀t∈ts,∀k:List T->Prop,∀r:List T->Prop,(if p t=true then r [u t] else r [])->h t ρ λρ2=>fc ρ2 λb=>if b=true then fe ρ2 λx=>r [x] else r [])(hq:Q ((ts.filter p).map u)):cU h fc fe ρ ts Q:=by
 induction ts generalizing Q with
 |nil=>calc hq
 |cons t ts ih=>
  let st:=step t iz (λ_=>True) (λl=>match l with
   |[x]=>cU h fc fe ρ ts λus=>Q (x::us)
   |_=>cU h fc fe ρ ts Q)
  let rest:∀{Q':List T->Prop},Q' ((ts.filter p).map u)->cU h fc fe ρ ts Q':=λhq=>ih (λt ht=>step t (iB _ ht)) hq;show st ?_;by_cases hp:p t=true;rw[ι hp];show rest ?_;rw[YG hp] at hq;calc hq;rw[θ hp];show rest ?_;rw[YH hp] at hq;calc hq
end
def gm(K:qaf)(H:Hp)(A:zm):List Bool->zm->List T->qak->Prop
 |[],as,ts,vs=>as=[]/\ts=[]/\vs=[]
 |false::fs,as,ts,vs=>∃t j4 v lr,ts=t::j4/\vs=v::lr/\At K H A t v/\gm K H A fs as j4 lr
 |true::fs,as,ts,vs=>∃a uT t j4 lr,as=a::uT/\ts=t::j4/\vs=.ref a::lr/\dq K H A a t/\gm K H A fs uT j4 lr
def acY(K:qaf)(H:Hp)(as Ox:zm)(H':Hp)(us:List T):Rt->V->Prop
 |.vw t,v=>At K H' (as++Ox) t v/\Paired (λa u=>dq K H' (as++Ox) a u) as us
 |.fr t,v=>∃b,v=.ref b/\H b=none/\b∉as/\dq K H' (b::(as++Ox)) b t/\Paired (λa u=>dq K H' (b::(as++Ox)) a u) as us
abbrev GT:=List T->(List T->Rt->Prop)->Prop
def BX(K:qaf)(fs:List Bool)(G:GT):Sp:=λvs H Q _=>∃ts as Ox q,as.Nodup/\(∀a∈as,a∉Ox)/\(∀a∈Ox,H a≠none)/\gm K H (as++Ox) fs as ts vs/\G ts q /\
 ∀us r,q us r->∀v H',(∀b o,H b\o->b∉as->H' b\o)->acY K H as Ox H' us r v->Q v H'
def ro:List Bool->zm->HD
 |[],_=>[]
 |false::fs,as=>none::ro fs as
 |true::fs,a::as=>some a::ro fs as
 |true::fs,[]=>none::ro fs []
def pz:List Bool->zm->Nat->List (Nat×Addr)
 |[],_,_=>[]
 |false::fs,as,k=>pz fs as 93
 |true::fs,a::as,k=>(k,a)::pz fs as 93
 |true::fs,[],k=>pz fs [] 93
def wc:List Bool->List T->En
 |f::fs,t::ts=>some (t,f)::wc fs ts
 |_,_=>[]
def lu:List Bool->En->List T
 |[],_=>[]
 |false::fs,ρ=>lu fs ρ.tail
 |true::fs,some (t,_)::ρ=>t::lu fs ρ
 |true::fs,ρ=>.bY::lu fs ρ.tail
section
variable{A:zm}
theorem gp:∀{fs:List Bool}{as:zm}{ts:List T}{vs:qak},gm K H A fs as ts vs->25=fs.length/\87=fs.length/\(ro fs as).length=fs.length/\(wc fs ts).length=fs.length/\roots (ro fs as)=as
 |[],as,ts,vs,h=>by let(rfl,rfl,rfl):=h;calc#[9,9,9,9,9]
 |false::fs,as,ts,vs,h=>by let(t,j4,v,lr,rfl,rfl,_,h):=h;let(h1,h2,h3,h4,h5):=gp h;calc#[by simp[h1],by simp[h2],by simp[ro,h3],by simp[wc,h4],by simpa[ro,roots] using h5]
 |true::fs,as,ts,vs,h=>by let(a,uT,t,j4,lr,rfl,rfl,rfl,_,h):=h;let(h1,h2,h3,h4,h5):=gp h;show#[by simp[h1],by simp[h2],by simp[ro,h3],by simp[wc,h4],?_];erw[ro,roots,tV,id] at h5 ⊢;rw[h5]
theorem qW:∀{fs:List Bool}{as:zm}{ts:List T}{vs:qak},gm K H A fs as ts vs->∀(i:Nat) e,(wc fs ts)[i]?\e->∃o s,(ro fs as)[i]?\o/\(vs.map some)[i]?\s/\lg K H A e o s
 |[],as,ts,vs,h,i,e,he=>by simp[wc] at he
 |false::fs,as,ts,vs,h,i,e,he=>by
  let(t,j4,v,lr,rfl,rfl,a,h):=h;cases i with
  |zero=>erw[wc,XZ,Option.some.injEq] at he;subst he;calc#[none,some v,9,9,9,v,9,a]
  |succ i=>calc qW h i e (by simpa[wc] using he)
 |true::fs,as,ts,vs,h,i,e,he=>by
  let(a,uT,t,j4,lr,rfl,rfl,rfl,r,h):=h;cases i with
  |zero=>erw[wc,XZ,Option.some.injEq] at he;subst he;calc#[some a,some 110,9,9,a,9,9,r]
  |succ i=>calc qW h i e (by simpa[wc] using he)
theorem nX:∀{fs:List Bool}{as:zm}{ts:List T}{vs:qak},gm K H A fs as ts vs->∀a∈as,∃t,dq K H A a t
 |[],as,ts,vs,h,a,ha=>by let(rfl,rfl,rfl):=h;cases ha
 |false::fs,as,ts,vs,h,a,ha=>by let(t,j4,v,lr,rfl,rfl,_,h):=h;calc nX h a ha
 |true::fs,as,ts,vs,h,a,ha=>by
  let(b,uT,t,j4,lr,rfl,rfl,rfl,r,h):=h;rcases dQ.mp ha with z|z
  subst z;calc#[t,r];calc nX h a z
theorem JC:∀{fs:List Bool}{as:zm}{ts:List T}{vs:qak}(k:Nat),gm K H A fs as ts vs->(pz fs as k).map (·.2)=as/\∀p∈pz fs as k,k<=p.1/\(ro fs as)[p.1-k]?\some p.2
 |[],as,ts,vs,k,h=>by let(rfl,rfl,rfl):=h;calc#[9,λ_ z=>nomatch z]
 |false::fs,as,ts,vs,k,h=>by
  let(t,j4,v,lr,rfl,rfl,_,h):=h;let(h1,h2):=JC 93 h;show#[h1,λp hp=>?_];let(l,e):=h2 p hp;show#[(),?_];have:p.1-k=(p.1-93)+1:=by lia
  rw[this];simpa[ro] using e
 |true::fs,as,ts,vs,k,h=>by
  let(a,uT,t,j4,lr,rfl,rfl,rfl,_,h):=h;let(h1,h2):=JC 93 h;show#[by simp[pz,h1],λp hp=>?_];rcases dQ.mp hp with z|z
  subst z;calc#[cM _,by simp[ro]];let(l,e):=h2 p z;show#[(),?_];have:p.1-k=(p.1-93)+1:=by lia
  rw[this];simpa[ro] using e
theorem we{R:Addr->T->Prop}{ρ:En}:∀{fs:List Bool}{as:zm}{ts:List T}{vs:qak}(k:Nat),gm K H A fs as ts vs->(∀p∈pz fs as k,∃t,ρ[p.1]?\some (t,true)/\R p.2 t)->Paired R as (lu fs (ρ.drop k))
 |[],as,ts,vs,k,h,_=>by let(rfl,rfl,rfl):=h;calc .nil
 |false::fs,as,ts,vs,k,h,q=>by let(t,j4,v,lr,rfl,rfl,_,h):=h;have:=we 93 h q;erw[lu,List.tail_drop];calc this
 |true::fs,as,ts,vs,k,h,q=>by
  let(a,uT,t,j4,lr,rfl,rfl,rfl,_,h):=h;have:=we (ρ:=ρ) 93 h λp hp=>q p (iB _ hp);let(u,e,r):=q (k,a) iz;let hk:=(c7.mp e).1;let e2:ρ[k]\(u,true):=by rw[eY hk] at e;exact Option.some.inj e
  rw[YF hk,e2];calc .cons r this
end
theorem yX{N:χ}{fs:List Bool}{as Ox:zm}{ts:List T}{Q:VK}{q:List T->Rt->Prop}{g:FS}(nd:as.Nodup)(nx:∀a∈as,a∉Ox)(ox:∀a∈Ox,H a≠none)(ha:gm X.K H (as++Ox) fs as ts vs)(kk:∀us r,q us r->∀v H',(∀b o,H b\o->b∉as->H' b\o)->acY X.K H as Ox H' us r v->Q v H')(hq:g {nx:=λρ=>q (lu fs ρ) (.vw .bY),rt:=λρ r=>q (lu fs ρ) r} (wc fs ts++List.replicate (N.length-25) none)) :
  lS X #[H,pz fs as 0,Ox] [] g {nx:=λ_ H'=>Q .bY H',rt:=Q} (start N vs) H:=by
 obtain⟨K,eK⟩:∃K,K=X.K:=#[_,9];unfold lS;rw[<- eK] at ha kk ⊢;let(l1,l2,l3,l4,l5):=gp ha;let(p1,p2):=JC 0 ha;let ea:av #[H,pz fs as 0,Ox] (ro fs as++List.replicate (N.length-ts.length) none)=as++Ox:=by unfold av;rw[ff,l5]
 let I0:aB K #[H,pz fs as 0,Ox] [] (ro fs as++List.replicate (N.length-ts.length) none) (wc fs ts++List.replicate (N.length-ts.length) none) (start N vs) H:=by
  show#[?_,?_,λi e he=>?_,by rw[ff,l5];calc nd,λa h=>?_,λp hp=>?_,ox,λb o e _=>e,λp hp=>nomatch hp];unfold L2.start;simp[l2,l4,l1];simp[l3,l4];rw[ea];by_cases hi:i<fs.length;rw[pI (by rw[l4];calc hi)] at he;let(o,s,h1,h2,h3):=qW ha i e he;show#[o,s,by rw[pI (by rw[l3];calc hi)];calc h1,?_,h3];unfold L2.start;rw[pI (by rw[bS,l2];calc hi)];calc h2;rw[List.getElem?_append_right (),HV] at he;split at he
  rename_i hl
  cases he;show#[none,none,?_,?_,9];rw[uF (),HV,ι (by rw[l3];rw[l4] at hl;calc hl)];unfold L2.start;rw[uF (by rw[bS];lia),HV,bS,ι (by rw[l2];rw[l4,l1] at hl;calc hl)];cases he;rw[ff,l5] at h;let(t,r):=nX ha a h;calc#[.inl (by rw[p1];calc h),nx a h,r.mut];let(_,e):=p2 p hp;rw[Nat.sub_zero] at e;rw[pI (c7.mp e).1];exact e
 let fin:∀{O:HD}{ρ:En}{σ:St}{H':Hp}{Z':Zc},Z'.P=pz fs as 0->aB K Z' [] O ρ σ H'->Paired (λa u=>dq K H' (av Z' O) a u) as (lu fs ρ):=λ{O ρ σ H' Z'} eP I=>by
  have:=we (ρ:=ρ) (R:=λa u=>dq K H' (av Z' O) a u) 0 ha λp hp=>?_;rw[List.drop_zero] at this;calc this;let e:=I.par p (by rw[eP];calc hp);let hl:=(c7.mp e).1;let N9:p.1<ρ.length:=by rw[<- I.lO];exact hl
  let(o,s',h1,h2,h3):=I.sl p.1 ρ[p.1] 6;rw[e] at h1;cases h1;cases q:ρ[p.1] with
  |none=>rw[q] at h3;cases h3
  |some tb=>
    let(t,b):=tb;rw[q] at h3;cases b with
    |false=>cases h3.1
    |true=>let(a',e1,_,r):=h3;cases e1;exact#[t,by rw[<- q];simp,r]
 let keep:∀{O:HD}{ρ:En}{σ:St}{H':Hp}{Z':Zc},Z'.H0=H->Z'.P=pz fs as 0->aB K Z' [] O ρ σ H'->∀b o,H b\o->b∉as->H' b\o:=λe0 eP I b o e n=>I.keep b o (by rw[e0];calc e) (by rw[eP,p1];calc n);let sub:∀{O:HD}{ρ:En}{σ:St}{H':Hp}{Z':Zc},Z'.P=pz fs as 0->aB K Z' [] O ρ σ H'->∀a∈as,a∈roots O:=λeP I a h=>by
  have:a∈(pz fs as 0).map (·.2):=by rw[p1];exact h
  let(p,hp,rfl):=k5.mp this;exact aH.mpr (fM (I.par p (by rw[eP];calc hp)))
 show#[_,_,_,I0,hq,#[λO ρ σ H' I h=>?_,λO ρ σ H' r v z h=>?_,λ_ _ _ _ _ h=>482,λ_ _ _ _ _ h=>482]];let sb:∀a∈as++Ox,a∈av #[H,pz fs as 0,Ox] O:=λa h=>by
  rcases fO.mp h with h|h
  calc hX _ (sub 9 I a h);exact jY _ h
 calc kk _ _ h .bY H' (keep 9 9 I) #[qO,Paired.pL (fin 9 I) λ_ _ q=>q.bC sb];cases r with
 |vw t=>
   let(I,a):=z;let sb:∀a∈as++Ox,a∈av #[H,pz fs as 0,Ox] O:=λa h=>by
    rcases fO.mp h with h|h
    calc hX _ (sub 9 I a h);exact jY _ h
   calc kk _ _ h v H' (keep 9 9 I) #[a.bC sb,Paired.pL (fin 9 I) λ_ _ q=>q.bC sb]
 |fr t=>
   let(b,rfl,I,hR,h0,hx):=z;let sb:∀a∈b::(as++Ox),a∈av (Zc.ex #[H,pz fs as 0,Ox] b) O:=λa h=>by
    rcases dQ.mp h with h|h
    rw[h];calc jY _ iz;rcases fO.mp h with h|h
    calc hX _ (sub 9 I a h);exact jY _ (iB _ h)
   calc kk _ _ h (.ref b) H' (keep 9 9 I) #[b,9,h0,λhb=>(I.own b (sub 9 I b hb)).2.1 iz,hR.bC sb,Paired.pL (fin 9 I) λ_ _ q=>q.bC sb]
section
def fnV{st:Stmt}{N:χ}{k:Nat}{fs:List Bool}{G:GT}(F:Ih K x qual st f fd)(S:az N ps 455)(hfs:fs.length=471)(fG:∀(bM:Value) (A:Around) (outer:List Env) (s:Shared) (H:Hp) (E:XK) (as Ox:zm),bH k 44->∀ts q,25=fs.length->G ts q ->
    ∃g,kx (hY iA P w K mg base N qual 455 f bM A outer s H E).vN #[H,pz fs as 0,Ox] (bJ st) g/\g {nx:=λρ=>q (lu fs ρ) (.vw .bY),rt:=λρ r=>q (lu fs ρ) r} (wc fs ts++List.replicate (N.length-25) none)) :
  eD P w K mg base iA 93 f fd ps (BX K fs G):=by
 show F.ok S (λvs H Q E h=>?_) (λbM A outer s H vs Q E hr h=>?_);let(ts,as,Ox,q,_,_,_,ha,_):=h;rw[<- hfs];calc (gp ha).2.1;let(ts,as,Ox,q,nd,nx,ox,ha,hG,kk):=h;let l1:=(gp ha).1;let(g,hg,hq):=fG bM A outer s H E as Ox hr ts q l1 hG;calc#[_,hg [],yX nd nx ox ha kk hq]
end
def bQ(K:qaf)(n:Nat)(G:List T->529->Prop):Sp:=BX K (List.replicate n false) λts q=>G ts (q [])
section
variable{A:zm}
theorem iL:∀{n:Nat}{ts:List T}{vs:qak},25=n->aD K H A ts vs->gm K H A (List.replicate n false) [] ts vs
 |0,ts,vs,l,h=>by let e:ts=[]:=NC.mp l;subst e;erw[aD] at h;calc#[9,9,h]
 |n+1,ts,vs,l,h=>by
  cases ts with
  |nil=>simp at l
  |cons t ts=>erw[aD] at h;let(v,r,rfl,h1,h2):=h;calc#[t,ts,v,r,9,9,h1,iL (by simpa using l) h2]
end
def aB.Su{Z:Zc}{tm:List 483}{ρ:En}(I:aB K Z tm O ρ σ H)(h:H a=none)(s:aW H H'){u:HO}(hu:H' a\u):aB K (Z.ex a) tm O ρ σ H':=by
 let J:=I.same s;let(n1,n2,n3):=I.fresh h;let mr:∀b∈av (Z.ex a) O,b∈av Z O\/H b=none:=λb hb=>(dG b hb).imp id λe=>by rw[e];exact h
 let fw:∀{t:T}{v:V},At K H (av Z O) t v->At K H' (av (Z.ex a) O) t v:=λq=>(q.more mr).same s;show#[J.lσ,J.lO,λi e hi=>?_,J.nd,λb hb=>?_,J.par,λb hb=>?_,J.keep,λp hp=>fw (I.lh p hp)];let(o,w,h1,h2,h3):=I.sl i e hi;show#[o,w,h1,h2,h3.map (λ_ _ q=>fw q) λb t eo q=>?_];calc dq.same (q.map 9 λ_ _ z=>z.more mr) s;let(q1,q2,q3):=J.own b hb;show#[q1,λz=>?_,q3];rcases dQ.mp z with z|z
 calc n1 (by rw[<- z];calc hX _ hb);calc q2 z;rcases dQ.mp hb with z|z
 rw[z,hu];simp;calc J.ox b z
def qX(n:Nat)(g:FA)(G:List T->529->Prop):FP:=λρ Q=>g ρ λts=>25=n/\G ts Q
section
variable{Z:Zc}{k:Nat}{G:List T->(Rt->Prop)->Prop}{pos:Pos}{g:FA}
def D6{tm:List 483}{ρ:En}{ts:List T}{q:Rt->Prop}{Q:VK}(I:aB X.K Z tm O ρ σ H)(a:aD X.K H 242 ts vs)(hn:25=n)(hG:G ts q)(k:∀r,q r->∀v H',aW H H'->h9 X.K Z tm O ρ σ H' r v->Q v H'):bQ X.K n G (vs++[]) H Q E0:=by
 rw[HX];show#[ts,[],av Z O,λ_ r=>q r,NJ,λ_ z=>absurd z gQ,I.OT,iL hn a,hG,λus r hr v H' fr z=>?_];let s:aW H H':=λb o e=>fr b o e gQ;cases r with
 |vw t=>calc k _ hr v H' s #[I.same s,z.1]
 |fr t=>
  let(b,rfl,hb,_,hR,_):=z;let(n1,n2,n3):=I.fresh hb;let(u,eu,_):=hR.mut;show k _ hr _ H' s #[b,9,I.Su hb s eu,hR.bC λc hc=>?_,n3,n2];rcases dG c hc with z|z
  calc iB _ z;rw[z];calc iz
def dj(F:eD 33 X.w X.K X.mg X.base iA k f fd ps (bQ X.K n G))(hr:bH k X.A)(hg:Gl X x)(hm:X.mg x\.ref f)(hk:W.keepIn X.K 536=true)(hb:Binds X.K fd ps [])(ha:VA X Z (e::es) g)(tZ:gD x:=by decide)(he:starEach (e::es) 3=(false,eval e 3)::starEach es 3:=by rfl)(j1:(backTo pos 90).any (·.1)=false:=by rfl) :
  VP X Z (.Call 31 (e::es) [] pos) (qX n g G):=.mk λtm=>PE.weak (jZ F hr hg hm hk hb .nil oW 503 tZ he j1) λσ H Q #[ρ,O,q,I,hf,k] =>
 #[ρ,O,_,I,hf,λts hW vs H1 s1 a1=>D6 (I.same s1) a1 hW.1 hW.2 λr hr v H' s z=>k r hr v H' (s1.trans s) z]
end
def AM(K:qaf)(H:Hp)(A:zm)(O:HD)(ρ:En):List (Option Nat)->List T->qak->Prop
 |[],ts,vs=>ts=[]/\vs=[]
 |none::ms,ts,vs=>∃t j4 v lr,ts=t::j4/\vs=v::lr/\At K H A t v/\AM K H A O ρ ms j4 lr
 |some k::ms,ts,vs=>∃a t j4 lr,ts=t::j4/\vs=.ref a::lr/\ρ[k]?\some (t,true)/\O[k]?\some a/\AM K H A O ρ ms j4 lr
def lAM(X:Cx)(Z:Zc)(tm:List 483)(ms:List (Option Nat))(f:FA):TA:=λσ H Q=>∃ρ O q,aB X.K Z tm O ρ σ H/\f ρ q/\∀ts,q ts->∀vs H',aW H H'->AM X.K H' 242 O ρ ms ts vs->Q vs H'
def Vl(X:Cx)(Z:Zc)(es:qap)(ms:List (Option Nat))(f:FA):Prop:=Bx λtm=>PA X es (lAM X Z tm ms f)
instance{X:Cx}{Z:Zc}{es:qap}{ms:List (Option Nat)}{f:FA}:CoeFun (Vl X Z es ms f) λ_=>∀tm,PA X es (lAM X Z tm ms f):=#[λh=>Bx.h h]
def JD(i:Nat):FE:=λρ Q=>match ρ[i]? with
 |some (some (t,true))=>Q t
 |_=>False
section
variable{Z:Zc}{g:FA}
def Pj:Vl X Z [] [] t9:=.mk λtm=>PA.weak cV λσ H Q #[ρ,O,q,I,hf,k]=>k _ hf [] H 45 #[9,9]
def qY{ms:List (Option Nat)}{f:FE}(h:VE X Z e f)(h':Vl X Z es ms g)(hs:starEach (e::es) 3=(false,eval e 3)::starEach es 3:=by rfl):Vl X Z (e::es) (none::ms) (gj f g) :=
 .mk λtm=>PA.weak (bD 513 (h' tm) hs) λσ H Q #[ρ,O,q,I,hf,k]=>#[ρ,O,_,I,hf,λt ht v H1 s1 a1=>#[ρ,O,_,I.same s1,ht,λts hW vs H2 s2 a2=>k _ hW _ H2 (s1.trans s2) #[t,ts,v,vs,9,9,a1.same s2,a2]]]
def D7(j:Nat){ms:List (Option Nat)}{y:Str}{py:Pos}(h':Vl X Z es ms g)(hN:X.N[j]?\y:=by rfl)(hv:nI 39 y:=by first|calc Or.inl rfl|calc Or.inr 7|calc Or.inr 95)(hd:gD y:=by decide)(fL:qt y:=by decide)(hs:starEach (.Name y py::es) 3=(false,eval (.Name y py) 3)::starEach es 3:=by rfl):Vl X Z (.Name y py::es) (some j::ms) (gj (JD j) g) :=
 .mk λtm=>PA.weak (bD 123 (h' tm) hs) λσ H Q #[ρ,O,q,I,hf,k]=>by
  let hf':JD j ρ λt=>g ρ λts=>q (t::ts):=hf;unfold JD at hf';split at hf'
  rename_i t e0
  let(a,h1,h2,h3):=I.root e0;calc#[.ref a,h2,ρ,O,_,I,hf',λts hW vs H2 s2 a2=>k _ hW _ H2 s2 #[a,t,ts,vs,9,9,e0,h1,a2]];calc hf'.elim
end
def putK:qao->List T->En->En
 |k::ks,u::us,ρ=>putK ks us (ρ.set k (some (u,true)))
 |_,_,ρ=>ρ
theorem qZ:∀(ks:qao)(us:List T)(ρ:En),(putK ks us ρ).length=ρ.length
 |[],_,_=>rfl
 |_::_,[],_=>rfl
 |k::ks,u::us,ρ=>by rw[putK,qZ];simp
theorem yY:∀{ks:qao}{us:List T}{ρ:En}{i:Nat}{e:Option (T×Bool)},ks.Nodup->173=517->(putK ks us ρ)[i]?\e->(i∉ks/\ρ[i]?\e)\/∃(j:Nat)(u:T),ks[j]?\i/\us[j]?\u/\e\(u,true)
 |[],us,ρ,i,e,_,_,h=>.inl #[gQ,h]
 |k::ks,[],ρ,i,e,_,l,h=>by simp at l
 |k::ks,u::us,ρ,i,e,nd,l,h=>by
  rw[qy] at nd;rcases yY nd.2 (by simpa using l) (show (putK ks us (ρ.set k (some (u,true))))[i]?\e from h) with⟨h1,h2⟩|⟨j,u',h1,h2,h3⟩
  rcases get_set h2 with⟨rfl,rfl,_⟩|⟨ne,h2⟩
  calc .inr #[0,u,9,9,9];calc .inl #[λz=>by rcases dQ.mp z with z|z;calc ne z;calc h1 z,h2];calc .inr #[j+1,u',by simpa using h1,by simpa using h2,h3]
section
variable{A:zm}
def At.Vm{as:zm}{t:T}(fr:∀b o,H b\o->b∉as->H' b\o)(sub:∀a∈as,a∈A)(mu:∀a∈as,∃u,H a\u/\nS u=true)(h:At K H A t v):At K H' A t v:=by
 show At.map (λb vs q=>?_) (λb vs q=>?_) (λb bj q=>?_) h;obtain q|q:=q
 show .inl #[?_,q.2];let nb:b∉as:=λz=>q.2 (sub b z);obtain z|⟨o',z⟩:=q.1
 calc .inl (fr _ _ z nb);calc .inr #[o',fr _ _ z nb];calc .inr q;obtain z|z:=q
 show .inl ?_;let nb:b∉as:=λm=>by
  let(u,eu,mu):=mu b m;obtain z|⟨o',z⟩:=z
  rw[z] at eu;cases eu;cases mu;rw[z] at eu;cases eu;cases mu
 obtain z|⟨o',z⟩:=z
 calc .inl (fr _ _ z nb);calc .inr #[o',fr _ _ z nb];calc .inr z;calc#[fr _ _ q.1 λz=>q.2 (sub b z),q.2]
theorem AM.args{A':zm}{O:HD}{ρ:En}(sub:∀a∈A',a∈A)(hr:∀(k:Nat) t,ρ[k]?\some (t,true)->∃a,O[k]?\some a/\dq K H A a t):∀{ms:List (Option Nat)}{ts:List T}{vs:qak},AM K H A O ρ ms ts vs ->
  ∃as,gm K H A' (ms.map Option.isSome) as ts vs/\Paired (λa k=>O[k]?\some a) as (ms.filterMap id)
 |[],ts,vs,h=>#[[],#[9,h.1,h.2],.nil]
 |none::ms,ts,vs,h=>by let(t,j4,v,lr,rfl,rfl,a,h):=h;let(as,h1,h2):=AM.args sub hr h;calc#[as,#[t,j4,v,lr,9,9,a.bC sub,h1],h2]
 |some k::ms,ts,vs,h=>by let(a,t,j4,lr,rfl,rfl,e0,e1,h):=h;let(as,h1,h2):=AM.args sub hr h;let(a',e2,r):=hr k t e0;rw[e1] at e2;cases e2;calc#[a::as,#[a,as,t,j4,lr,9,9,9,r.bC sub,h1],.cons e1 h2]
end
def Vn(ms:List (Option Nat))(g:FA)(G:GT):FX:=λρ Q=>g ρ λts=>G ts λus r=>Q (putK (ms.filterMap id) us ρ) r
section
variable{Z:Zc}{k:Nat}{fs:List Bool}{G:GT}{pos:Pos}{g:FA}{ms:List (Option Nat)}
theorem yZ{tm:List 483}{ρ:En}(I:aB K Z tm O ρ σ H)(h1:O[i]?\some a)(h2:O[j]?\some a):i=j:=by
 let key:∀(O:HD)(i j:Nat),i<j->O[i]?\some a->O[j]?\some a->(roots O).Nodup->False:=by
  intro O;induction O with
  |nil=>intro i j _ h;simp at h
  |cons o O ih=>
   intro i j hij e1 e2 nd;cases j with
   |zero=>lia
   |succ j=>
    let F6:O[j]?\some a:=by simpa using e2
    cases i with
    |zero=>
     have:o\a:=by simpa using e1
     subst this;erw[roots,tV,id] at nd;calc (qy.mp nd).1 (aH.mpr (fM F6))
    |succ i=>
     show ih i j () (by simpa using e1) F6 ?_;cases o with
     |none=>simpa[roots] using nd
     |some b=>erw[roots,tV,id] at nd;exact (qy.mp nd).2
 rcases Nat.lt_trichotomy i j with l|l|l
 calc (key O i j l h1 h2 I.nd).elim;calc l;calc (key O j i l h2 h1 I.nd).elim
theorem gq{α β:Type}{F:α->β->Prop}:∀{l₁:List α}{l₂:List β}{a:α},Paired F l₁ l₂->a∈l₁->∃b∈l₂,F a b
 |_,_,_,.nil,h=>nomatch h
 |_,_,a,.cons r t,h=>by
  rcases dQ.mp h with z|z
  subst z;calc#[_,iz,r];let(b,h1,h2):=gq t z;calc#[b,iB _ h1,h2]
theorem q8{α β:Type}{F:α->β->Prop}:∀{l₁:List α}{l₂:List β}{i:Nat}{b:β},Paired F l₁ l₂->l₂[i]?\b->∃a,l₁[i]?\a/\F a b
 |_,_,_,_,.nil,e=>by simp at e
 |_,_,0,_,.cons r _,e=>by simp at e;subst e;calc#[_,9,r]
 |_,_,i+1,b,.cons _ t,e=>by let(a,h1,h2):=q8 (i:=i) (b:=b) t (by simpa using e);calc#[a,by simpa using h1,h2]
theorem fJ{α β:Type}{F:α->β->Prop}:∀{l₁:List α}{l₂:List β}{i:Nat}{a:α},Paired F l₁ l₂->l₁[i]?\a->∃b,l₂[i]?\b/\F a b
 |_,_,_,_,.nil,e=>by simp at e
 |_,_,0,_,.cons r _,e=>by simp at e;subst e;calc#[_,9,r]
 |_,_,i+1,b,.cons _ t,e=>by let(a,h1,h2):=fJ (i:=i) (a:=b) t (by simpa using e);calc#[a,by simpa using h1,h2]
def aB.called{Z':Zc}{tm:List 483}{ρ:En}{as:zm}{ks:qao}{us:List T}(I:aB K Z tm O ρ σ H)(hk:Paired (λa k=>O[k]?\some a) as ks)(nk:ks.Nodup)(fr:∀b o,H b\o->b∉as->H' b\o)(hu:Paired (λa u=>dq K H' (av Z' O) a u) as us)(hZ:Z'.H0=Z.H0)(hP:Z'.P=Z.P)(hox:∀a∈Z'.Ox,a∉roots O/\H' a≠none)(more:∀a∈av Z' O,a∈av Z O\/H a=none):aB K Z' tm O (putK ks us ρ) σ H':=by
 let BY:∀a∈as,a∈roots O:=λa h=>by let(k,_,e):=gq hk h;exact aH.mpr (fM e)
 let sub:∀a∈as,a∈av Z O:=λa h=>hX _ (BY a h);let afM:∀a∈as,a∈av Z' O:=λa h=>hX _ (BY a h);let mu:∀a∈as,∃u,H a\u/\nS u=true:=λa h=>(I.own a (BY a h)).2.2;let fw:∀{t:T}{v:V},At K H (av Z O) t v->At K H' (av Z' O) t v:=λq=>(q.more more).Vm fr afM mu;let fwL:∀{t:List T}{v:qak},aD K H (av Z O) t v->aD K H' (av Z' O) t v:=λq=>aD.iff.mpr (Paired.pL (aD.iff.mp q) λ_ _ z=>fw z);show#[by rw[qZ];calc I.lσ,by rw[qZ];calc I.lO,λi e h=>?_,I.nd,λb hb=>?_,by rw[hP];calc I.par,λa ha=>(hox a ha).2,λb o e n=>?_,λp hp=>fw (I.lh p hp)];rcases yY nk (by rw[<- RY hk,RY hu]) h with⟨h1,h2⟩|⟨j,u,h1,h2,rfl⟩
 let(o,s,g1,g2,g3):=I.sl i e h2;show#[o,s,g1,g2,g3.map (λ_ _ q=>fw q) λb t eo q=>?_];subst eo;let nb:b∉as:=λm=>by let(k,yo,wg):=gq hk m;exact h1 (by rw[yZ I g1 wg];calc yo)
 let(u,eu,_):=q.mut;calc q.map (by rw[eu];calc fr _ _ eu nb) λ_ _ z=>fwL z;let(a,ha,r):=q8 hu h2;let(k,yo,wg):=fJ hk ha;rw[h1] at yo;cases yo;let hl:i<ρ.length:=by rw[<- I.lO];exact (c7.mp wg).1
 let(o,s,g1,g2,g3):=I.sl i ρ[i] 6;rw[wg] at g1;cases g1;show#[some a,s,wg,g2,a,9,?_,r];cases q:ρ[i] with
 |none=>rw[q] at g3;cases g3
 |some tb=>
  let(t,b):=tb;rw[q] at g3;cases b with
  |false=>cases g3.1
  |true=>let(a',e1,e2,_):=g3;cases e1;exact e2
 let(q1,q2,v,e,m):=I.own b hb;show#[by rw[hZ,hP];calc q1,λz=>(hox b z).1 hb,?_];by_cases hba:b∈as;let(j,hj):=TY.mp hba;let(u,_,r):=fJ hu hj;calc r.mut;calc#[v,fr _ _ e hba,m];rw[hZ] at e;rw[hP] at n;show fr _ _ (I.keep b o e n) λm=>?_;rcases (I.own b (BY b m)).1 with z|z
 calc n z;rw[z] at e;cases e
def JE(F:eD 33 X.w X.K X.mg X.base iA k f fd ps (BX X.K fs G))(hr:bH k X.A)(hg:Gl X x)(hm:X.mg x\.ref f)(hk:W.keepIn X.K 536=true)(hb:Binds X.K fd ps [])(ha:Vl X Z (e::es) ms g)(hfs:ms.map Option.isSome=fs:=by rfl)(F9:(ms.filterMap id).Nodup:=by decide)(tZ:gD x:=by decide)(he:starEach (e::es) 3=(false,eval e 3)::starEach es 3:=by rfl)(j1:(backTo pos 90).any (·.1)=false:=by rfl) :
  VX X Z (.Call 31 (e::es) [] pos) (Vn ms g G):=.mk λtm=>PE.weak (jZ F hr hg hm hk hb .nil oW 503 tZ he j1) λσ H Q #[ρ,O,q,I,hf,k] =>
 #[ρ,O,_,I,hf,λts hW vs H1 s1 a1=>by
   subst hfs;change BX X.K _ G (vs++[]) H1 Q E0;rw[HX];let J:=I.same s1;let(as,h1,h2):=AM.args (A':=av Z O) (λ_ z=>z) (λk t e=>by let(a,q1,q2,q3):=J.root e;calc#[a,q1,q3]) a1;let BY:∀a∈as,a∈roots O:=λa h=>by let(k,_,e):=gq h2 h;exact aH.mpr (fM e)
   let ndA:as.Nodup:=by
    clear h1;have:∀{as:zm}{ks:qao},ks.Nodup->Paired (λa k=>O[k]?\some a) as ks->as.Nodup:=by
     intro as ks nd h;induction h with
     |nil=>calc NJ
     |cons r t ih=>rw[qy] at nd ⊢;show#[λm=>?_,ih nd.2];let(k',m1,m2):=gq t m;exact nd.1 (by rw[yZ J r m2];calc m1)
    exact this F9 h2
   let mOx:∀b,b∈as++(av Z O).filter (λb=>decide (b∉as))↔b∈av Z O:=λb=>by rw[fO,N0];constructor;rintro (z|z);calc hX _ (BY b z);calc z.1;intro z;by_cases hb:b∈as;calc .inl hb;exact .inr #[z,ο hb]
   let(uT,JF,JG):=AM.args (A':=as++(av Z O).filter (λb=>decide (b∉as))) (λb z=>(mOx b).mp z) (λk t e=>by let(a,q1,q2,q3):=J.root e;calc#[a,q1,q3]) a1;let ee:uT=as:=by
    have:∀{as uT:zm}{ks:qao},Paired (λa k=>O[k]?\some a) as ks->Paired (λa k=>O[k]?\some a) uT ks->uT=as:=by
     intro as uT ks h h';induction h generalizing uT with
     |nil=>cases h';rfl
     |cons r t ih=>
       cases h' with
       |cons r' t'=>rw[r] at r';cases r';rw[ih t']
    exact this h2 JG
   subst ee;show#[ts,uT,(av Z O).filter (λb=>decide (b∉uT)),_,ndA,λa h z=>?_,λa h=>J.OT a (N0.mp h).1,JF,hW,λus r hr v H' fr z=>?_];calc (Θ (N0.mp z).2) h;let acZ:∀a∈Z.Ox,a∉roots O/\H' a≠none:=λa h=>by
    let na:a∉roots O:=λm=>(J.own a m).2.1 h;show#[na,?_];cases e:H1 a with
    |none=>calc absurd e (J.ox a h)
    |some u=>rw[fr _ _ e λm=>na (BY a m)];simp
   cases r with
   |vw t=>let(z1,z2):=z;calc k _ _ hr O v H' #[J.called h2 F9 fr (Paired.pL z2 λ_ _ q=>q.bC λb hb=>(mOx b).mpr hb) 9 9 acZ λa h=>.inl h,z1.bC λb hb=>(mOx b).mpr hb]
   |fr t=>
     let(b,rfl,hb,nb,hR,z2):=z;let(n1,n2,n3):=J.fresh hb;let sb:∀c∈av (Z.ex b) O,c∈b::(uT++(av Z O).filter (λb=>decide (b∉uT))):=λc hc=>by
      rcases dG c hc with z|z
      calc iB _ ((mOx c).mpr z);rw[z];exact iz
     show k _ _ hr O _ H' #[b,9,J.called h2 F9 fr (Paired.pL z2 λ_ _ q=>q.bC sb) 9 9 (λa h=>?_) (λa h=>(dG a h).imp id λe=>by rw[e];calc hb),hR.bC sb,n3,n2];rcases dQ.mp h with z|z
     subst z;let(u,eu,_):=hR.mut;calc#[λm=>n1 (hX _ m),by rw[eu];simp];calc acZ a z]
end
section
variable(K:qaf)
theorem y0:PySem.W.kitOne K (.type "int") (.type "str")\false:=by kernel_rfl
theorem wj:PySem.W.kitOne K (.type "bool") (.type "str")\false:=by kernel_rfl
theorem y1:PySem.W.kitOne K (.type "str") (.type "str")\true:=by kernel_rfl
theorem wm:PySem.W.kitOne K (.type "list") (.type "str")\false:=by kernel_rfl
theorem ua:PySem.W.kitOne K (.type "tuple") (.type "str")\false:=by kernel_rfl
theorem wo:PySem.W.kitOne K (.type "dict") (.type "str")\false:=by kernel_rfl
theorem nY:PySem.W.kitOne K (.type "NoneType") (.type "str")\false:=by kernel_rfl
end
def Ty2(K:qaf)(H:Hp):V->String->Prop
 |.bY,t=>t="NoneType"
 |.bl _,t=>t="bool"
 |.int _,t=>t="int"
 |.str _,t=>t="str"
 |.ref a,t=>(t="list"/\∃xs,f_ K H a xs)\/(t="tuple"/\∃xs,eZ K H a xs)\/(t="dict"/\∃bj,H a\.dK bj)
 |_,_=>False
def ac0(K:qaf):qak->Hp->VK->Prop:=λxs H Q=>∃x n t b,xs=[x,.ty n]/\Ty2 K H x t/\W.kitOne K (.type t) (.type n)\b/\Q (.bl b) H
def F_:dh X (.builtin "isinstance") (ac0 X.K):=by
 intro ε s σ H xs us Q I r h;let(x,n,t,b,rfl,ty,e,q):=h;let(u,w',rfl,rx,ry):=vals2 r;obtain rfl:=ry;let fin:∀tk,EP X ε σ Q (.bool b) {s with toks:=tk}:=λtk=>#[.bl b,H,I.tok _,9,q];cases x with
 |bY=>cases (show t=_ from ty);cases (show u=Value.none from rx);calc T4 W.kitx_none I.vL True.intro e (λz=>nomatch z) fin
 |bl y=>cases (show t=_ from ty);cases (show u=Value.bool y from rx);calc T4 W.kitx_bool I.vL True.intro e (λz=>nomatch z) fin
 |int i=>cases (show t=_ from ty);let(t,q):=(show ∃t,u=Value.int i t from rx);cases q;calc T4 W.kitx_int I.vL True.intro e (λz=>nomatch z) fin
 |str y=>cases (show t=_ from ty);let(t,q):=(show ∃t,u=Value.str y t from rx);cases q;calc T4 W.kitx_str I.vL True.intro e (λz=>nomatch z) fin
 |ref a=>
  cases (show u=Value.ref a from rx);obtain⟨rfl,xs,hq⟩|⟨rfl,xs,hq⟩|⟨rfl,bj,hq⟩:=ty
  let(aR,_,p,_):=I.list hq;let(o,n',h1,h2,_):=p;calc T4 W.kitx_list I.vL #[o,h1,h2] e (λz=>nomatch z) fin;let(aR,_,p,_):=I.tuple hq;let(o,h1,h2,_):=p;calc T4 W.kitx_tuple I.vL #[o,h1,h2] e (λz=>nomatch z) fin;let(_,_,vs,_,p):=(show cb 33 X.w H 69 a (.dK bj) from I.bZ a _ hq);let(o,es,ep,h1,h2,_):=p;calc T4 W.kitx_dict I.vL #[o,h1,h2.1] e (λz=>nomatch z) fin
 |_=>calc (show False from ty).elim
def isStr:T->Bool
 |.str _=>true
 |_=>false
def known:T->Bool
 |.dt _ _=>false
 |.df _ _ _=>false
 |.kt _=>false
 |.ins _ _ _=>false
 |.pin _ _=>false
 |.ob _=>false
 |.ty _=>false
 |_=>true
def JI(K:qaf)(n:String)(p:T->Bool):Prop:=∀H A t v,known t=true->hV K H A t v->∃ty,Ty2 K H v ty/\W.kitOne K (.type ty) (.type n)\p t
def y2:JI K "str" isStr:=by
 intro H A t v hk h;cases t with
 |bY=>rw[h.bY];calc#[_,9,nY K]
 |bl b=>rw[h.bl];calc#[_,9,wj K]
 |int b=>rw[h.int];calc#[_,9,y0 K]
 |str b=>rw[h.str];calc#[_,9,y1 K]
 |tup l=>let(a,vs,rfl,q,_):=h.tup;calc#[_,.inr (.inl #[9,_,q]),ua K]
 |lst l=>let(a,vs,rfl,q,_):=h.lst;calc#[_,.inl #[9,_,q],wm K]
 |dk ks l=>let(a,vs,rfl,_,q,_):=h.dk;calc#[_,.inr (.inr #[9,_,q]),wo K]
 |_=>erw[known] at hk;cases hk
def ac1(f:FE)(p:T->Bool):FP:=λρ Q=>f ρ λt=>known t=true/\Q (.vw (.bl (p t)))
section
variable{Z:Zc}{a:Expr}{pos:Pos}{fa fb fcc:FE}
def wq:bootBuiltins "isinstance"\.builtin "isinstance":=by decide +kernel
def D8{n:String}{y:Str}{q:T->Bool}(hq:JI X.K n q)(hg:Gl X "isinstance")(hm:X.mg "isinstance"=none)(hgy:Gl X y)(hmy:X.mg y=none)(hby:bootBuiltins y\.type n)(ha:VR X Z e fa)(hny:y≠"__name__":=by decide)(hdy:gD y:=by decide)(hs:starEach [e,.Name y p2] 3=(false,eval e 3)::starEach [.Name y p2] 3:=by rfl)(BC:starEach [.Name y p2] 3=(false,eval (.Name y p2) 3)::starEach [] 3:=by rfl)(j1:(backTo pos (starEach [.Name y p2] 3)).any (·.1)=false:=by rfl) :
  VP X Z (.Call (.Name "isinstance" p) [e,.Name y p2] [] pos) (ac1 fa q):=.mk λtm=>
 PE.weak (jo F_ hg hm wq (bD 503 (bD (N' (v:=.ty n) hgy hmy hby rfl hny hdy) cV BC) hs) 15 15 hs j1) λσ H Q #[ρ,O,q',I,hf,k]=>#[ρ,O,_,I,hf,λt ht v H1 s1 a1=>by let(ty,h1,h2):=hq H1 _ t v ht.1 a1;calc#[v,n,ty,_,9,h1,h2,k _ ht.2 _ H1 s1 #[I.same s1,d7]]]
def gJ:T->Bool
 |.bY=>true
 |.bl _=>true
 |.int _=>true
 |.str _=>true
 |_=>false
def mz:List T->Bool
 |[]=>true
 |t::ts=>gJ t && mz ts
def mB(x:T):List T->Bool
 |[]=>false
 |t::ts=>eqT t x || mB x ts
theorem ig{K:qaf}{H:Hp}{A:zm}:∀{ts:List T}{vs:qak}{x:T}{v:V},mz ts=true->gJ x=true->aD K H A ts vs->At K H A x v->vs.all jq=true/\jq v=true/\inV v vs=mB x ts
 |[],vs,x,v,_,fx,h,hx=>by erw[aD] at h;subst h;show#[9,?_,9];cases x<;>erw[At] at hx<;>first|(subst hx;rfl)|(erw[gJ] at fx;cases fx)
 |t::ts,vs,x,v,f,fx,h,hx=>by
  let(u,r,rfl,h1,h2):=h;erw[mz,pK] at f;let(i1,i2,i3):=ig f.2 fx h2 hx;let ft:jq u=true:=by cases t<;>erw[At] at h1<;>first|(subst h1;rfl)|(have:=f.1;erw[gJ] at this;cases this)
  let e:NL u v=eqT t x:=by
   cases t<;>erw[At] at h1<;>first
    | (have:=f.1;erw[gJ] at this;cases this;done)
    | (subst h1
       cases x<;>erw[At] at hx<;>first
        | (erw[gJ] at fx;cases fx;done)
        | (subst hx;simp[NL,eqT];done))
  show#[by simp[ft,i1],i2,?_];erw[mB,inV,Fv]
  congr 1
def Pk(K:qaf)(neg:Bool):R2:=λx y H Q=>rIn K neg x y H Q\/∃i j,x=.str i/\y=.str j/\Q (.bl (if neg then !481 else !(Builtin.Str.occurrences j i 0 j.length 1).isEmpty)) H
def JJ:fF X (compareOp .In) (Pk X.K false):=by
 intro ε s σ H x y v u Q I rx ry h;obtain h|⟨i,j,h1,h2,h⟩:=h
 calc FV ε s σ H x y v u Q I rx ry h;calc FL ε s σ H x y v u Q I rx ry #[i,j,h1,h2,by simpa using h]
def F':fF X (compareOp .NotIn) (Pk X.K true):=by
 intro ε s σ H x y v u Q I rx ry h;obtain h|⟨i,j,h1,h2,h⟩:=h
 calc vT ε s σ H x y v u Q I rx ry h;calc vU ε s σ H x y v u Q I rx ry #[i,j,h1,h2,by simpa using h]
def D9(i j:Str):Bool:=!(Builtin.Str.occurrences j i 0 j.length 1).isEmpty
def pIn(x y:T)(q:Rt->Prop):Prop:=match y with
 |.lst ts=>gJ x=true/\mz ts=true/\q (.vw (.bl (mB x ts)))
 |.tup ts=>gJ x=true/\mz ts=true/\q (.vw (.bl (mB x ts)))
 |.str j=>∃i,x=.str i/\q (.vw (.bl (D9 i j)))
 |_=>False
def Vo(x y:T)(q:Rt->Prop):Prop:=match y with
 |.lst ts=>gJ x=true/\mz ts=true/\q (.vw (.bl (!mB x ts)))
 |.tup ts=>gJ x=true/\mz ts=true/\q (.vw (.bl (!mB x ts)))
 |.str j=>∃i,x=.str i/\q (.vw (.bl (!D9 i j)))
 |_=>False
def JK:nU K (Pk K false) pIn:=by
 intro Z tm O ρ σ H x y v w q Q I h1 h2 h k;let x1:gJ x=true->At K H (av Z O) x v:=λf=>by
  obtain h|⟨a,rfl,h⟩:=h1
  calc h;cases x<;>first|exact 482|(erw[gJ] at f;cases f)
 unfold pIn at h;split at h;let(f1,f2,h):=h;let(a,vs,rfl,q1,q2):=h2.lst;let(i1,i2,i3):=ig f2 f1 q2 (x1 f1);calc .inl #[a,vs,9,.inl q1,i2,i1,k _ h _ H 45 #[I,by rw[θ iC,i3];calc d7]];let(f1,f2,h):=h;let(a,vs,rfl,q1,q2):=h2.tup;let(i1,i2,i3):=ig f2 f1 q2 (x1 f1);calc .inl #[a,vs,9,.inr q1,i2,i1,k _ h _ H 45 #[I,by rw[θ iC,i3];calc d7]];let(i,rfl,h):=h;calc .inr #[i,_,h1.str,h2.str,k _ h _ H 45 #[I,by rw[θ iC];calc d7]];calc 482
def Pm:nU K (Pk K true) Vo:=by
 intro Z tm O ρ σ H x y v w q Q I h1 h2 h k;let x1:gJ x=true->At K H (av Z O) x v:=λf=>by
  obtain h|⟨a,rfl,h⟩:=h1
  calc h;cases x<;>first|exact 482|(erw[gJ] at f;cases f)
 unfold Vo at h;split at h;let(f1,f2,h):=h;let(a,vs,rfl,q1,q2):=h2.lst;let(i1,i2,i3):=ig f2 f1 q2 (x1 f1);calc .inl #[a,vs,9,.inl q1,i2,i1,k _ h _ H 45 #[I,by rw[ι 9,i3];calc d7]];let(f1,f2,h):=h;let(a,vs,rfl,q1,q2):=h2.tup;let(i1,i2,i3):=ig f2 f1 q2 (x1 f1);calc .inl #[a,vs,9,.inr q1,i2,i1,k _ h _ H 45 #[I,by rw[ι 9,i3];calc d7]];let(i,rfl,h):=h;calc .inr #[i,_,h1.str,h2.str,k _ h _ H 45 #[I,by rw[ι 9];calc d7]];calc 482
def JM(ha:VR X Z a fa)(hb:VR X Z b fb)(hm:behindInMarks .In b=false:=by rfl):VP X Z (.Compare a [.In] [b] pos) (f2 fa fb pIn):=BR JJ JK ha hb hm
def uU(ha:VR X Z a fa)(hb:VR X Z b fb)(hm:behindInMarks .In b=false:=by rfl):VC X Z (.Compare a [.In] [b] pos) (mq (f2 fa fb pIn)):=ju JJ JK ha hb hm
def JN(ha:VR X Z a fa)(hb:VR X Z b fb)(hm:behindInMarks .NotIn b=false:=by rfl):VC X Z (.Compare a [.NotIn] [b] pos) (mq (f2 fa fb Vo)):=ju F' Pm ha hb hm
def y3:T->Bool
 |.bY=>true
 |_=>false
def pIs(x y:T)(q:Rt->Prop):Prop:=match y with
 |.bY=>q (.vw (.bl (y3 x)))
 |_=>False
def wu(x y:T)(q:Rt->Prop):Prop:=match y with
 |.bY=>q (.vw (.bl (!y3 x)))
 |_=>False
def D_{A:zm}{t:T}(h:hV K H A t v):decide (v=.bY)=y3 t:=by
 cases t with
 |bY=>rw[h.bY];rfl
 |bl b=>rw[h.bl];rfl
 |int b=>rw[h.int];rfl
 |str b=>rw[h.str];rfl
 |ob b=>rw[h.ob];rfl
 |ty b=>have:=h.elim (λq=>by simpa only[At] using q) λ#[_,_,q]=>q.elim;rw[this];rfl
 |tup l=>let(a,vs,rfl,_):=h.tup;rfl
 |lst l=>let(a,vs,rfl,_):=h.lst;rfl
 |dk ks l=>let(a,vs,rfl,_):=h.dk;rfl
 |dt ks l=>let(a,vs,rfl,_):=h.dt;rfl
 |df o ks l=>let(a,vs,rfl,_):=h.df;rfl
 |kt k=>let(a,rfl,_):=h.kt;rfl
 |ins C ns l=>let(a,dx,vs,rfl,_):=h.ins;rfl
 |pin a t=>let e:=h.elim (λq=>by erw[At] at q;calc q.1) λ#[_,_,q]=>q.elim;rw[e];rfl
def Vp:nU K (λx y H Q=>y=.bY/\Q (.bl (decide (x=.bY))) H) pIs:=by intro Z tm O ρ σ H x y v w q Q I h1 h2 h k;unfold pIs at h;split at h;calc#[h2.bY,k _ h _ H 45 #[I,by rw[D_ h1];calc d7]];calc 482
def Ga:nU K (λx y H Q=>y=.bY/\Q (.bl (!decide (x=.bY))) H) wu:=by intro Z tm O ρ σ H x y v w q Q I h1 h2 h k;unfold wu at h;split at h;calc#[h2.bY,k _ h _ H 45 #[I,by rw[D_ h1];calc d7]];calc 482
def JO(ha:VR X Z a fa)(hb:VR X Z b fb):VC X Z (.Compare a [.Is] [b] pos) (mq (f2 fa fb pIs)):=ju UG Vp ha hb (jm _)
def y4(ha:VR X Z a fa)(hb:VR X Z b fb):VC X Z (.Compare a [.IsNot] [b] pos) (mq (f2 fa fb wu)):=ju Oq Ga ha hb (jm _)
def JP{g g':Int->Int->Bool}{tm:List 483}{Q:VK}(h:lP X Z tm (f3 fa fb fcc (ZZ g) (ZZ g')) σ H Q):IV (tP λi j=>.bl (g i j)) (tP λi j=>.bl (g' i j)) (lR X Z tm fa) (lR X Z tm fb) (lR X Z tm fcc) σ H Q:=by
 let(ρ,O,q,I,hf,k):=h;show#[ρ,O,_,I,hf,λx hx v H1 s1 a1=>#[ρ,O,_,I.same s1,hx,λy hy w H2 s2 a2=>?_]];let J:=(I.same s1).same s2;unfold ZZ at hy;split at hy
 rename_i i j
 show#[i,j,(a1.same s2).int,a2.int,_,9,?_];cases e:g i j with
 |true=>
  rw[e] at hy;show ZG #[ρ,O,_,J,hy,λz hz w3 H3 s3 a3=>?_];split at hz
  rename_i e1
  cases e1;calc#[_,_,(a2.same s3).int,a3.int,k _ hz _ H3 ((s1.trans s2).trans s3) #[J.same s3,d7]];calc hz.elim
 |false=>rw[e] at hy;exact ZF (k _ hy _ H2 (s1.trans s2) #[J,d7])
 calc hy.elim
def JQ{op UH:CmpOp}{g g':Int->Int->Bool}(ho:fF X (compareOp op) (tP λi j=>.bl (g i j)))(qz:fF X (compareOp UH) (tP λi j=>.bl (g' i j)))(ha:VR X Z a fa)(hb:VR X Z b fb)(hc:VR X Z c fcc)(hm:lastMarks [op,UH] [b,c]=false:=by with_unfolding_all rfl):VC X Z (.Compare a [op,UH] [b,c] pos) (mq (f3 fa fb fcc (ZZ g) (ZZ g'))):=.mk λtm=>PT.weak (IW ho qz 503 (hb tm) (hc tm) hm) λσ H Q #[ρ,O,q,I,hf,k] =>
 JP #[ρ,O,_,I,hf,λt ht u H' s a=>by let(c,rfl,hc):=BU ht;let e:=a.2;calc#[c,e,k c hc H' s]]
def dR(ts:List T):List T:=ts.mapIdx λi t=>.tup [.int (i:Int),t]
def ac2(f:FE):FI:=λρ Q=>f ρ λt=>match t with
 |.lst ts=>Q (dR ts)
 |_=>False
theorem Pn{a:Addr}{ts:List T}:Wk K (Ite K a) [(.lst ts,.ref a)] (dR ts):=λH A hA h i=>by
 let h:=h _ iz;let(b,vs,e,l,q):=h;cases e;let hl:=q.length;let hle:(dR ts).length=ts.length:=by unfold dR;rw[List.length_mapIdx]
 show#[λhi=>#[vs,vs[i]'(),l.sq,by simp],λhi=>#[vs,l.sq,()],λt ht x H' y=>?_];let(p,u,hp,rfl,hu,rfl):=y;unfold dR at ht;rw[X3] at ht;cases e:ts[i]? with
 |none=>rw[e] at ht;cases ht
 |some t'=>rw[e] at ht;cases ht;let(v,e1,e2):=q.get e;have:=hu vs l.sq;rw[e1] at this;cases this;calc#[aI hp,cj (eZ.of aK) (aD.cons bw (aD.cons (e2.same (aI hp)) 451))]
def gK{x1}(hg:Gl X "enumerate")(hm:X.mg "enumerate"=none)(ha:VE X Z a fa)(hs:starEach [a] 3=[(false,eval a 3)]:=by rfl) :
  VI X Z 480 (.Call (.Name "enumerate" p) [a] [] pos) (ac2 fa):=.mk λtm=>PI.weak (OS hg hm (bD 503 cV hs) hs) λσ H R #[ρ,O,q,I,hf,k]=>#[ρ,O,_,I,hf,λt ht v H' s a=>by
 split at ht;let a0:=a;let(p,vs,rfl,l,_):=a;calc#[p,9,#[vs,l.sq],k _ ht _ H' _ s (λp hp=>by rw[fE.mp hp];calc a0) Pn];calc ht.elim]
def dU:List T->Option (List Bool)
 |[]=>some []
 |.bl b::ts=>(dU ts).map (b::·)
 |_=>none
def intsOf:List T->Option (qan)
 |[]=>some []
 |.int b::ts=>(intsOf ts).map (b::·)
 |_=>none
theorem JR{K:qaf}{H:Hp}{A:zm}:∀{ts:List T}{bs:List Bool}{vs:qak},dU ts\bs->aD K H A ts vs->vs=bs.map V.bl
 |[],bs,vs,e,h=>by erw[dU] at e;cases e;erw[aD] at h;rw[h];rfl
 |.bl b::ts,bs,vs,e,h=>by
  erw[dU] at e;cases q:dU ts with
  |none=>rw[q] at e;cases e
  |some cs=>rw[q] at e;cases e;let(v,r,rfl,rfl,h):=h;rw[JR q h];rfl
 |.bY::_,_,_,e,_=>by simp[dU] at e
 |.int _::_,_,_,e,_=>by simp[dU] at e
 |.str _::_,_,_,e,_=>by simp[dU] at e
 |.tup _::_,_,_,e,_=>by simp[dU] at e
 |.lst _::_,_,_,e,_=>by simp[dU] at e
 |.dk _ _::_,_,_,e,_=>by simp[dU] at e
 |.dt _ _::_,_,_,e,_=>by simp[dU] at e
 |.df _ _ _::_,_,_,e,_=>by simp[dU] at e
 |.kt _::_,_,_,e,_=>by simp[dU] at e
 |.ins _ _ _::_,_,_,e,_=>by simp[dU] at e
 |.pin _ _::_,_,_,e,_=>by simp[dU] at e
 |.ob _::_,_,_,e,_=>by simp[dU] at e
 |.ty _::_,_,_,e,_=>by simp[dU] at e
theorem Ea{K:qaf}{H:Hp}{A:zm}:∀{ts:List T}{bs:qan}{vs:qak},intsOf ts\bs->aD K H A ts vs->vs=bs.map V.int
 |[],bs,vs,e,h=>by erw[intsOf] at e;cases e;erw[aD] at h;rw[h];rfl
 |.int b::ts,bs,vs,e,h=>by
  erw[intsOf] at e;cases q:intsOf ts with
  |none=>rw[q] at e;cases e
  |some cs=>rw[q] at e;cases e;let(v,r,rfl,rfl,h):=h;rw[Ea q h];rfl
 |.bY::_,_,_,e,_=>by simp[intsOf] at e
 |.bl _::_,_,_,e,_=>by simp[intsOf] at e
 |.str _::_,_,_,e,_=>by simp[intsOf] at e
 |.tup _::_,_,_,e,_=>by simp[intsOf] at e
 |.lst _::_,_,_,e,_=>by simp[intsOf] at e
 |.dk _ _::_,_,_,e,_=>by simp[intsOf] at e
 |.dt _ _::_,_,_,e,_=>by simp[intsOf] at e
 |.df _ _ _::_,_,_,e,_=>by simp[intsOf] at e
 |.kt _::_,_,_,e,_=>by simp[intsOf] at e
 |.ins _ _ _::_,_,_,e,_=>by simp[intsOf] at e
 |.pin _ _::_,_,_,e,_=>by simp[intsOf] at e
 |.ob _::_,_,_,e,_=>by simp[intsOf] at e
 |.ty _::_,_,_,e,_=>by simp[intsOf] at e
def ac3(ts:List T)(q:Rt->Prop):Prop:=match ts with
 |[.lst l]=>∃bs,dU l\bs/\q (.vw (.bl (bs.all id)))
 |_=>False
def Gb:my K (λxs H Q=>∃(p:Addr)(bs:List Bool),xs=[.ref p]/\f_ K H p (bs.map V.bl)/\Q (.bl (bs.all id)) H) ac3:=by intro Z tm O ρ σ H ts vs q Q I h hp k;unfold ac3 at hp;split at hp;let(bs,e,hp):=hp;let(v,rfl,a):=dH h;let(p,ws,rfl,q1,q2):=a.lst;rw[JR e q2] at q1;calc#[p,bs,9,q1,k _ hp _ H 45 #[I,d7]];calc hp.elim
def ac4(ts:List T)(q:Rt->Prop):Prop:=match ts with
 |[.lst l]=>∃ns,intsOf l\ns/\q (.vw (.int ns.sum))
 |_=>False
def Ge:my K (λxs H Q=>∃(p:Addr)(ns:qan),xs=[.ref p]/\f_ K H p (ns.map V.int)/\Q (.int ns.sum) H) ac4:=by intro Z tm O ρ σ H ts vs q Q I h hp k;unfold ac4 at hp;split at hp;let(bs,e,hp):=hp;let(v,rfl,a):=dH h;let(p,ws,rfl,q1,q2):=a.lst;rw[Ea e q2] at q1;calc#[p,bs,9,q1,k _ hp _ H 45 #[I,bw]];calc hp.elim
def afN(f:FP)(fb:FE):FP:=λρ Q=>f ρ λr=>match r with
 |.fr (.lst ts)=>fb ρ λy=>match y with
  |.int k=>-(2 ^ 63)<=k/\k<2 ^ 63/\25 * k.toNat<=sizeLine/\Q (.fr (.lst (List.replicate k.toNat ts).flatten))
  |_=>False
 |_=>False
theorem aD.rep{K:qaf}{H:Hp}{A:zm}{ts:List T}{vs:qak}(h:aD K H A ts vs):∀k:Nat,aD K H A (List.replicate k ts).flatten (List.replicate k vs).flatten
 |0=>451
 |k+1=>by rw[HW,HW,X7,X7];calc h.append (aD.rep h k)
def q9{f:FP}(ha:VP X Z a f)(hb:VR X Z b fb):VP X Z (.BinOp a .Mult b pos) (afN f fb):=.mk λtm=>PE.weak (IS UX 503 (hb tm)) λσ H Q #[ρ,O,q,I,hf,k]=>#[ρ,O,_,I,hf,λr hr v H1 s1 z=>by split at hr;let(l,rfl,J,(xs,e,q1),_):=z;show#[ρ,O,_,I.same s1,hr,λy hy w H2 s2 a2=>?_];split at hy;let(h1,h2,h3,hy):=hy;let q2:=(q1.same s2).bC gc;calc#[l,_,xs,9,a2.int,s2 _ _ e,h1,h2,by rw[q2.length];calc h3,λp hp=>k _ hy _ _ ((s1.trans s2).trans (aI hp)) (((I.same s1).same s2).v5 hp (q2.rep _))];calc hy.elim;calc hr.elim]
end
structure Df(K:qaf)(mg:qae)(x:Str)(st:Stmt)(ps:χ)(f:Addr)(fd:FuncData):Prop where
 F:Ih K x x st f fd
 m:mg x\.ref f
 b:Binds K fd ps []
def bP(P:Program)(w:World)(K:qaf)(mg:qae)(base:Heap)(x:Str)(ps:χ)(k:Nat)(sp:Sp):Prop :=
 ∃f fd,mg x\.ref f/\W.keepIn K 536=true/\Binds K fd ps []/\eD P w K mg base iA k f fd ps sp
def Df.fj{st:Stmt}{k:Nat}(D:Df K mg x st ps f fd)(F:eD P w K mg base iA k f fd ps sp):bP P w K mg base x ps k sp :=
 #[f,fd,D.m,D.F.kp,D.b,F]
def gW{Ox:zm}:aY #[H,[],Ox] i:=λ_ z=>nomatch z
section
def gf{st:Stmt}{N:χ}{k:Nat}{G:List T->529->Prop}(F:Ih K x qual st f fd)(S:az N ps 455)(hn:n=471)(fG:∀(bM:Value) (A:Around) (outer:List Env) (s:Shared) (H:Hp) (E:XK) (Ox:zm),bH k 44->∀ts q,G ts q ->
    ∃g,kx (hY iA P w K mg base N qual 455 f bM A outer s H E).vN #[H,[],Ox] (bJ st) g/\(25=n->g {nx:=λ_=>q (.vw .bY),rt:=λ_ r=>q r} (ts.map (λt=>some (t,false))++List.replicate (N.length-25) none))) :
  eD P w K mg base iA 93 f fd ps (bQ K n G):=by
 let hp:∀n as k,pz (List.replicate n false) as k=[]:=by
  intro n;induction n with
  |zero=>intro as k;rfl
  |succ n ih=>intro as k;exact ih as 93
 let hfi:∀n ρ,lu (List.replicate n false) ρ=[]:=by
  intro n;induction n with
  |zero=>intro ρ;rfl
  |succ n ih=>intro ρ;exact ih ρ.tail
 let he:∀n ts,ts.length=n->wc (List.replicate n false) ts=ts.map λt=>some (t,false):=by
  intro n;induction n with
  |zero=>intro ts e;cases ts<;>simp_all [wc]
  |succ n ih=>
    intro ts e;cases ts with
    |nil=>simp at e
    |cons t ts=>rw[HW,wc,ih ts (by simpa using e)];rfl
 show fnV F S (by rw[ND];calc hn) λbM A outer s H E as Ox hr ts q hl hG=>?_;rw[ND] at hl;let(g,h1,h2):=fG bM A outer s H E Ox hr ts (q []) hG;show#[g,by rw[hp];calc h1,?_];rw[he n ts hl];erw[hfi];calc h2 hl
end
def bH.dW{k:Nat}(r:bH k A):A.units+101<cLine:=by have:=r.un;lia
def BZ:bootBuiltins "list"\.type "list":=by decide +kernel
def Eb:bootBuiltins "tuple"\.type "tuple":=by decide +kernel
def ac5:bootBuiltins "all"\.builtin "all":=by decide +kernel
def ac6:bootBuiltins "sum"\.builtin "sum":=by decide +kernel
def ac7:bootBuiltins "min"\.builtin "min":=by decide +kernel
def Sv:bootBuiltins "str"\.type "str":=by decide +kernel
theorem qa:∀{fs:List Bool}{as:zm}{k:Nat},∀p∈pz fs as k,k<=p.1/\fs[p.1-k]?\true
 |[],_,_,p,hp=>nomatch hp
 |false::fs,as,k,p,hp=>by
  let(h1,h2):=qa (fs:=fs) p hp;show#[(),?_];have:p.1-k=(p.1-93)+1:=by lia
  rw[this];simpa using h2
 |true::fs,a::as,k,p,hp=>by
  rcases dQ.mp hp with z|z
  subst z;calc#[cM _,by simp];let(h1,h2):=qa (fs:=fs) p z;show#[(),?_];have:p.1-k=(p.1-93)+1:=by lia
  rw[this];simpa using h2
 |true::fs,[],k,p,hp=>by
  let(h1,h2):=qa (fs:=fs) p hp;show#[(),?_];have:p.1-k=(p.1-93)+1:=by lia
  rw[this];simpa using h2
def Ec{fs:List Bool}{as Ox:zm}(h:fs[i]?≠some true):aY #[H,pz fs as 0,Ox] i:=λp hp e=>by have:=(qa p hp).2;rw[Nat.sub_zero,e] at this;calc h this
def iM(lo:Int)(n:Nat):(rangeT lo n).length=n:=by unfold rangeT;rw[bS,pJ]
def lz{lo:Int}{t:T}(h:(rangeT lo n)[i]?\t):i<n/\t=.int (lo+(i:Int)):=by
 unfold rangeT at h;rw[fW] at h;cases e:(List.range n)[i]? with
 |none=>rw[e] at h;cases h
 |some j=>rw[e] at h;let(h1,h2):=c7.mp e;rw[List.getElem_range] at h2;rw[pJ] at h1;subst h2;cases h;calc#[h1,9]
def dz{lo:Int}{h:FG}{g:FS}{d:So}{ρ:En}(Pv:Nat->En->Prop)(h0:Pv 0 ρ)(hs:∀(i:Nat) ρ',i<n->Pv i ρ'->h (.int (lo+(i:Int))) ρ' λρ2=>g {nx:=Pv 525,ct:=Pv 525,bk:=d.nx,rt:=d.rt} ρ2)(hd:∀ρ',Pv n ρ'->d.nx ρ'):oZ (rangeT lo n) h g d ρ:=#[Pv,h0,λi t ρ' e p=>by let(h1,rfl):=lz e;calc hs i ρ' h1 p,λρ' p=>hd ρ' (by rw[iM] at p;calc p)]
theorem eJ{f:α->T}{xs:List α}{h:FG}{g:FS}{d:So}{ρ:En}(Pv:Nat->En->Prop)(h0:Pv 0 ρ)(hs:∀(i:Nat) x ρ',xs[i]?\x->Pv i ρ'->h (f x) ρ' λρ2=>g {nx:=Pv 525,ct:=Pv 525,bk:=d.nx,rt:=d.rt} ρ2)(hd:∀ρ',Pv 46 ρ'->d.nx ρ'):oZ (xs.map f) h g d ρ:=#[Pv,h0,λi t ρ' e p=>by
 rw[fW] at e;cases q:xs[i]? with
 |none=>rw[q] at e;cases e
 |some x=>rw[q] at e;cases e;calc hs i x ρ' q p,λρ' p=>hd ρ' (by rw[bS] at p;calc p)]
def Vq{c:Bool}{A:Prop}(hc:c=true)(h:A):if c=true then A else B:=by rw[ι hc];calc h
def gX{c:Bool}{A:Prop}(hc:c=false)(h:B):if c=true then A else B:=by rw[θ (by rw[hc];calc iC)];calc h
def cJ{c A:Prop}[Decidable c](h1:c->A)(h2:¬ c->B):if decide c=true then A else B:=by by_cases h:c;rw[ι (ο h)];calc h1 h;rw[θ (by rw[ς h];calc iC)];calc h2 h
section
def mC{t:Addr}{items:Array Value}{x:Value}(hit:s.heap.IsTupleIter it t i)(ht:s.heap.IsTuple t items)(hx:items[i]?\x)(hQ:∀h',h'.IsTupleIter it t 525->Heap.SameBut it 69 h'->Q x {s with heap:=h'}):wpAny 14 A (Builtin.SmallTypes.nextOf 476) Q E s:=by
 let(o,ho,hc,hd):=id hit;let(ol,Po,_,nl,Yl):=ht;show ζ (ψ hit.typeIs aca
  (υ aca hit.typeIs F.entry_tuple_iterator_next ?_ (F.args_tuple_iterator_next_1 _)))
 change wpAny _ _ (field 476 0 >>= _) _ _ s;show ζ (Φ ho hd 9 (ζ (Φ ho hd 9 (ζ (aak Po Yl ?_)))));erw[i9,hx];show ζ (aaf ho hd 6 (η #[x,9,η (hQ _ ?_ (IA ..))]));calc#[_,TX _ ho (YK (NG hd _)),(Obj.cls_mapFields ..).trans hc,by
  rw[NG hd];simp[rawInt]]
def nZ{t:Addr}{items:Array Value}(hh:538=none)(hit:s.heap.IsTupleIter it t i)(ht:s.heap.IsTuple t items)(hx:items[i]?=none)(hE:∀h' e,Heap.ExtBut it 69 h'->(∃o,h'.get? e\o/\o.cls=.type "StopIteration")->E (.ref e) {s with heap:=h'}):wpAny 14 A (Builtin.SmallTypes.nextOf 476) Q E s:=by
 let(o,ho,hc,hd):=id hit;let(ol,Po,_,nl,Yl):=ht;show ζ (ψ hit.typeIs aca
  (υ aca hit.typeIs F.entry_tuple_iterator_next ?_ (F.args_tuple_iterator_next_1 _)))
 change wpAny _ _ (field 476 0 >>= _) _ _ s;show ζ (Φ ho hd 9 (ζ (Φ ho hd 9 (ζ (aak Po Yl ?_)))));erw[i9,hx];show ζ (aab (ζ (aaf ho hd 6 (ζ (ζ (m:=firstArgMember _ _) (aaM (by first|rfl|(erw[firstArgMember];rfl)) (Δ (ζ (aaO ?_)) (by size_fits))))))))
 first|rw[show A.in1.handled=none from hh]|rw[hh]
 calc ζ (η (wpAny_throw (hE _ _ (((IA ..).extBut.push _).push _) #[_,gP _ 9,9])))
end
structure Part(prog:Program)(w:World)(i:Addr)(fp:zm)(n:Nat)(Pv:Nat->Value->Prop)(st:Nat->Heap->Prop):Prop where
 draws:∀A:Around,538=none->Draws prog w A i fp n Pv st
 mem:i∈fp
 fld:∀k h,st k h->∃o vs,h.get? i\o/\496=.fields vs
def Gf(it l:Addr)(fY:l≠it)(items:Array Value):Part prog w it [it,l] 98 (λi v=>items[i]?\v) (λi h=>h.IsListIter it l i/\h.IsList l items) :=
 #[λA hh=>Draws.list hh it l fY items,by simp,λk h st=>let #[#[o,e,_,d],_]:=st;#[o,_,e,d]]
def B0(it l:Addr)(fY:l≠it)(items:Array Value):Part prog w it [it,l] 98 (λi v=>items[i]?\v) (λi h=>h.IsTupleIter it l i/\h.IsTuple l items) :=
 #[λA hh=>{live:=λ_ _ st=>let #[o,ho,_]:=st.1;#[o,ho],frame:=λ_ _ _ st hk=>#[let #[o,ho,r]:=st.1;#[o,hk it 6 o ho,r],let #[o,ho,r]:=st.2;#[o,hk l 6 o ho,r]],item:=λi s Q E hi st hQ=>mC st.1 st.2 (x:=items[i]) (by simp[hi]) λh' JS hs'=>hQ _ h' 528 (by simp[hi]) #[JS,st.2.extBut hs'.extBut fY] hs',done:=λs Q E st hE=>nZ hh st.1 st.2 6 hE},by simp,λk h st=>let #[#[o,e,_,d],_]:=st;#[o,_,e,d]]
def JT(it:Addr)(x:Str)(t:Tok):Part prog w it [it] x.cps.size (λi v=>∃c u,x.cps[i]?\c/\v=.str #[527] u) (λi h=>h.IsStrIter it (strIterType x) x t i):=by
 rcases dS x with z|z
 rw[z];calc#[λA hh=>Draws.strAscii hh it x t,by simp,λk h st=>let #[o,e,_,d]:=st;#[o,_,e,d]];rw[z];calc#[λA hh=>Draws.strWide hh it x t,by simp,λk h st=>let #[o,e,_,d]:=st;#[o,_,e,d]]
structure Apart(z TI TO i1 i2:Addr)(tS q_:zm):Prop where
 TIz:TI≠z
 TOz:TO≠z
 i1z:i1≠z
 i2z:i2≠z
 TITO:TI≠TO
 TIi1:TI≠i1
 TIi2:TI≠i2
 TOi1:TO≠i1
 TOi2:TO≠i2
 i12:i1≠i2
 z1:z∉tS
 z2:z∉q_
 O1:TO∉tS
 O2:TO∉q_
 x1:i2∉tS
 x2:i1∉q_
section
variable{z TI TO i1 i2:Addr}{tS q_:zm}{n1 n2:Nat}{P1 P2:Nat->Value->Prop}{S1 S2:Nat->Heap->Prop}
def JU{k:Nat}{a b:Value}(hh:538=none)(D:Apart z TI TO i1 i2 tS q_)(p1:Part prog w i1 tS n1 P1 S1)(p2:Part prog w i2 q_ n2 P2 S2)(hz:IsZip 69 z TI TO .none)(Pp:IsPair 69 TI (.ref i1) (.ref i2))(Pq:IsPair 69 TO a b)(h1:S1 k 69)(h2:S2 k 69)(hx:k<n1)(hy:k<n2)(hQ:∀x y h' tk,P1 k x->P2 k y->IsZip h' z TI TO (rawInt 8)->IsPair h' TO x y->S1 93 h'->S2 93 h'->IsPair h' 8 x y->h'.objs.size=8+1 ->
    (∀c o,c≠z->c≠TO->c≠i1->c≠i2->s.heap.get? c\o->h'.get? c\o)->Q 59 {s with heap:=h',toks:=tk}) :
  wpAny 14 A (Builtin.«zip.__next__» #[[.ref z],[]]) (λfin s'=>∃v,fin=.done (.ret v)/\Q v s') E s:=by
 change wpAny _ _ (field (.ref z) 2 >>= _) _ _ _;show ζ (Φ hz 9 9 (ζ (Φ hz 9 9 (ζ (aak Pp 9 (ζ (ζ (Φ hz 9 9 (η (ζ (aab (ζ (Φ hz 9 9 (ζ (Ξ hz 6 λh₁ Jk B1=>ζ ?_)))))))))))))));let f1:∀{m h h' c},c∉tS->S1 m h->Heap.SameBut c h h'->S1 m h':=λ{m h h' c} hc st sb=>(p1.draws A hh).frame m h h' st λb hb o e=>sb.extBut b o (λq=>hc (q▸hb)) e;let f2:∀{m h h' c},c∉q_->S2 m h->Heap.SameBut c h h'->S2 m h':=λ{m h h' c} hc st sb=>(p2.draws A hh).frame m h h' st λb hb o e=>sb.extBut b o (λq=>hc (q▸hb)) e;show ζ (ζ (aaP (ζ ((p1.draws _ hh).item k _ _ _ hx (f1 D.z1 h1 B1) λx h₂ tk₂ px h1₂ yQ=>η ?_))));let JV:=yQ.extBut _ _ D.TOi1 (B1.extBut _ _ D.TOz Pq);show ζ (aak JV 9 (ζ (aaD JV λh₃ ac8 Bg=>ζ (wpAny_letGo (η ?_)))));show ζ (ζ (aaP (ζ ((p2.draws _ hh).item k _ _ _ hy (f2 D.O2 (f2 D.x2 (f2 D.z2 h2 B1) yQ) Bg) λy h₄ tk₄ py h2₄ Il=>η ?_))));let ac9:=Il.extBut _ _ D.TOi2 ac8;show ζ (aak ac9 9 (ζ (aaD ac9 λh₅ Pr Im=>?_)))
 replace Pr:IsPair h₅ TO x y:=Pr
 show ζ (wpAny_letGo (η (η ?_)));show ζ (aak Pr 9 (ζ (aaJ ?_)));let kq:h₅.objs.size=s.heap.objs.size:=by rw[Im.1,Il.1,Bg.1,yQ.1,B1.1]
 let hz₅:=Im.extBut _ _ D.TOz.symm (Il.extBut _ _ D.i2z.symm (Bg.extBut _ _ D.TOz.symm (yQ.extBut _ _ D.i1z.symm Jk)));let hk₅:∀c o,c≠z->c≠TO->c≠i1->c≠i2->s.heap.get? c\o->h₅.get? c\o:=λc o c1 c2 c3 c4 e=>
  Im.extBut _ _ c2 (Il.extBut _ _ c4 (Bg.extBut _ _ c2 (yQ.extBut _ _ c3 (B1.extBut _ _ c1 e))))
 let h1₅:=f1 D.O1 (f1 D.x1 (f1 D.O1 h1₂ Bg) Il) Im;let h2₅:=f2 D.O2 h2₄ Im;let ada:=eR hz₅;show ζ ?_;let hz₆:IsZip (h₅.push {cls:=.type "tuple",data:=.seq ([x,y].toArray)}) z TI TO .ellipsis:=dF _ hz₅;show ζ (Ξ hz₆ 6 λh₇ hz₇ hs₇=>Ξ hz₇ 6 λh₈ hz₈ hs₈=>?_);let up:∀c o,c≠z->h₅.get? c\o->h₈.get? c\o:=λc o c1 e=>hs₈.extBut _ _ c1 (hs₇.extBut _ _ c1 (dF _ e));let hT₈:=hs₈.extBut _ _ (Fw ada) (hs₇.extBut _ _ (Fw ada) (gP _ 9));let hz8:h₈.objs.size=h₅.objs.size+1:=by rw[hs₈.1,hs₇.1,uH]
 let h1₈:=(p1.draws A hh).frame _ _ _ h1₅ λb hb o e=>up b o (λq=>D.z1 (q▸hb)) e;let h2₈:=(p2.draws A hh).frame _ _ _ h2₅ λb hb o e=>up b o (λq=>D.z2 (q▸hb)) e;rw[kq] at hz₈ hT₈ hz8;show η #[_,9,?_];rw[kq];calc hQ x y h₈ tk₄ px py hz₈ (up _ _ D.TOz Pr) h1₈ h2₈ hT₈ hz8 λc o c1 c2 c3 c4 e=>up c o c1 (hk₅ c o c1 c2 c3 c4 e)
def Pt{k:Nat}{a b:Value}{Q:PySem.Fin->Shared->Prop}(hh:538=none)(D:Apart z TI TO i1 i2 tS q_)(p1:Part prog w i1 tS n1 P1 S1)(p2:Part prog w i2 q_ n2 P2 S2)(hz:IsZip 69 z TI TO .none)(Pp:IsPair 69 TI (.ref i1) (.ref i2))(Pq:IsPair 69 TO a b)(h1:S1 k 69)(h2:S2 k 69)(Gh:k=n1\/(k<n1/\k=n2))(hE:∀h' tk e,(∀c o,c≠z->c≠TO->c≠i1->c≠i2->s.heap.get? c\o->h'.get? c\o)->(∃o,h'.get? e\o/\o.cls=.type "StopIteration")->E (.ref e) {s with heap:=h',toks:=tk}) :
  wpAny 14 A (Builtin.«zip.__next__» #[[.ref z],[]]) Q E s:=by
 let f1:∀{m h h' c},c∉tS->S1 m h->Heap.SameBut c h h'->S1 m h':=λ{m h h' c} hc st sb=>(p1.draws A hh).frame m h h' st λb hb o e=>sb.extBut b o (λq=>hc (q▸hb)) e;let f2:∀{m h h' c},c∉q_->S2 m h->Heap.SameBut c h h'->S2 m h':=λ{m h h' c} hc st sb=>(p2.draws A hh).frame m h h' st λb hb o e=>sb.extBut b o (λq=>hc (q▸hb)) e;change wpAny _ _ (field (.ref z) 2 >>= _) _ _ _;show ζ (Φ hz 9 9 (ζ (Φ hz 9 9 (ζ (aak Pp 9 (ζ (ζ (Φ hz 9 9 (η (ζ (aab (ζ (Φ hz 9 9 (ζ (Ξ hz 6 λh₁ Jk B1=>ζ (ζ (ζ (aaP ?_))))))))))))))))));obtain rfl|⟨di,rfl⟩:=Gh
 . show ζ ((p1.draws _ hh).done _ _ _ (f1 D.z1 h1 B1) λh₂ e yQ he=>?_);let(oe,Vr,hce):=he;let Ym:=yQ _ _ D.i1z.symm Jk;let hez:e≠z:=λx=>by subst x;rw[Ym] at Vr;cases Vr;simp at hce
   show Ξ Ym 6 λh₃ _ Bg=>hE h₃ _ e (λc o c1 _ c3 _ x=>Bg.extBut _ _ c1 (yQ _ _ c3 (B1.extBut _ _ c1 x))) #[oe,Bg.extBut _ _ hez Vr,hce]
 . show ζ ((p1.draws _ hh).item k _ _ _ di (f1 D.z1 h1 B1) λx h₂ tk₂ px h1₂ yQ=>η ?_);let JV:=yQ.extBut _ _ D.TOi1 (B1.extBut _ _ D.TOz Pq);show ζ (aak JV 9 (ζ (aaD JV λh₃ ac8 Bg=>ζ (wpAny_letGo (η (ζ (ζ (aaP (ζ ((p2.draws _ hh).done _ _ _ (f2 D.O2 (f2 D.x2 (f2 D.z2 h2 B1) yQ) Bg) λh₄ e Il he=>?_))))))))));let(oe,Vr,hce):=he;let hz₄:=Il _ _ D.i2z.symm (Bg.extBut _ _ D.TOz.symm (yQ.extBut _ _ D.i1z.symm Jk));let hez:e≠z:=λx=>by subst x;rw[hz₄] at Vr;cases Vr;simp at hce
   show Ξ hz₄ 6 λh₅ _ Im=>hE h₅ _ e (λc o c1 c2 c3 c4 x=>Im.extBut _ _ c1 (Il _ _ c4 (Bg.extBut _ _ c2 (yQ.extBut _ _ c3 (B1.extBut _ _ c1 x))))) #[oe,Im.extBut _ _ hez Vr,hce]
def pQ{k:Nat}{a b:Value}{Q:474->Shared->Prop}(hh:538=none)(D:Apart z TI TO i1 i2 tS q_)(p1:Part prog w i1 tS n1 P1 S1)(p2:Part prog w i2 q_ n2 P2 S2)(hz:IsZip 69 z TI TO .none)(Pp:IsPair 69 TI (.ref i1) (.ref i2))(Pq:IsPair 69 TO a b)(h1:S1 k 69)(h2:S2 k 69)(hx:k<n1)(hy:k<n2)(hQ:∀x y h' tk,P1 k x->P2 k y->IsZip h' z TI TO (rawInt 8)->IsPair h' TO x y->S1 93 h'->S2 93 h'->IsPair h' 8 x y->h'.objs.size=8+1 ->
    (∀c o,c≠z->c≠TO->c≠i1->c≠i2->s.heap.get? c\o->h'.get? c\o)->Q (some 59) {s with heap:=h',toks:=tk}):wpAny 14 A (pyNext (.ref z)) Q E s:=by
 let hT:s.TypeIs (.ref z) "zip":=#[_,hz,9];calc ζ (aai (ψ hT F.slot_zip_next
  (wpAny_call_entry F.slot_zip_next hT F.entry_zip_next
    (JU hh D p1 p2 hz Pp Pq h1 h2 hx hy λx y h' tk q1 q2 a1 a2 a3 a4 a5 a6 a7=>η (hQ x y h' tk q1 q2 a1 a2 a3 a4 a5 a6 a7)) (F.args_zip_next_1 _))))
def rf{k:Nat}{a b:Value}{Q:474->Shared->Prop}(hh:538=none)(D:Apart z TI TO i1 i2 tS q_)(p1:Part prog w i1 tS n1 P1 S1)(p2:Part prog w i2 q_ n2 P2 S2)(hz:IsZip 69 z TI TO .none)(Pp:IsPair 69 TI (.ref i1) (.ref i2))(Pq:IsPair 69 TO a b)(h1:S1 k 69)(h2:S2 k 69)(Gh:k=n1\/(k<n1/\k=n2))(hQ:∀h' tk,(∀c o,c≠z->c≠TO->c≠i1->c≠i2->s.heap.get? c\o->h'.get? c\o)->Q none {s with heap:=h',toks:=tk}):wpAny 14 A (pyNext (.ref z)) Q E s:=by
 let hT:s.TypeIs (.ref z) "zip":=#[_,hz,9];show ζ (aai (ψ hT F.slot_zip_next
  (υ F.slot_zip_next hT F.entry_zip_next (Pt hh D p1 p2 hz Pp Pq h1 h2 Gh λh' tk e hk he=>?_) (F.args_zip_next_1 _))))
 let(o,ho,hc):=he;calc ζ (aaC #[o,ho,hc] aaK (η (hQ _ _ hk)))
end
def jx(v:Value)(o:Obj)(c:Heap->Prop):Prop:=∀(prog:Program)(w:World)(A:Around)(E:qad)(s:Shared)(Q:qad),c 69 ->
 Q 59 {s with heap:=s.heap.push o}->wpAny 14 A (pyIter v) Q E s
def Sw(l:Addr)(items:Array Value):jx (.ref l) {cls:=.type "list_iterator",data:=.fields ([.ref l,.int 0 0].toArray)} (λh=>h.IsList l items):=λ_ _ _ _ _ _ h q=>aay h q
def wx(l:Addr)(items:Array Value):jx (.ref l) {cls:=.type "tuple_iterator",data:=.fields ([.ref l,.int 0 0].toArray)} (λh=>h.IsTuple l items):=λ_ _ _ _ _ _ h q=>wpAny_pyIter_tuple h q
def Vs(x:Str)(t:Tok):jx (.str x t) {cls:=.type (strIterType x),data:=.fields ([.str x t,.int 0 0].toArray)} (λ_=>True):=λ_ _ _ _ _ _ _ q=>wpAny_pyIter_strU q
abbrev zH3(h:Heap)(o1 o2:Obj):Heap:=((h.push o1).push o2).push {cls:=.type "tuple",data:=.seq ([.ref 533,.ref (h.push o1).objs.size].toArray)}
abbrev zH4(h:Heap)(o1 o2:Obj):Heap:=(zH3 h o1 o2).push {cls:=.type "tuple",data:=.seq ([.none,.none].toArray)}
abbrev Vt(h:Heap)(o1 o2:Obj):Heap:=(zH4 h o1 o2).push {cls:=.type "zip",data:=.fields ([.none,.bool false,.bool false,.ref ((h.push o1).push o2).objs.size,.ref (zH3 h o1 o2).objs.size].toArray)}
def B2{v1 v2:Value}{o1 o2:Obj}{c1 c2:Heap->Prop}(i1:jx v1 o1 c1)(i2:jx v2 o2 c2)(Gi:∀h o,c2 h->c2 (h.push o)) :
  Meets (Builtin.«zip.__new__» #[[.type "zip",v1,v2],[]]) (λ_ R s=>c1 69/\c2 69 /\
   R (.ok (.ret (.ref (zH4 69 o1 o2).objs.size))) {s with heap:=Vt 69 o1 o2}) :=
 .of_wp λprog w A R s h=>by
  let(hp,g,d,tk,os):=s;let(hc1,OA,h):=h;let JW:=sub_zip;let hC2:=Gi _ o1 OA;let I1:=λA E Q q=>i1 prog w A E _ Q hc1 q;let I2:∀A E Q,Q (.ref (hp.push o1).objs.size) #[(hp.push o1).push o2,g,d,tk,os]->wpAny (model prog w) A (pyIter v2) Q E #[hp.push o1,g,d,tk,os]:=λA E Q q=>i2 prog w A E _ Q hC2 q
  wp_walk using I1,I2
  calc#[_,9,h]
section
def Gj{v1 v2:Value}{o1 o2:Obj}{c1 c2:Heap->Prop}(i1:jx v1 o1 c1)(i2:jx v2 o2 c2)(Gi:∀h o,c2 h->c2 (h.push o))(h1:c1 69)(h2:c2 69)(hf1:o1.isFreed=false)(hf2:o2.isFreed=false)(h:∀h',IsZip h' (8+04) (8+2) (8+03) .none->IsPair h' (8+2) 59 (.ref 77) ->
    IsPair h' (8+03) .none .none->h'.get? 8\o1->h'.get? 77\o2->h'.objs.size=8+05 ->
    (∀c o,s.heap.get? c\o->h'.get? c\o)->Q (.ref (8+04)) {s with heap:=h'}) :
  wpAny 14 A (call (.type "zip") [v1,v2]) Q E s:=by
 show callType_new F.called_zip 15 (F.typeCall_zip_2 _ _) (F.newCall_zip_2 _ _) (λobj=>F.args_object_init_3 obj _ _) F.entry_zip_new
  (B2 i1 i2 Gi) #[h1,h2,?_]
 let z1:(s.heap.push o1).objs.size=s.heap.objs.size+1:=uH ..;let z2:((s.heap.push o1).push o2).objs.size=s.heap.objs.size+2:=by rw[uH,z1]
 let z3:(zH3 s.heap o1 o2).objs.size=s.heap.objs.size+03:=by rw[uH,z2]
 let z4:(zH4 s.heap o1 o2).objs.size=s.heap.objs.size+04:=by rw[uH,z3]
 let z5:(Vt s.heap o1 o2).objs.size=s.heap.objs.size+05:=by rw[uH,z4]
 let g5:(Vt s.heap o1 o2).get? (zH4 s.heap o1 o2).objs.size\_:=gP _ 9;let g4:(Vt s.heap o1 o2).get? (zH3 s.heap o1 o2).objs.size\_:=dF _ (gP _ 9);let g3:(Vt s.heap o1 o2).get? ((s.heap.push o1).push o2).objs.size\_:=dF _ (dF _ (gP _ 9));let g2:(Vt s.heap o1 o2).get? (s.heap.push o1).objs.size\_:=dF _ (dF _ (dF _ (gP _ hf2)));let g1:(Vt s.heap o1 o2).get? s.heap.objs.size\_:=dF _ (dF _ (dF _ (dF _ (gP _ hf1))));rw[z2,z3,z4] at g5;rw[z1,z2] at g3;rw[z3] at g4;rw[z1] at g2;rw[z4];calc#[#[_,g5,9],h _ g5 g3 g4 g1 g2 z5 λc o x=>
  dF _ (dF _ (dF _ (dF _ (dF _ x))))]
end
structure Gk(P:Program)(w:World)(K:qaf)(i:Addr)(fp:zm)(sq:Hp->qak->Prop)(it:Nat->Heap->Prop):Prop where
 part:∀(X:Cx)(ε:qaa)(σ:St)(H:Hp)(s:Shared),33=P->X.w=w->X.K=K->Inv X ε σ H s->∀xs,sq H xs ->
  ∃(Pv:Nat->Value->Prop)(S:Nat->Heap->Prop),Part P w i fp 46 Pv S/\(∀k v,Pv k v->∃x,xs[k]?\x/\RelV x v)/\(∀k h,S k h->it k h)/\∀k,it k 69->S k 69
 keep:∀k h h',it k h->(∀o,h.get? i\o->h'.get? i\o)->it k h'
 obj:∀k h,it k h->∃o,h.get? i\o/\∀v,496≠.cell v
 inj:∀(X:Cx)(ε:qaa)(σ:St)(H:Hp)(s:Shared),X.K=K->Inv X ε σ H s->∀xs ys,sq H xs->sq H ys->xs=ys
def src_list(i l:Addr)(fY:l≠i):Gk P w K i [i,l] (λH xs=>f_ K H l xs) (λk h=>h.IsListIter i l k) where
 part:=λX ε σ H s hP hw hK I xs hq=>by
  subst hP hw hK;let(aR,rv,p,hz):=I.list hq;let e:aR.toArray.size=xs.length:=by simp[rv.length]
  show#[_,_,e▸Gf i l fY 94,λk v hv=>?_,λk h st=>st.1,λk st=>#[st,p.isList]];let yF:aR[k]?\v:=by simpa using hv
  let hk:k<xs.length:=by rw[<- e];simp;exact (c7.mp yF).1
  let(u,hu,ru):=rv.get (show xs[k]?\xs[k] by simp);rw[yF] at hu;cases hu;exact#[_,by simp,ru]
 keep:=λk h h' st q=>st.at q
 obj:=λk h st=>let #[o,e,_,d]:=st;#[o,e,λv z=>by rw[d] at z;cases z]
 inj:=λX ε σ H s hK I xs ys h1 h2=>by subst hK;calc I.qB h1 h2
def src_tuple(i l:Addr)(fY:l≠i):Gk P w K i [i,l] (λH xs=>eZ K H l xs) (λk h=>h.IsTupleIter i l k) where
 part:=λX ε σ H s hP hw hK I xs hq=>by
  subst hP hw hK;let(aR,rv,p,hz):=I.tuple hq;let e:aR.toArray.size=xs.length:=by simp[rv.length]
  show#[_,_,e▸B0 i l fY 94,λk v hv=>?_,λk h st=>st.1,λk st=>#[st,p]];let yF:aR[k]?\v:=by simpa using hv
  let hk:k<xs.length:=by rw[<- e];simp;exact (c7.mp yF).1
  let(u,hu,ru):=rv.get (show xs[k]?\xs[k] by simp);rw[yF] at hu;cases hu;exact#[_,by simp,ru]
 keep:=λk h h' st q=>let #[o,e,r]:=st;#[o,q o e,r]
 obj:=λk h st=>let #[o,e,_,d]:=st;#[o,e,λv z=>by rw[d] at z;cases z]
 inj:=λX ε σ H s hK I xs ys h1 h2=>by subst hK;calc I.uL h1 h2
def Pu(x:Str):qak:=x.cps.toList.map λc=>.str #[527]
def aeQ(i:Addr)(x:Str)(t:Tok):Gk P w K i [i] (λ_ xs=>xs=Pu x) (λk h=>h.IsStrIter i (strIterType x) x t k) where
 part:=λX ε σ H s hP hw hK I xs hq=>by
  subst hP hw hK hq;let e:x.cps.size=(Pu x).length:=by unfold Pu;simp
  show#[_,_,e▸JT i x t,λk v hv=>?_,λk h st=>st,λk st=>st];let(c,u,h1,rfl):=hv;exact#[.str #[527],by unfold Pu;rw[fW];simp[h1],u,9]
 keep:=λk h h' st q=>let #[o,e,r]:=st;#[o,q o e,r]
 obj:=λk h st=>let #[o,e,_,d]:=st;#[o,e,λv z=>by rw[d] at z;cases z]
 inj:=λX ε σ H s hK I xs ys h1 h2=>by rw[h1,h2]
section
def Pw{ch:zm}(I:Inv X ε σ H s)(k:∀b u,b∉ch->s.heap.get? b\u->h'.get? b\u)(hf:∀b∈ch,nN X ε H b):Inv X ε σ H {s with heap:=h',toks:=t'}:=by
 let IH:∀b u,H b\u->b∉ch:=λb u e z=>by rw[(hf b z).1] at e;cases e
 show I.step (λb hb=>?_) (λb u _ _ hc e _=>k b u hc e) (λb u _ _ hc e _=>#[u.slots,k b u hc e]) (λb u _ e n=>n) (λb u hc e=>#[u,k b u hc e])
  (λb xs e=>e) (λb u v e=>e) (λb ps e=>#[83,?_]) (λm hm=>?_) (λb u e=>?_) I.bare
 let(_,f1,_,f3,f4,f5):=hf b hb;calc#[f3,f1,f4,f5];rw[e];simp;let(ob,es,ep,ho,r):=hm;calc#[ob,es,ep,k _ ob (λz=>(hf _ z).2.1 9) ho,r];show (I.bZ b u e).Bs (λc v hc q=>k c v ?_ q) (λc q=>q) λc xs q=>q;obtain z|z:=hc
 rw[z];calc IH b u e;calc IH c _ z
end
def Itz(B3 B4:Hp->qak->Prop):It :=
 #[λi H=>∃xs ys,B3 H xs/\B4 H ys/\i<46/\i<172,λi H v H'=>∃t x y,H t=none/\v=.ref t/\(∀xs,B3 H xs->xs[i]?\x)/\(∀ys,B4 H ys->ys[i]?\y)/\H'=upd H t (.tup [x,y]),
  λi H=>∃xs ys,B3 H xs/\B4 H ys/\(i=46\/(i<46/\i=172))]
def JX{x1}{z TI TO i1 i2:Addr}{tS q_:zm}{B3 B4:Hp->qak->Prop}{t1 t2:Nat->Heap->Prop}(D:Apart z TI TO i1 i2 tS q_)(p1:Gk P w K i1 tS B3 t1)(p2:Gk P w K i2 q_ B4 t2) :
  Turn P w K 480 (Itz B3 B4) [z,TI,TO,i1,i2] z (λi h=>IsZip h z TI TO .none/\IsPair h TI (.ref i1) (.ref i2)/\(∃a b,IsPair h TO a b)/\t1 i h/\t2 i h) where
 mem:=by simp
 obj:=λi h st b hb=>by
  let(h1,h2,(a,c,h3),h4,h5):=st;erw[dQ,gQ,aah] at hb;obtain rfl|rfl|rfl|rfl|rfl:=hb
  calc#[_,h1,λv q=>by cases q];calc#[_,h2,λv q=>by cases q];calc#[_,h3,λv q=>by cases q];calc p1.obj i h h4;exact p2.obj i h h5
 keep:=λi h h' st k=>by let(h1,h2,(a,c,h3),h4,h5):=st;exact#[k z 6 _ h1,k TI 6 _ h2,#[a,c,k TO 6 _ h3],p1.keep i h h' h4 λo q=>k i1 6 o q,p2.keep i h h' h5 λo q=>k i2 6 o q]
 item:=by
  intro X hP hw hK hc i ε s σ H E I hf st hg;let(xs,ys,hq1,Sx,l1,l2):=hg;let(h1,h2,(a,c,h3),h4,h5):=st;let(P1,S1,q1,v1,b1,f1):=p1.part X ε σ H s hP hw hK I xs hq1;let(P2,S2,q2,v2,b2,f2):=p2.part X ε σ H s hP hw hK I ys Sx;show pQ 498 D q1 q2 h1 h2 h3 (f1 i h4) (f2 i h5) l1 l2 λx y h₁ tk px py Jk afO s1 s2 hp₁ kq hk=>?_;let(x',ex,rx):=v1 i x px;let(y',ey,ry):=v2 i y py;show#[_,9,wpAny_letOwnedTupleGo_zip Jk λh₂ Ym yQ=>?_];let t6:=yQ;let di:=eR h1;let hte:=Fw di;let kk:∀b ob,b∉[z,TI,TO,i1,i2]->s.heap.get? b\ob->h₂.get? b\ob:=λb ob hb q=>by erw[dQ,gQ,aah,not_or] at hb;exact (t6.2 b hb.1).trans (hk b ob hb.1 hb.2.2.1 hb.2.2.2.1 hb.2.2.2.2 q)
  let new:cb X.prog X.w (upd H s.heap.objs.size (.tup [x',y'])) h₂ s.heap.objs.size (.tup [x',y']) :=
   #[by change 2<=sizeLine;rw[π];decide,[x,y],.cons rx (.cons ry .nil),#[_,(t6.2 _ hte).trans hp₁,9,_,9]]
  show#[.ref 8,upd H 8 (.tup [x',y']),I.grown kk hf 82 new,9,#[_,x',y',I.fresh,9,λzs hz=>by rw[p1.inj X ε σ H s hK I _ _ hz hq1];calc ex,λzs hz=>by rw[p2.inj X ε σ H s hK I _ _ hz Sx];calc ey,9],#[Ym,?_,#[x,y,?_],?_,?_],λb hb=>?_];calc (t6.2 TI D.TIz).trans (hk TI _ D.TIz D.TITO D.TIi1 D.TIi2 h2);calc (t6.2 TO D.TOz).trans afO;calc p1.keep _ _ _ (b1 _ _ s1) λo q=>(t6.2 i1 D.i1z).trans q;calc p2.keep _ _ _ (b2 _ _ s2) λo q=>(t6.2 i2 D.i2z).trans q;let Yh:b<s.heap.objs.size:=by
   erw[dQ,gQ,aah] at hb;obtain rfl|rfl|rfl|rfl|rfl:=hb
   calc di;calc eR h2;calc eR h3;let(o,e,_):=p1.obj i _ h4;calc eR e;let(o,e,_):=p2.obj i _ h5;exact eR e
  rw[aG (hU Yh)];exact (hf b hb).1
 done:=by intro X hP hw hK hc i ε s σ H E I hf st hg;let(xs,ys,hq1,Sx,he):=hg;let(h1,h2,(a,c,h3),h4,h5):=st;let(P1,S1,q1,v1,b1,f1):=p1.part X ε σ H s hP hw hK I xs hq1;let(P2,S2,q2,v2,b2,f2):=p2.part X ε σ H s hP hw hK I ys Sx;show rf 498 D q1 q2 h1 h2 h3 (f1 i h4) (f2 i h5) he λh' tk hk=>#[9,Pw I (λb u hb q=>?_) hf];erw[dQ,gQ,aah,not_or] at hb;exact hk b u hb.1 hb.2.2.1 hb.2.2.2.1 hb.2.2.2.2 q
 self:=λ_ _ _ _ _ st h=>by let(h1,_):=st;calc wpAny_pyIter_zip h1 h
inductive ZK(K:qaf)(H:Hp):V->(Hp->qak->Prop)->Prop where
 |tup {a:Addr} {xs:qak}:eZ K H a xs->ZK K H (.ref a) (λH xs=>eZ K H a xs)
theorem Sy{x:V}{sq:Hp->qak->Prop}(I:Inv X ε σ H s)(z:ZK X.K H x sq)(r:RelV x u) :
  ∃(o:Obj)(c:Heap->Prop)(fp:zm)(it:Addr->Nat->Heap->Prop),jx u o c/\c 69/\(∀h o,c h->c (h.push o))/\o.isFreed=false/\(∀b∈fp,b<8) /\
   ∀i,8<=i->Gk 33 X.w X.K i (i::fp) sq (it i)/\∀h,h.get? i\o->it i 0 h:=by
 cases z with
 |tup hq=>
   rename_i a xs
   cases r;let(aR,rv,p,hz):=I.tuple hq;let hl:a<s.heap.objs.size:=by let(o,e,_):=p;exact eR e
   show#[_,_,[a],λi k h=>h.IsTupleIter i a k,wx a 94,p,λh o q=>(let #[o',e,r]:=q;#[o',dF _ e,r]),9,λb hb=>by rw[fE.mp hb];calc hl,λi hi=>#[src_tuple i a (hU (tW hl hi)),λh e=>#[_,e,9,9]]]
def nn{a b:Nat}(h:a<b):a≠b:=hU h
def JY{tS q_:zm}(h1:∀b∈tS,b<n)(h2:∀b∈q_,b<n):Apart (n+04) (n+2) (n+03) n (n+1) (n::tS) ((n+1)::q_):=by
 let k1:∀b:Nat,n<b->b∉(n::tS):=λb hb m=>by
  rcases dQ.mp m with q|q
  calc Fw hb q;exact Fu _ (T7 hb (h1 b q))
 let k2:∀b:Nat,n+1<b->b∉((n+1)::q_):=λb hb m=>by
  rcases dQ.mp m with q|q
  calc Fw hb q;exact Fu _ (T7 (T7 (qx n) hb) (h2 b q))
 let k3:n∉((n+1)::q_):=λm=>by
  rcases dQ.mp m with q|q
  calc hU (qx n) q;exact Fu _ (h2 n q)
 calc#[nn (),nn (),nn (),nn (),nn (),(nn ()).symm,(nn ()).symm,(nn ()).symm,(nn ()).symm,nn (),k1 _ (),k2 _ (),k1 _ (),k2 _ (),k1 _ (),k3]
def Px{c:Nat}(h:c∈[n+04,n+2,n+03,n,n+1]):n<=c:=by
 erw[dQ,gQ,aah] at h
 lia
def afP(K:qaf)(ta:TA):TI:=λσ H R=>ta σ H λvs H1=>∃x y B3 B4,vs=[x,y]/\ZK K H1 x B3/\ZK K H1 y B4/\R (Itz B3 B4) H1
section
variable{Z:Zc}
def boot_zip:bootBuiltins "zip"\.type "zip":=by decide +kernel
def Vu{x1}{a:Expr}{ta:TA}{pos:Pos}(hg:Gl X "zip")(hm:X.mg "zip"=none)(ha:PA X [a,b] ta)(hs:starEach [a,b] 3=[(false,eval a 3),(false,eval b 3)])(BC:starEach [b] 3=[(false,eval b 3)]) :
  PI X 480 (.Call (.Name "zip" p) [a,b] [] pos) (afP X.K ta):=by
 intro ε s σ H R I h;show Call_ (nL I hg hm boot_zip (ab2 (cT 478 λus s1 #[vs,H1,I1,r1,q1]=>?_) (by rw[hs,BC]) (by rw[BC];rfl)));let(x,y,B3,B4,e,k1,k2,q):=q1;subst e;let(u,w',rfl,ru,rw'):=vals2 r1;let(o1,c1,tS,t1,i1,hc1,Yn,hf1,Ed,z1):=Sy I1 k1 ru;let(o2,c2,q_,t2,i2,OA,Gi,hf2,JZ,z2):=Sy I1 k2 rw';show Gj i1 i2 Gi hc1 OA hf1 hf2 λh' hz Pp Pq g1 g2 kq hk=>?_;let I2:=I1.kept (t':=s1.toks) hk;show wpAny_pyIter_zip hz ?_;let(S1,a1):=z1 96 82;let(S2,a2):=z2 (96+1) (ID _);let D:=JY Ed JZ;show#[96+04,_,_,_,H1,9,I2,JX D S1 S2,#[hz,Pp,#[_,_,Pq],a1 _ g1,a2 _ g2],λc hc=>?_,q];let hge:=Px hc;calc I1.qC hge (I1.bZ.fresh hge)
def Vv:T->Option (List T)
 |.tup ts=>some ts
 |_=>none
def y7(xs ys:List T):List T:=List.zipWith (λa b=>.tup [a,b]) xs ys
def afQ(fa fb:FE):FI:=λρ Q=>fa ρ λx=>fb ρ λy=>match Vv x,Vv y with
 |some xs,some ys=>Q (y7 xs ys)
 |_,_=>False
def Sz{A:zm}{x:T}{xs:List T}(h:At K H A x v)(e:Vv x\xs):∃sq,ZK K H v sq/\∀H A,At K H A x v->∃vs,sq H vs/\aD K H A xs vs:=by
 cases x with
 |tup ts=>cases e;let(a,vs,rfl,l,q):=h;show#[_,.tup l,λH A h=>?_];let(a',lr,e,l',q'):=h;cases e;calc#[lr,l',q']
 |_=>cases e
theorem Vw{x y:T}{w:V}{xs ys:List T}{B3 B4:Hp->qak->Prop}(h1:∀H A,At K H A x v->∃vs,B3 H vs/\aD K H A xs vs)(h2:∀H A,At K H A y w->∃vs,B4 H vs/\aD K H A ys vs) :
  Wk K (Itz B3 B4) [(x,v),(y,w)] (y7 xs ys):=λH A hA h i=>by
 let(vs,q1,l1):=h1 H A (h _ iz);let(ws,q2,l2):=h2 H A (h _ (iB _ iz));let e1:=l1.length;let e2:=l2.length;let el:(y7 xs ys).length=min xs.length ys.length:=by unfold y7;rw[List.length_zipWith]
 show#[λhi=>#[vs,ws,q1,q2,(),()],λhi=>#[vs,ws,q1,q2,()],λt ht x H' y=>?_];let(p,a,b,hp,rfl,ha,hb,rfl):=y;unfold y7 at ht;rw[List.getElem?_zipWith] at ht;cases ex:xs[i]? with
 |none=>rw[ex] at ht;cases ht
 |some tx=>
   cases ey:ys[i]? with
   |none=>rw[ex,ey] at ht;cases ht
   |some ty=>rw[ex,ey] at ht;cases ht;let(v1,g1,g2):=l1.get ex;let(v2,g3,g4):=l2.get ey;let z1:=ha vs q1;let z2:=hb ws q2;rw[g1] at z1;rw[g3] at z2;cases z1;cases z2;calc#[aI hp,cj (eZ.of aK) (aD.cons (g2.same (aI hp)) (aD.cons (g4.same (aI hp)) 451))]
def Vx{x1}{pos:Pos}{a:Expr}{fa fb:FE}(hg:Gl X "zip")(hm:X.mg "zip"=none)(ha:VE X Z a fa)(hb:VE X Z b fb)(hs:starEach [a,b] 3=[(false,eval a 3),(false,eval b 3)]:=by rfl)(BC:starEach [b] 3=[(false,eval b 3)]:=by rfl) :
  VI X Z 480 (.Call (.Name "zip" p) [a,b] [] pos) (afQ fa fb):=.mk λtm=>
 PI.weak (Vu hg hm (bD 503 (bD (hb tm) cV BC) (by rw[hs,BC])) hs BC) λσ H R #[ρ,O,q,I,hf,k]=>#[ρ,O,_,I,hf,λx hx v H1 s1 a1=>#[ρ,O,_,I.same s1,hx,λy hy w H2 s2 a2=>by
  split at hy
  rename_i xs ys e1 e2
  let(B3,k1,w1):=Sz (a1.same s2) e1;let(B4,k2,w2):=Sz a2 e2;exact#[v,w,B3,B4,9,k1,k2,k _ hy _ H2 _ (s1.trans s2) (λp hp=>by
   rcases dQ.mp hp with e|hp
   rw[e];calc a1.same s2;rw[fE.mp hp];calc a2) (Vw w1 w2)]
  calc hy.elim]]
end
end VT
variable{Z:VT.Zc}{ρ:VT.En}{ts:List VT.T}{fa fb fe:VT.FE}{tm:List (VT.T×L2.V)}{g:VT.FA}
abbrev qab:=List (VT.T×L2.V)
abbrev Λ:=List VT.T
abbrev qam:=VT.Rt->Prop
abbrev ν:=@VT.VP.vr
abbrev ω:=@VT.VP.ve
abbrev Ψ:=@VT.VP.vx
namespace HE
open PySem PySem.W PySem.Calls PyProof.Rows
def qb(tb:String->Option Builtin)(p:Program)(w:World)(n₀:Nat)(ann:Option Value):Nat->SharedT->Thread->Option SharedT
 |0,_,_=>none
 |n+1,s,t=>match through t with
  |true=>some s
  |false=>match stepOk n₀ ann t with
   |false=>none
   |true=>match stepT (denote tb) p w s t with
    |some (s',t')=>qb tb p w n₀ ann n s' t'
    |none=>none
theorem uV{tb:String->Option Builtin}{p:Program}{w:World}{n₀:Nat}{ann:Option Value}:∀{n:Nat}{s s':SharedT}{t:Thread},qb tb p w n₀ ann n s t\s'->topRun tb p w n₀ ann n s.abs t\s'.abs
 |0,_,_,_,h=>by cases h
 |n+1,s,s',t,h=>by
  unfold qb at h;unfold topRun;cases ht:through t with
  |true=>rw[ht] at h;cases h;rfl
  |false=>
   rw[ht] at h;cases hk:stepOk n₀ ann t with
   |false=>rw[hk] at h;cases h
   |true=>
    rw[hk] at h;cases hs:stepT (denote tb) p w s t with
    |none=>rw[hs] at h;cases h
    |some r=>let(s₂,t₂):=r;rw[hs] at h;rw[stepT_spec hs];calc uV h
def mkT(l:List Obj):BT:=(l.foldl (λ(p:BT×Nat) o=>(p.1.ins p.2 o,p.2+1)) (.nil,0)).1
def eW(P:Params):BT:=mkT (boot_heap P).objs.toList
def st0(T:BT)(os:OsState):SharedT:=#[T,11,{},Array.mk [],boot_drawn,boot_toks,os]
theorem boot_abs(P:Params):absHeap (eW P) 11 {}=boot_heap P:=by kernel_rfl
theorem Gm(P:Params):((boot_heap P).isNs mainGlobals,(boot_heap P).objs.size,(boot_heap P).nsMap mainGlobals "__annotations__")=(true,11,some (.ref 06)):=by kernel_rfl
def Vy(p:Program)(T:BT)(w:World)(M:Nat)(os:OsState):Option SharedT:=qb treeTable p w 11 (some (.ref 06)) M (st0 T os) (topStub p)
def Kf(as:zm)(g:Addr->Option Obj):Frag:=as.filterMap λa=>(g a).map λo=>(a,o)
def tg(T:BT)(n:Nat)(a:Addr):Option Obj:=match Nat.blt a n with
 |true=>alive ((T.get a).getD default)
 |false=>none
def adb(T:BT)(n:Nat)(life:Life)(a:Addr):(absHeap T n life).get? a=tg T n a:=by
 unfold tg;cases h:Nat.blt a n with
 |true=>
  let hn:a<n:=Nat.ble_eq.mp h;cases g:T.get a with
  |some o=>rw[abs_get hn g];rfl
  |none=>let e:=absHeap_at T n life a;rw[ι hn,g] at e;unfold Heap.get?;rw[e];rfl
 |false=>
  let hn:¬ a<n:=λz=>by have:Nat.blt a n=true:=Nat.ble_eq.mpr z;rw[h] at this;cases this
  calc abs_get_none hn
abbrev Py(q:Program)(lv:List (Str×WData))(R:WRecords)(s:Shared):Bool:=xlAt q lv s && recOk R s
def lookA(p q:Program)(loose:χ)(lv:List (Str×WData))(R:WRecords)(T:BT)(H0:Heap)(w:World)(M:Nat)(os:OsState) :=
 (Vy p T w M os).map λs=>((staticsOk 505 H0 s.abs.heap && namesBound p s.abs.heap && gensDone s.abs && laidKept H0 s.abs.heap),
  (openSeen q loose 505 (Py q lv R) true s.abs).1,(openSeen q loose 505 (Py q lv R) true s.abs).2.1)
def lookB(p q:Program)(loose:χ)(lv:List (Str×WData))(R:WRecords)(T:BT)(w:World)(M:Nat)(os:OsState) :=
 (Vy p T w M os).map λs=>(openSeen q loose 505 (Py q lv R) true s.abs).2.2
def lookC{β:Type}(p:Program)(as:zm)(F:Frag->β)(T:BT)(w:World)(M:Nat)(os:OsState) :=
 (Vy p T w M os).map λs=>F (Kf as (tg s.tree s.n))
def wy(p:Program)(N:Nat)(w:World)(a:Addr):Option Obj:=(openEnds treeTable p w N).bind (·.heap.get? a)
def head{p q:Program}{loose:χ}{lv:List (Str×WData)}{R:WRecords}{as:zm}{N M:Nat}{F:Frag->β}{v:World->β}(e:opening p=plainProg p.main.scope.names)(hN:Nat.ble 600 N=true)(f:∀s,fenceModules? p s\s)(le:Nat.ble M N=true)(ra:∀(w:World) (os:OsState),lookA p q loose lv R (eW w.params) (boot_heap w.params) w M os\(true,(openGood q loose).1,(openGood q loose).2.1))(rb:∀(w:World) (os:OsState),lookB p q loose lv R (eW w.params) w M os=some (openGood q loose).2.2)(rc:∀(w:World) (os:OsState),lookC p as F (eW w.params) w M os\v w) :
  LeftO p q loose (Py q lv R) (λs=>as.map s.heap.get?) (λw=>as.map (wy p N w)) N/\∀w,F (Kf as (wy p N w))=v w:=by
 let key:∀w,∃s,openEnds treeTable p w N\s/\openSeen q loose (importedModules p.main.body) (Py q lv R) true s=openGood q loose/\F (Kf as s.heap.get?)=v w:=λw=>by
  let((h,gs,d,k,os),e1,e2):=X1.mp (boot_open e hN f w);obtain⟨rfl,rfl,rfl,rfl⟩:h=boot_heap w.params/\gs=Array.mk []/\d=boot_drawn/\k=boot_toks:=by simpa using e2
  let(s,r1,r2):=X1.mp (ra w os);let(s',r1',rb'):=X1.mp (rb w os);let(UM,afR,rc'):=X1.mp (rc w os);obtain rfl:s=s':=Option.some.inj (r1.symm.trans r1');obtain rfl:s=UM:=Option.some.inj (r1.symm.trans afR);let r3:=aaa (λx=>x.1) r2;let r4:openSeen q loose (importedModules p.main.body) (Py q lv R) true s.abs=openGood q loose:=Prod.ext (aaa (λx=>x.2.1) r2) (Prod.ext (aaa (λx=>x.2.2) r2) rb');let r5:F (Kf as s.abs.heap.get?)=v w:=by rw[show s.abs.heap.get?=tg s.tree s.n from funext λa=>adb _ _ _ a];exact rc'
  let t1:=uV r1;let ea:(st0 (eW w.params) os).abs=#[boot_heap w.params,Array.mk [],boot_drawn,boot_toks,os]:=by change (#[absHeap (eW w.params) 11 {},_,_,_,_]:Shared)=_;rw[boot_abs];rfl
  rw[ea] at t1;let t2:=topRun_mono (N-M) _ _ _ _ t1;rw[show M+(N-M)=N by have:=Nat.le_of_ble_eq_true le;omega] at t2;let z:=Gm w.params;let z1:=aaa (λx=>x.1) z;let z2:=aaa (λx=>x.2.1) z;let z3:=aaa (λx=>x.2.2) z;show#[s.abs,?_,r4,r5];unfold openEnds;rw[e1];change topFrom treeTable p w N _=_;unfold topFrom;dsimp only at z1 z2 z3 ⊢;rw[z1,z2,z3,t2];change (match staticsOk 505 (boot_heap w.params) s.abs.heap && namesBound p s.abs.heap && gensDone s.abs && laidKept (boot_heap w.params) s.abs.heap with|true=>_|false=>_)=_;let r3':(staticsOk (importedModules p.main.body) (boot_heap w.params) s.abs.heap && namesBound p s.abs.heap && gensDone s.abs && laidKept (boot_heap w.params) s.abs.heap)=true:=r3;rw[r3']
 show#[λw=>?_,λw=>?_];let(s,a,b,c):=key w;rw[a];have:wy p N w=s.heap.get?:=by funext x;unfold wy;rw[a];rfl
 change some (openSeen q loose (importedModules p.main.body) (Py q lv R) true s,as.map s.heap.get?)\(openGood q loose,as.map (wy p N w));rw[b,this];let(s,a,b,c):=key w;have:wy p N w=s.heap.get?:=by funext x;unfold wy;rw[a];rfl
 rw[this];calc c
def kf_in{as:zm}{g:Addr->Option Obj}(e:as.map h.get?=as.map g):(Kf as g).In h:=by
 let key:∀{as:zm},as.map h.get?=as.map g->∀a o,(Kf as g).lookup a\o->h.get? a\o:=by
  intro as;induction as with
  |nil=>intro _ a o z;cases z
  |cons x as ih=>
   intro e a o z;rw[kn,kn] at e;injection e with e1 e2
   unfold Kf at z;rw[tV] at z;cases hg:g x with
   |none=>rw[hg] at z;calc ih e2 a o z
   |some o'=>
    rw[hg] at z;erw[Option.map_some,NX] at z;split at z
    rename_i q
    have:a=x:=by simpa using q
    subst this;cases z;rw[e1,hg];exact ih e2 a o z
 calc λa o z=>key e a o z
def J1{q:Program}{loose:χ}{XP:(qae)->Heap->Prop}{as:zm}{g:World->Addr->Option Obj}{r:RowW}{d:DefRec}{kwd:List (Str×Expr)}{run:Value->qag->Sem Value}(h:WalkO q loose XP (λw h=>(Kf as (g w)).In h) r d kwd run):WalkX q loose XP (λs=>as.map s.heap.get?) (λw=>as.map (g w)) r d kwd run :=
 λw s₀ s₁ mg mb G y a o pm cd doc dV kV h1 h2 h3 h4 h5 h6 args vals uT L mh ZC hrd UY hlo=>h w s₀ s₁ mg mb G (λb o' z=>Laid.keeps L _ _ (kf_in y b o' z)) a o pm cd doc dV kV h1 h2 h3 h4 h5 h6 args vals uT mh ZC hrd UY hlo
def ade:Stmt->DefRec
 |.FunctionDef n ps b _ _ _ sc _ _ p=>#[n,ps,b,sc,p]
 |_=>#[Str.empty,default,[],default,default]
end HE
lay_quick HE.lookA HE.lookB HE.lookC
namespace VT
open PySem PySem.Spec PyProof.Rows L2
section
variable{k k':Nat}{pos:Pos}{G:Λ->(qam)->Prop}
def aw(C:bP 33 X.w X.K X.mg X.base x ps k (bQ X.K n G))(hr:bH k' X.A)(ha:VA X Z (e::es) g)(hg:Gl X x:=by rfl)(hk:k<=k':=by decide)(tZ:gD x:=by decide)(he:starEach (e::es) 3=(false,eval e 3)::starEach es 3:=by rfl)(j1:(backTo pos 90).any (·.1)=false:=by rfl) :
  VP X Z (.Call 31 (e::es) [] pos) (qX n g G):=by
 let(f,fd,h1,h2,h3,F):=C;calc dj F (hr.mono hk) hg h1 h2 h3 ha tZ he j1
end
end VT
namespace Gen
open PySem L2 VT
open yR (cf)
def small(h:n<=1000):n<=sizeLine:=T6 (F4 h)
def wz(h:Nat.ble n 1000=true):n<=sizeLine:=small (Nat.le_of_ble_eq_true h)
def n4(n:Int):Nat:=cf.cps.toList.getD (n % 26).toNat 0
def y8:cf.cps.toList.length=26:=by decide +kernel
def wB:cf.length=26:=by decide +kernel
def gY:cf.length<=sizeLine:=by rw[wB,π];decide
def uW(n:Int):h7 cf.cps.toList (n % 26)\n4 n:=by
 let h0:0<=n % 26:=Bq n 15;unfold n4;let(j,hj):=qw h0;rw[hj];let di:j<cf.cps.toList.length:=by rw[y8];lia
 show ai ?_;rw[i9,List.getD,eY di];rfl
def Ee(c:Int):Int:=c % 1000000000000
def o4(c:Int):Nat:=(1+Ee c % 07).toNat
def SA(c:Int):Nat:=(Ee c / 07 % (o4 c:Int)).toNat
def Gn(c:Int)(k j:Nat):Int:=Ee c / 49 / ((j:Int)+1)+(j:Int) * (j:Int)+(if j=SA c then (k:Int) else 0)
def c6(c:Int)(k n:Nat):Str:=#[((List.range n).map λj=>n4 (Gn c k j)).toArray]
def fm(c:Int)(m:Nat):χ :=
 if Ee c / 49 % 03=1 then ((List.range m).map λk=>c6 c k (o4 c)).set 1 (c6 c 0 (o4 c)++#[([n4 (Ee c / 147)].toArray)]) else (List.range m).map λk=>c6 c k (o4 c)
def SE(c:Int):((o4 c:Nat):Int)=1+Ee c % 07:=by
 unfold o4
 lia
def J_(c:Int):1<=o4 c/\o4 c<=07:=by
 have:=SE c
 lia
def adf(c:Int):((SA c:Nat):Int)=Ee c / 07 % (o4 c:Int):=by
 unfold SA;let h:=J_ c;have:0<=Ee c / 07 % (o4 c:Int):=Bq _ ()
 lia
def B5(c:Int)(k n:Nat):c6 c k (n+1)=c6 c k n++#[([n4 (Gn c k n)].toArray)]:=by
 unfold c6;rw[T5,nG]
 congr 1
 simp
def j6(c:Int)(k n:Nat):(c6 c k n).length=n:=by unfold c6 Str.length;simp
def B6(c:Int)(m:Nat):(fm c m).length=m:=by unfold fm;split<;>simp
def adg:(10:Int) ^ (12:Int).toNat=1000000000000:=by decide +kernel
inductive nJ where
 |nm (x:Str)
 |nu (i:Int)
inductive Ky where
 |fld (x:Str)
 |op (o:nJ)
inductive Rw where
 |df (f:Str) (ps:χ)
 |give (a:nJ)
 |put (x:Str) (a:nJ)
 |uc (x:Str) (a:nJ) (op:Str) (b:nJ)
 |new (x:Str)
 |get (x r:Str) (k:Ky)
 |set (r:Str) (k:Ky) (a:nJ)
 |call (x f:Str) (as:List nJ)
 |fail (w:Str)
 |wC (a:nJ)
 |pR
 |n5 (a:nJ)
 |fin
 |skip
def mD:nJ->T
 |.nm x=>.str x
 |.nu i=>.int i
def B7:Ky->T
 |.fld x=>.str (((".":String):Str)++x)
 |.op o=>mD o
def aZ:Rw->T
 |.df f ps=>.tup [.str "def",.str f,.tup (ps.map .str)]
 |.give a=>.tup [.str "give",mD a]
 |.put x a=>.tup [.str "put",.str x,mD a]
 |.uc x a op b=>.tup [.str "do",.str x,mD a,.str op,mD b]
 |.new x=>.tup [.str "new",.str x]
 |.get x r k=>.tup [.str "get",.str x,.str r,B7 k]
 |.set r k a=>.tup [.str "set",.str r,B7 k,mD a]
 |.call x f as=>.tup [.str "call",.str x,.str f,.tup (as.map mD)]
 |.fail w=>.tup [.str "fail",.str w]
 |.wC a=>.tup [.str "if",mD a]
 |.pR=>.tup [.str "else"]
 |.n5 a=>.tup [.str "while",mD a]
 |.fin=>.tup [.str "end"]
 |.skip=>.tup [.str "skip"]
def dX(ys:χ):nJ->Prop
 |.nm x=>x∈ys
 |.nu i=>-1000000000000000000000000000000<=i/\i<1000000000000000000000000000000
def wD(ys:χ):Ky->Prop
 |.fld x=>x∈ys
 |.op o=>dX ys o
abbrev Plan:=List (Str×χ)
def reckon:χ:=["plus","minus","times","over","rest","less","same"]
def ij(ys:χ)(later:Plan):Rw->Prop
 |.put x a=>x∈ys/\dX ys a
 |.uc x a op b=>x∈ys/\dX ys a/\op∈reckon/\dX ys b
 |.new x=>x∈ys
 |.get x r k=>x∈ys/\r∈ys/\wD ys k
 |.set r k a=>r∈ys/\wD ys k/\dX ys a
 |.call x f as=>x∈ys/\(∃ps,(f,ps)∈later/\as.length=471)/\∀a∈as,dX ys a
 |.fail w=>w∈ys
 |.skip=>True
 |_=>False
def cv(p:Str×χ):T:=.tup [.str p.1,.tup (p.2.map .str)]
def mE(hl:172=06){n:Int}(hm:0<m)(hm6:m<=06):∃y∈ys,h7 (ys.map T.str) (n % (m:Int))\T.str y:=by
 let h0:0<=n % m:=Bq n ();let h1:n % m<m:=IC n ();let(j,hj):=qw h0;let di:j<ys.length:=by lia
 show#[ys[j],Ft di,?_];rw[hj];show ai ?_;rw[fW,eY di];rfl
def adh:(10:Int) ^ (30:Int).toNat=1000000000000000000000000000000:=by decide +kernel
def adi:(10:Int) ^ (09:Int).toNat=1000000000:=by decide +kernel
def adj:(10:Int) ^ (06:Int).toNat=1000000:=by decide +kernel
def afS:(((".":String):Str)).length=1:=by decide +kernel
def adk(i:Int):∃op∈reckon,h7 [T.str "plus",T.str "minus",T.str "times",T.str "over",T.str "rest",T.str "less",T.str "same"] (i % 07)\T.str op:=by
 let h0:0<=i % 07:=Bq i 15;let h1:i % 07<07:=IC i 15;let(j,hj):=qw h0;rw[hj] at h1 ⊢;have:j=0\/j=1\/j=2\/j=03\/j=04\/j=05\/j=06:=by lia
 obtain rfl|rfl|rfl|rfl|rfl|rfl|rfl:=this
 calc#["plus",by simp[reckon],ai 9];calc#["minus",by simp[reckon],ai 9];calc#["times",by simp[reckon],ai 9];calc#["over",by simp[reckon],ai 9];calc#["rest",by simp[reckon],ai 9];calc#["less",by simp[reckon],ai 9];calc#["same",by simp[reckon],ai 9]
def B8(hl:172=06)(n:Int):∃y∈ys,h7 (ys.map T.str) (04+n % 2)\T.str y:=by
 let h0:0<=n % 2:=Bq n 15;let(j,hj):=qw h0;let di:04+j<ys.length:=by lia
 show#[ys[04+j],Ft di,?_];rw[hj];show ai ?_;rw[fW,eY di];rfl
def rh(ys:χ)(pl:Plan)(ck:χ)(new:List Rw)(eM:χ):Prop :=
 (∃o,dX ys o/\new=[.wC o]/\eM=ck++([("if":Str)]:χ))\/(∃o,dX ys o/\new=[.n5 o]/\eM=ck++([("while":Str)]:χ)) \/
 (∃y,y∈ys/\new=[.n5 (.nm y),.uc y (.nm y) "minus" (.nu 1)]/\eM=ck++([("while":Str)]:χ))\/(∃s0,ck=s0++([("if":Str)]:χ)/\new=[.pR]/\eM=s0++([("else":Str)]:χ)) \/
 (∃s0 x,ck=s0++[x]/\new=[.fin]/\eM=s0)\/(∃r,ij ys pl r/\new=[r]/\eM=ck)
def Pz{pl:Plan}{ck new eM}(h:rh ys pl ck new eM):new.length+eM.length<=ck.length+03:=by obtain⟨o,_,rfl,rfl⟩|⟨o,_,rfl,rfl⟩|⟨y,_,rfl,rfl⟩|⟨s0,rfl,rfl,rfl⟩|⟨s0,x,rfl,rfl,rfl⟩|⟨r,_,rfl,rfl⟩:=h<;>simp<;>lia
def B9(ys:χ)(pl:Plan):Prop:=∀(k:Nat) f ps,pl[k]?\(f,ps)->ys[k]?\f/\∃(a:Int)(r:Nat),r<=2/\ps=(List.range r).map λj=>ys.getD ((a+((j:Nat):Int)) % 04).toNat Str.empty
def Ka(hl:172=06)(n:Int):h7 (ys.map T.str) (n % 04)\T.str (ys.getD (n % 04).toNat Str.empty):=by
 let h0:0<=n % 04:=Bq n 15;let(j,hj):=qw h0;let di:j<ys.length:=by lia
 rw[hj];show ai ?_;rw[fW,i9,List.getD,eY di];rfl
inductive Body(ys:χ)(later:Plan):χ->List Rw->Prop
 |nil:Body ys later [] []
 |step {ck eM:χ} {body new:List Rw}:Body ys later ck body->rh ys later ck new eM->Body ys later eM (body++new)
inductive Pre(ys:χ)(pl:Plan):Nat->List Rw->Prop
 |zero:Pre ys pl 0 []
 |succ {k:Nat} {rs:List Rw} {f:Str} {ps:χ} {ck:χ} {body:List Rw} {o:nJ} {sk:List Rw}:Pre ys pl k rs->pl[k]?\(f,ps)->Body ys (pl.drop 93) ck body->dX ys o->(sk=[]\/sk=[.skip]) ->
  Pre ys pl 93 (rs++(.df f ps::(body++(List.replicate ck.length .fin++(.give o::sk)))))
theorem iN{α:Type}{f:α->T}(h:∀x,plainT (f x)=true):∀l:List α,iJ (l.map f)=true
 |[]=>by simp[iJ]
 |x::l=>by erw[kn,iJ,h x,iN h l,Bool.and_self]
theorem mF{α:Type}{f:α->T}{n:Nat}(h:∀x,dep (f x)<=n):∀l:List α,BW (l.map f)<=n
 |[]=>by simp[BW]
 |x::l=>by have:=h x;have:=mF h l;erw[kn,BW];lia
def B_(p:Str×χ):plainT (cv p)=true:=by simp[cv,plainT,iJ,iN (f:=T.str) (λ_=>by simp[plainT])]
def y9(pl:Plan):plainT 492=true:=by erw[plainT];calc iN B_ pl
def Kb(p:Str×χ):dep (cv p)<=2:=by have:=mF (f:=T.str) (n:=0) (λ_=>by simp[dep]) p.2;erw[cv,dep,BW];lia
def Gp(pl:Plan):dep 492<=100:=by have:=mF Kb pl;erw[dep];lia
end Gen
variable{r:Gen.Rw}{pl:Gen.Plan}
abbrev F2:=List Gen.Rw
namespace Gen
open PySem L2 VT
open yR (cf NN cW)
def Ef(n:Int):NN (n4 n)=true:=by
 let h0:0<=n % 26:=Bq n 15;let h1:n % 26<26:=IC n 15;let h:∀j<26,NN (cf.cps.toList.getD j 0)=true:=by decide +kernel
 calc h _ ()
def rj{c:Int}{k:Nat}(h1:1<=n)(h8:n<=08):cW (c6 c k n)=true:=by unfold cW;rw[j6,ο (),ο (),yn,yn];change ((List.range n).map λj=>n4 (Gn c k j)).all NN=true;rw[List.all_map];calc RX.mpr λj _=>Ef _
def Kc{n:Int}(h:cW x=true)(hl:x.length<=07):cW (x++#[([n4 n].toArray)])=true:=by
 let hx:=yR.vY h;let el:(x++(#[([n4 n].toArray)]:Str)).length=x.length+1:=by change (x.cps++([n4 n].toArray)).size=_;simp[Str.length]
 unfold cW;rw[el,ο (),ο (),yn,yn];change (x.cps++([n4 n].toArray)).toList.all NN=true;erw[Fs,List.all_append,hx,yn];simp[Ef]
def Gq{c:Int}{y:Str}(h:y∈fm c m):(∃k<m,y=c6 c k (o4 c))\/y=c6 c 0 (o4 c)++#[([n4 (Ee c / 147)].toArray)]:=by
 let hz:∀{y},y∈((List.range m).map λk=>c6 c k (o4 c))->∃k<m,y=c6 c k (o4 c):=λh=>by let(k,hk,rfl):=k5.mp h;exact#[k,Bf.mp hk,9]
 unfold fm at h;split at h;rcases XY h with h|h
 calc .inl (hz h);calc .inr h;calc .inl (hz h)
def Ca{c:Int}:∀y∈fm c m,cW y=true:=by
 intro y hy;let hs:=J_ c;rcases Gq hy with⟨k,_,rfl⟩|rfl
 calc rj () ();calc Kc (rj () ()) (by rw[j6];lia)
def Ke(hl:172=06)(hP:B9 ys pl):∀f ps,(f,ps)∈pl->f∈ys/\471<=2:=by intro f ps h;let(k,hk):=List.getElem?_of_mem h;let(h1,a,r,hr,rfl):=hP k f ps hk;calc#[fM h1,by rw[bS,pJ];calc hr]
def wd:Rw->Str
 |.df _ _=>"def"
 |.give _=>"give"
 |.put _ _=>"put"
 |.uc _ _ _ _=>"do"
 |.new _=>"new"
 |.get _ _ _=>"get"
 |.set _ _ _=>"set"
 |.call _ _ _=>"call"
 |.fail _=>"fail"
 |.wC _=>"if"
 |.pR=>"else"
 |.n5 _=>"while"
 |.fin=>"end"
 |.skip=>"skip"
def gE(st:χ)(x:Str):Bool:=match st.getLast? with
 |none=>mB 535 [.str "def",.str "skip"]
 |some l=>if x="give" then decide (l="def") else if x="else" then decide (l="if") else if x="end" then !decide (l="def") else !decide (x="def")
def l6(st:χ)(x:Str):χ :=
 if x="def"\/x="if"\/x="while" then st++[x] else if x="give"\/x="end" then st.dropLast else if x="else" then st.dropLast++[("else":Str)] else st
theorem gL(x:Str):∀l:χ,mB 535 (l.map .str)=decide (x∈l)
 |[]=>by simp[mB]
 |y::l=>by change (eqT (.str y) 535 || mB 535 (l.map .str))=_;rw[gL x l];change (decide (y=x) || decide (x∈l))=_;rw[YT];erw[N1,aar,dQ];constructor;rintro (h|h);calc .inl h.symm;calc .inr h;rintro (h|h);calc .inl h.symm;calc .inr h
def j7(r:Rw):∃l,aZ r=.tup (.str (wd r)::l):=by cases r<;>calc#[_,9]
theorem j8{f:α->T}{xs:List α}{h:FG}{g:FS}{d:So}(Pv:Nat->En->Prop)(h0:Pv 0 ρ)(hs:∀(i:Nat) x ρ',xs[i]?\x->Pv i ρ'->h (.tup [.int (i:Int),f x]) ρ' λρ2=>g {nx:=Pv 525,ct:=Pv 525,bk:=d.nx,rt:=d.rt} ρ2)(hd:∀ρ',Pv 46 ρ'->d.nx ρ'):oZ (dR (xs.map f)) h g d ρ:=#[Pv,h0,λi t ρ' e p=>by
 unfold dR at e;rw[X3,fW] at e;cases q:xs[i]? with
 |none=>rw[q] at e;cases e
 |some x=>rw[q] at e;cases e;calc hs i x ρ' q p,λρ' p=>hd ρ' (by unfold dR at p;rw[List.length_mapIdx,bS] at p;calc p)]
def PB(o:Option (χ))(r:Rw):Option (χ):=o.bind λst=>if gE st (wd r)=true then some (l6 st (wd r)) else none
def mG(o:Option (χ))(rs:F2):Option (χ):=rs.foldl PB o
def j9(o:Option (χ))(a b:F2):mG o (a++b)=mG (mG o a) b:=RW
def y_(rs:F2):mG none rs=none:=by
 induction rs with
 |nil=>rfl
 |cons r rs ih=>calc ih
def Gr{st:χ}(h:gE st (wd r)=true):PB (some st) r\l6 st (wd r):=by change (if gE st (wd r)=true then _ else _)=_;rw[ι h]
def f6{st:χ}(h:gE st (wd r)=true):mG (some st) [r]\l6 st (wd r):=Gr h
theorem za{rs:F2}{st:χ}(h:mG (some []) rs\st)(i:Nat)(hr:rs[i]?\r) :
  ∃s,mG (some []) (rs.take i)\s/\gE s (wd r)=true/\mG (some []) (rs.take 525)\l6 s (wd r):=by
 let e:rs=rs.take i++(r::rs.drop (i+1)):=by let hg:=(c7.mp hr).2;rw[<- hg,List.getElem_cons_drop,X2]
 let e2:rs.take (i+1)=rs.take i++[r]:=by let hg:=(c7.mp hr).2;rw[<- hg,List.take_append_getElem]
 rw[e,j9] at h;cases hs:mG (some []) (rs.take i) with
 |none=>rw[hs,y_] at h;cases h
 |some s=>
   rw[hs] at h;let h':mG (PB (some s) r) (rs.drop (i+1))\st:=h;cases hm:gE s (wd r) with
   |false=>
     have:PB (some s) r=none:=by change (if gE s (wd r)=true then _ else _)=_;rw[hm];rfl
     rw[this,y_] at h';cases h'
   |true=>calc#[s,9,hm,by rw[e2,j9,hs];calc f6 hm]
abbrev ud:Str:="def"
def Hd(x:Str):Prop:=x="if"\/x="while"\/x="else"
def Hd.ne(h:Hd x):x≠"def":=by obtain rfl|rfl|rfl:=h<;>decide +kernel
def uX(h:ij ys pl r):∀st,st≠[]->gE st (wd r)=true/\l6 st (wd r)=st:=by
 intro st yC;obtain⟨l,hl⟩:∃l,st.getLast?\l:=by
  cases e:st.getLast? with
  |none=>rw[List.getLast?_eq_none_iff] at e;calc absurd e yC
  |some l=>exact#[l,9]
 let k:∀x:Str,(x="put"\/x="do"\/x="new"\/x="get"\/x="set"\/x="call"\/x="fail"\/x="skip")->gE st x=true/\l6 st x=st:=by intro x hx;unfold gE l6;rw[hl];obtain rfl|rfl|rfl|rfl|rfl|rfl|rfl|rfl:=hx<;>exact#[(by change (if _ then _ else _)=true;rw[θ 18,θ 18,θ 18];decide +kernel),(by rw[θ 18,θ 18,θ 18])]
 cases r<;>first
  |calc 482
  |calc k _ (by simp[wd])
def Kg(st:χ):l6 st "if"=st++[("if":Str)]:=by unfold l6;rw[ι (.inr 7)]
def n6(st:χ):l6 st "while"=st++[("while":Str)]:=by unfold l6;rw[ι (.inr 95)]
def Eg(st:χ):l6 st "def"=st++[ud]:=by unfold l6;rw[ι 7]
def wF(st:χ):l6 st "end"=st.dropLast:=by unfold l6;rw[θ 18,ι 18]
def Kh(st:χ):l6 st "give"=st.dropLast:=by unfold l6;rw[θ 18,ι 18]
def zc(st:χ):l6 st "else"=st.dropLast++[("else":Str)]:=by unfold l6;rw[θ 18,θ 18,ι 9]
def Eh(st:χ)(l x:Str)(hx:x="if"\/x="while"):gE (st++[l]) x=true:=by unfold gE;rw[RS];obtain rfl|rfl:=hx<;>(change (if _ then _ else _)=true;rw[θ 18,θ 18,θ 18];decide +kernel)
def Gs(st:χ):gE (st++[("if":Str)]) "else"=true:=by unfold gE;rw[RS];decide +kernel
def zd(st:χ){l:Str}(h:l≠"def"):gE (st++[l]) "end"=true:=by unfold gE;rw[RS];change (if _ then _ else _)=true;rw[θ 18,θ 18,ι 9,ς h];rfl
def Yo(st:χ):gE (st++[ud]) "give"=true:=by unfold gE;rw[RS];change (if _ then _ else _)=true;decide +kernel
def qc{st:χ}(h:st≠[]):∃s l,st=s++[l]:=#[st.dropLast,st.getLast h,(acw h).symm]
def PC{ck new eM}(h:rh ys pl ck new eM)(hs:∀x∈ck,Hd x) :
  mG (some (ud::ck)) new\(ud::eM)/\∀x∈eM,Hd x:=by
 let hd:∀st:χ,∃s l,ud::st=s++[l]:=λst=>qc 6;obtain⟨o,_,rfl,rfl⟩|⟨o,_,rfl,rfl⟩|⟨y,_,rfl,rfl⟩|⟨s0,rfl,rfl,rfl⟩|⟨s0,x,es,rfl,e'⟩|⟨r,hr,rfl,e'⟩:=h
 let(s,l,e):=hd ck;show#[?_,?_];rw[f6 (by rw[e];calc Eh s l _ 7)];change some (l6 _ "if")=_;rw[Kg];rfl;intro x hx;rcases fO.mp hx with hx|hx
 calc hs x hx;erw[dQ,gQ,aah] at hx;calc .inl hx;let(s,l,e):=hd ck;show#[?_,?_];rw[f6 (by rw[e];calc Eh s l _ 95)];change some (l6 _ "while")=_;rw[n6];rfl;intro x hx;rcases fO.mp hx with hx|hx
 calc hs x hx;erw[dQ,gQ,aah] at hx;calc .inr (.inl hx);let(s,l,e):=hd ck;show#[?_,?_];let h1:mG (some (ud::ck)) [Rw.n5 (.nm y)]\((ud::ck)++[("while":Str)]):=by change some (l6 _ "while")=_;rw[n6]
 let h2:=uX (ys:=[y]) (pl:=[]) (r:=.uc y (.nm y) "minus" (.nu 1)) #[by simp,by simp[dX],by simp[reckon],by decide,by decide] ((ud::ck)++[("while":Str)]) 6;change mG (mG (some (ud::ck)) [Rw.n5 (.nm y)]) [Rw.uc y (.nm y) "minus" (.nu 1)]=_;rw[h1,f6 h2.1,h2.2];rfl;intro x hx;rcases fO.mp hx with hx|hx
 calc hs x hx;erw[dQ,gQ,aah] at hx;calc .inr (.inl hx);show#[?_,?_];let e:ud::(s0++[("if":Str)])=(ud::s0)++[("if":Str)]:=rfl;rw[e,f6 (Gs _)];change some (l6 _ "else")=_;rw[zc,X4];rfl;intro x hx;rcases fO.mp hx with hx|hx
 calc hs x (hX _ hx);erw[dQ,gQ,aah] at hx;calc .inr (.inr hx);subst es;subst e';show#[?_,λy hy=>hs y (hX _ hy)];let e:ud::(eM++[x])=(ud::eM)++[x]:=rfl;rw[e,f6 (zd _ (hs x 6).ne)];change some (l6 _ "end")=_;rw[wF,X4];subst e';have:=uX hr (ud::eM) 6;show#[?_,hs];rw[f6 this.1,this.2]
def Ki{ck body}(h:Body ys pl ck body):mG (some [ud]) body\(ud::ck)/\∀x∈ck,Hd x:=by
 induction h with
 |nil=>calc#[9,λx hx=>nomatch hx]
 |step _ h2 ih=>have:=PC h2 ih.2;calc#[by rw[j9,ih.1];calc this.1,this.2]
theorem zg:∀(n:Nat)(ck:χ),ck.length=n->(∀x∈ck,Hd x)->mG (some (ud::ck)) (List.replicate n .fin)=some [ud]
 |0,ck,hl,_=>by rw[NC] at hl;subst hl;rfl
 |n+1,ck,hl,hs=>by let(s,l,rfl):=qc (st:=ck) (by intro z;subst z;cases hl);change mG (mG (some ((ud::s)++[l])) [Rw.fin]) (List.replicate n .fin)=_;rw[f6 (zd _ (hs l 6).ne)];change mG (some (l6 _ "end")) _=_;rw[wF,X4];calc zg n s (by simpa using hl) λx hx=>hs x (hX _ hx)
def PD{rs:F2}(h:Pre ys pl n rs):mG (some []) rs=some []:=by
 induction h with
 |zero=>rfl
 |@succ k rs f ps ck body o sk _ hk hb ho hs ih=>
  rw[j9,ih];change mG (some (l6 [] "def")) _=_;rw[Eg,j9];let hB:=Ki hb;change mG (mG (some [ud]) body) _=_;rw[hB.1,j9,zg _ ck 9 hB.2];change mG (mG (some ([]++[ud])) [Rw.give o]) sk=_;change mG (some (l6 _ "give")) sk=_;obtain rfl|rfl:=hs
  rfl;rw[f6 18];rfl
def wG:List (Str×Nat)->Str->Option Nat
 |[],_=>none
 | (k,i)::l,f=>if k=f then some i else wG l f
theorem wH(l m:List (Str×Nat))(f:Str):wG (l++m) f=match wG l f with
  |some i=>some i
  |none=>wG m f:=by
 induction l with
 |nil=>rfl
 |cons p l ih=>let(k,i):=p;erw[List.cons_append,wG];by_cases h:k=f;rw[ι h,ι h];rw[θ h,θ h];calc ih
def NO(l:List (Str×Nat))(i:Nat):Rw->List (Str×Nat)
 |.df f _=>match wG l f with
  |some _=>l
  |none=>l++[(f,i)]
 |_=>l
def bf(rs:F2):Nat->List (Str×Nat)
 |0=>[]
 |n+1=>match rs[n]? with
  |some r=>NO (bf rs n) n r
  |none=>bf rs n
theorem zh{rs:F2}{f:Str}{j:Nat}:∀n,wG (bf rs n) f\j->j<n/\∃ps,rs[j]?\.df f ps
 |0,h=>nomatch h
 |n+1,h=>by
  let old:wG (bf rs n) f\j->j<n+1/\∃ps,rs[j]?\.df f ps:=λh=>by have:=zh n h;exact#[(),this.2]
  erw[bf] at h;split at h
  rename_i r hr
  cases r with
  |df g ps=>
   erw[NO] at h;split at h;exact old h
   rename_i hn
   rw[wH] at h;split at h
   rename_i i hi
   cases h;calc old hi;erw[wG] at h;split at h
   rename_i e
   cases h;subst e;calc#[(),ps,hr];cases h
  |_=>exact old h
  calc old h
theorem uY{rs:F2}{f:Str}{i:Nat}{ps:χ}(hi:rs[i]?\.df f ps):∀n,i<n->∃j,wG (bf rs n) f\j
 |0,h=>absurd h ()
 |n+1,h=>by
  erw[bf];by_cases e:i=n;subst e;rw[hi];erw[NO];cases ha:wG (bf rs i) f with
  |some j=>calc#[j,ha]
  |none=>show#[i,?_];rw[wH,ha];erw[wG,aaT]
  let(j,hj):=uY hi n ();split
  rename_i r hr
  cases r with
  |df g qs=>erw[NO];split;calc#[j,hj];rw[wH,hj];calc#[j,9]
  |_=>exact#[j,hj]
  calc#[j,hj]
end Gen
variable{rs:F2}
namespace K5
structure Kd where
 op:Bool
 cl:Bool
 el:Bool
 df:Bool
deriving DecidableEq,Inhabited
section
variable(kd:Nat->Kd)
def st:Nat->qao
 |0=>[]
 |k+1=>let s:=if (kd k).cl=true then (st k).dropLast else st k
  if (kd k).op=true then s++[k] else s
def dp(k:Nat):Nat:=(st kd k).length
structure WF(n:Nat):Prop where
 ex:∀k,k<n->(kd k).op=true->(kd k).cl=false
 cl:∀k,k<n->(kd k).cl=true->st kd k≠[]
 el:∀k,k<n->(kd k).el=true->st kd k≠[]
 nc:∀k,k<n->(kd k).el=true->(kd k).cl=false/\(kd k).op=false
 dn:∀k,k<n->(kd k).df=true->(kd k).op=true
 fin:st kd n=[]
end
section
variable{kd:Nat->Kd}
def jb{k:Nat}(h:(kd k).op=true)(h':(kd k).cl=false):st kd 93=st kd k++[k]:=by simp[st,h,h']
def jy{k:Nat}(h:(kd k).cl=true)(h':(kd k).op=false):st kd 93=(st kd k).dropLast:=by simp[st,h,h']
def fZ{k:Nat}(h:(kd k).cl=false)(h':(kd k).op=false):st kd 93=st kd k:=by simp[st,h,h']
def WF.ex'(W:WF kd n){k:Nat}(hk:k<n)(h:(kd k).cl=true):(kd k).op=false:=by
 cases q:(kd k).op with
 |false=>rfl
 |true=>rw[W.ex k hk q] at h;cases h
def Ei(W:WF kd n){k:Nat}(hk:k<n)(h:(kd k).op=true):dp kd 93=dp kd k+1:=by unfold dp;rw[jb h (W.ex k hk h)];simp
theorem rm(W:WF kd n){k:Nat}(hk:k<n)(h:(kd k).cl=true):dp kd 93+1=dp kd k:=by
 unfold dp;rw[jy h (W.ex' hk h),Bo];have:=X5.mpr (W.cl k hk h)
 lia
def Kj{k:Nat}(h:(kd k).cl=false)(h':(kd k).op=false):dp kd 93=dp kd k:=by unfold dp;rw[fZ h h']
theorem Kk(W:WF kd n):∀k,k<=n->∀i j,(st kd k)[i]?\j->j<k/\(kd j).op=true/\dp kd j=i/\∀m,j<m->m<=k->i<dp kd m
 |0,_,i,j,h=>by simp[st] at h
 |k+1,hk,i,j,h=>by
  let ih:=Kk W k ();let yp:k<n:=by lia
  let ext:∀{i j:Nat},(st kd k)[i]?\j->i<dp kd (k+1)->j<k+1/\(kd j).op=true/\dp kd j=i/\∀m,j<m->m<=k+1->i<dp kd m:=λ{i j} h hd=>by let(a,b,c,d):=ih i j h;show#[(),b,c,λm h1 h2=>?_];by_cases e:m=k+1;rw[e];calc hd;exact d m h1 ()
  by_cases ho:(kd k).op=true;rw[jb ho (W.ex k yp ho)] at h;let hd:=Ei W yp ho;by_cases hi:i<(st kd k).length;rw[pI hi] at h;calc ext h (by rw[hd];calc Be hi);rw[uF ()] at h;let e:i-(st kd k).length=0:=by
   cases q:i-(st kd k).length with
   |zero=>rfl
   |succ r=>rw[q] at h;simp at h
  rw[e] at h;simp at h;subst h;let ei:i=dp kd k:=by unfold dp;lia
  show#[(),ho,ei.symm,λm h1 h2=>?_];have:m=k+1:=by lia
  rw[this,hd,ei];lia;let qz:(kd k).op=false:=by cases q:(kd k).op<;>simp_all
  by_cases hc:(kd k).cl=true;rw[jy hc qz] at h;let hi:=(c7.mp h).1;let hd:dp kd (k+1)=(st kd k).dropLast.length:=by unfold dp;rw[jy hc qz]
  rw[TV,ι (by rw[Bo] at hi;calc hi)] at h;calc ext h (by rw[hd];calc hi);let tX:(kd k).cl=false:=by cases q:(kd k).cl<;>simp_all
  rw[fZ tX qz] at h;let hd:=Kj tX qz;calc ext h (by rw[hd];calc (c7.mp h).1)
theorem SF(W:WF kd n){j:Nat}(ho:(kd j).op=true):∀k,j<k->k<=n->(∀m,j<m->m<=k->dp kd j<dp kd m)->(st kd k)[dp kd j]?\j
 |0,h,_,_=>by lia
 |k+1,h,hk,hm=>by
  let yp:k<n:=by lia
  by_cases e:j=k;subst e;rw[jb ho (W.ex j yp ho)];unfold dp;simp;let ih:=SF W ho k () () λm h1 h2=>hm m h1 ();let hd:=hm 93 () 82;by_cases qz:(kd k).op=true;rw[jb qz (W.ex k yp qz),pI (c7.mp ih).1];calc ih;let Vz:(kd k).op=false:=by cases q:(kd k).op<;>simp_all
  by_cases hc:(kd k).cl=true;let hl:dp kd (k+1)=(st kd k).length-1:=by unfold dp;rw[jy hc Vz,Bo]
  rw[jy hc Vz,TV,ι ()];calc ih;let tX:(kd k).cl=false:=by cases q:(kd k).cl<;>simp_all
  rw[fZ tX Vz];calc ih
def j_(kd:Nat->Kd)(n d:Nat):Nat->Nat->Option Nat
 |0,_=>none
 |f+1,k=>if k<n then (if dp kd 93=d then some k else j_ kd n d f 93) else none
def endOf(kd:Nat->Kd)(n j:Nat):Option Nat:=j_ kd n (dp kd j) (n-(j+1)) (j+1)
theorem mH{d:Nat}:∀{f k e:Nat},j_ kd n d f k\e->k<=e/\e<n/\dp kd (e+1)=d/\∀m,k<=m->m<e->dp kd (m+1)≠d
 |0,_,_,h=>by cases h
 |f+1,k,e,h=>by
  erw[j_] at h;split at h
  rename_i hk
  split at h
  rename_i hd
  cases h;exact#[cM _,hk,hd,λm h1 h2=>by lia]
  rename_i hd
  let(a,b,c,r):=mH h;show#[(),b,c,λm h1 h2=>?_];by_cases em:m=k;rw[em];calc hd;calc r m () h2;cases h
theorem mJ{d:Nat}:∀{f k:Nat},j_ kd n d f k=none->∀m,k<=m->m<k+f->m<n->dp kd (m+1)≠d
 |0,k,_,m,h1,h2,_=>by lia
 |f+1,k,h,m,h1,h2,h3=>by
  erw[j_] at h;split at h;split at h;cases h
  rename_i hd
  by_cases em:m=k;rw[em];calc hd;exact mJ h m () () h3
  lia
theorem PF(W:WF kd n){k:Nat}(hk:k<n):dp kd k<=dp kd 93+1:=by
 by_cases ho:(kd k).op=true;rw[Ei W hk ho];lia;let qz:(kd k).op=false:=by cases q:(kd k).op<;>simp_all
 by_cases hc:(kd k).cl=true;rw[rm W hk hc];calc cM _;let tX:(kd k).cl=false:=by cases q:(kd k).cl<;>simp_all
 rw[Kj tX qz];lia
theorem above(W:WF kd n){j:Nat}(hj:j<n)(ho:(kd j).op=true):∀k,j<k->k<=n->(∀m,j<m->m<k->dp kd (m+1)≠dp kd j)->∀m,j<m->m<=k->dp kd j<dp kd m
 |0,h,_,_,m,_,_=>by lia
 |k+1,h,hk,fY,m,h1,h2=>by
  by_cases em:m=k+1;subst em;by_cases e:j=k;subst e;rw[Ei W hj ho];lia;let ih:=above W hj ho k () () (λm a b=>fY m a ()) k () 82;let s:=PF W (k:=k) ();let ne:=fY k () ()
  lia
  by_cases e:j=k
  lia
  calc above W hj ho k () () (λm a b=>fY m a ()) m h1 ()
theorem end_is(W:WF kd n)(hj:j<n)(ho:(kd j).op=true):∃e,endOf kd n j\e/\j<e/\e<n/\dp kd (e+1)=dp kd j/\∀m,j<m->m<e->dp kd (m+1)≠dp kd j:=by
 cases h:endOf kd n j with
 |some e=>let(a,b,c,d):=mH h;calc#[e,9,(),b,c,λm h1 h2=>d m () h2]
 |none=>
  exfalso;let q:=mJ h;let a:=above W hj ho n hj 82 (λm h1 h2=>q m () () h2) n hj 82;let z:dp kd n=0:=by unfold dp;rw[W.fin];rfl
  lia
theorem ka:∀k,(st kd k).Pairwise (·<·)/\∀j∈st kd k,j<k
 |0=>#[List.Pairwise.nil,λj h=>(by simp[st] at h)]
 |k+1=>by
  let(h1,h2):=ka k;let base:∀{s:qao},s.Sublist (st kd k)->s.Pairwise (·<·)/\∀j∈s,j<k:=λsl=>#[h1.sublist sl,λj h=>h2 j (sl.subset h)];let key:∀{s:qao},s.Sublist (st kd k)->(if (kd k).op=true then s++[k] else s).Pairwise (·<·)/\∀j∈(if (kd k).op=true then s++[k] else s),j<k+1:=λ{s} sl=>by
   let(a,b):=base sl;split;show#[List.pairwise_append.mpr #[a,List.pairwise_singleton _ _,λx hx y hy=>by rw[fE.mp hy];calc b x hx],λj hj=>?_];rcases fO.mp hj with h|h
   calc Be (b j h);rw[fE.mp h];calc qx _;exact#[a,λj hj=>Be (b j hj)]
  erw[st];by_cases hc:(kd k).cl=true;rw[ι hc];calc key (List.dropLast_sublist _);rw[θ hc];calc key (List.Sublist.refl _)
def endsAt(kd:Nat->Kd)(n j:Nat):Option Nat:=if (kd j).op=true then endOf kd n j else none
theorem PH(W:WF kd n){k:Nat}(hk:k<n)(hc:(kd k).cl=true)(ht:(st kd k).getLast?\j):endsAt kd n j\k/\j<k:=by
 let hl:(st kd k)[(st kd k).length-1]?\j:=by rw[<- Fp];exact ht
 let(a,b,c,d):=Kk W k () _ j hl;let(e,h1,h2,h3,h4,h5):=end_is W () b;show#[?_,a];unfold endsAt;rw[ι b,h1]
 congr 1
 let hd:=rm W hk hc;let yo:dp kd (k+1)=dp kd j:=by rw[c];unfold dp at hd ⊢;lia
 rcases T8 e k with l|l
 have:=d (e+1) () ()
 lia
 rcases T8 k e with l2|l2
 exact absurd yo (h5 k a l2)
 lia
theorem qd(W:WF kd n){k:Nat}(hk:k<n)(he:endsAt kd n j\k)(hj:j<n):(kd k).cl=true/\(st kd k).getLast?\j:=by
 unfold endsAt at he;by_cases ho:(kd j).op=true;rw[ι ho] at he;let(e,h1,h2,h3,h4,h5):=end_is W hj ho;rw[h1] at he;cases he;let ab:=above W hj ho k h2 () λm x y=>h5 m x y;let hk0:=ab k h2 82;let hc:(kd k).cl=true:=by
  cases q:(kd k).cl with
  |true=>rfl
  |false=>exfalso;by_cases qz:(kd k).op=true;rw[Ei W hk qz] at h4;lia;rw[Kj q (by cases r:(kd k).op<;>simp_all)] at h4;lia
 show#[hc,?_];let hd:=rm W hk hc;have:=SF W ho k h2 () ab;rw[Fp];let e:(st kd k).length-1=dp kd j:=by unfold dp at hd h4 ⊢;lia
 rw[e];calc this;rw[θ ho] at he;cases he
end
end K5
namespace VT
open PySem PySem.Spec PyProof.Rows L2
structure Kl(K:qaf)(H H':Hp)(Ox:zm)(us:Λ)(p:Addr)(ls:zm):Prop where
 same:aW H H'
 tup:H' p\.tup (ls.map V.ref)
 nd:ls.Nodup
 new:∀a∈ls,H a=none
 rts:Paired (λa t=>dq K H' (ls++Ox) a t) ls us
def VB(K:qaf)(n:Nat)(G:Λ->(Λ->Prop)->Prop):Sp:=λvs H Q _=>∃ts Ox q,(∀a∈Ox,H a≠none)/\aD K H Ox ts vs/\25=n/\G ts q /\
 ∀us,q us->∀p ls H',Kl K H H' Ox us p ls->Q (.ref p) H'
structure afT(K:qaf)(Z:Zc)(tm:qab)(d:So)(dp:Λ->Prop)(D:Ends):Prop where
 fin:Fin K Z tm d D
 dp:∀us,dp us->∀p ls H',Kl K Z.H0 H' Z.Ox us p ls->D.rt (.ref p) H'
abbrev SH:=So->(Λ->Prop)->En->Prop
def lSD(X:Cx)(Z:Zc)(tm:qab)(g:SH):TS:=λD σ H=>∃ρ O d dp,aB X.K Z tm O ρ σ H/\g d dp ρ/\afT X.K Z tm d dp D
def Gu(X:Cx)(Z:Zc)(st:qaq)(g:SH):Prop:=Bx λtm=>ko X st (lSD X Z tm g)
instance{X:Cx}{Z:Zc}{st:qaq}{g:SH}:CoeFun (Gu X Z st g) λ_=>∀tm,ko X st (lSD X Z tm g):=#[λh=>Bx.h h]
def PJ(ρ:En):qao->Option (Λ)
 |[]=>some []
 |i::is=>match ρ[i]?,PJ ρ is with
  |some (some (t,true)),some ts=>some (t::ts)
  |_,_=>none
section
variable{st:Stmt}{rest:qaq}{g:FS}{u:SH}{pos:Pos}
def adl(g:FS)(u:SH):SH:=λd dp ρ=>g {d with nx:=u d dp} ρ
def gr(h1:VS X Z st g)(h2:Gu X Z rest u):Gu X Z (st::rest) (adl g u):=.mk λtm=>ko.mj (jl (h1 tm) (h2 tm)) λD σ H #[ρ,O,d,dp,I,h,F] =>
 #[ρ,O,{d with nx:=u d dp},I,h,#[λO' ρ' σ' H' I' h'=>#[ρ',O',d,dp,I',h',F],F.fin.rt,F.fin.bk,F.fin.ct]]
def wI(X:Cx):qap->qao->Prop
 |[],is=>is=[]
 |e::es,is=>∃x p i js,e=.Name x p/\is=i::js/\X.N[i]?\x/\nI 39 x/\(x==("__debug__":Str))=false/\(x==("__classdict__":Str))=false/\starEach (e::es) 3=(false,eval e 3)::starEach es 3/\wI X es js
def adm(is:qao):TA:=λσ H Q=>∃vs,Paired (λ(i:Nat) (v:V)=>σ[i]?\some v) is vs/\Q vs H
theorem Ej:∀{es:qap}{is:qao},wI X es is->PA X es (adm is)
 |[],is,h=>λpos ε s σ H Q I #[vs,hv,q]=>by let e:=h;subst e;cases hv;calc cV pos ε s σ H Q I q
 |e::es,is,h=>by
  let(x,p,i,js,rfl,rfl,h1,h2,h3,h4,h5,h6):=h;exact PA.weak (bD (cF h1 h2 h3 h4) (Ej h6) h5) λσ H Q #[vs,hv,q]=>by
   cases hv with
   |cons r t=>calc#[_,r,_,t,q]
theorem zi{K:qaf}{tm:qab}{O:HD}{ρ:En}{σ:St}{H:Hp}(I:aB K Z tm O ρ σ H):∀{is:qao}{ts:Λ},PJ ρ is\ts ->
  ∃ls:zm,Paired (λ(i:Nat) (v:V)=>σ[i]?\some v) is (ls.map V.ref)/\Paired (λ(i:Nat) (a:Addr)=>O[i]?\some a) is ls/\Paired (λa t=>dq K H 242 a t) ls ts
 |[],ts,h=>by cases h;calc#[[],.nil,.nil,.nil]
 |i::is,ts,h=>by
   erw[PJ] at h;split at h
   rename_i t us e1 e2
   cases h;let(a,h1,h2,h3):=I.root e1;let(ls,g1,g2,g3):=zi I e2;calc#[a::ls,.cons h2 g1,.cons h1 g2,.cons h3 g3];cases h
def gZ{R:α->β->Prop}{l:List α}{m:List β}(h:Paired R l m){b:β}(hb:b∈m):∃a∈l,R a b:=by
 induction h with
 |nil=>cases hb
 |cons r t ih=>
  rcases dQ.mp hb with e|hb
  subst e;calc#[_,iz,r];let(a,h1,h2):=ih hb;calc#[a,iB _ h1,h2]
def Cb{tm:qab}(I:aB K Z tm O ρ σ H){is:qao}{ls:zm}(nd:is.Nodup)(h:Paired (λ(i:Nat) (a:Addr)=>O[i]?\some a) is ls):ls.Nodup:=by
 induction h with
 |nil=>calc NJ
 |cons r t ih=>rw[qy] at nd ⊢;show#[λm=>?_,ih nd.2];let(j,hj,e):=gZ t m;calc nd.1 (by rw[yZ I r e];calc hj)
def SI(is:qao):SH:=λ_ dp ρ=>match PJ ρ is with
 |some ts=>dp ts
 |none=>False
theorem PK{is:qao}{x1}(hP:Z.P=[])(hn:wI X es is)(nd:is.Nodup)(hl:is.length<=100):Gu X Z [.Return (some (.Tuple es x1 p)) pos] (SI is):=.mk λtm=>
 l8 (PS.weak (Bu (qF (Ej hn))) λD σ H #[ρ,O,d,dp,I,h,F]=>by
  unfold SI at h;split at h
  rename_i ts e
  let(ls,g1,g2,g3):=zi I e;show#[ls.map V.ref,g1,?_,λq hq=>F.dp ts h q ls _ #[?_,aK,Cb I nd g2,λa ha=>?_,?_]];rw[bS,<- RY g2,π];lia;intro b o eb;have:=I.keep b o eb (by rw[hP];calc λz=>nomatch z);rw[aG (bL this hq)];calc this;let(i,_,e):=gZ g2 ha;rcases (I.own a (aH.mpr (fM e))).1 with z|z
  rw[hP] at z;calc nomatch z;calc z;show Paired.pL g3 λa t r=>(r.same (aI hq)).bC λb hb=>?_;rcases fO.mp hb with z|z
  let(i,_,e):=gZ g2 z;calc hX _ (aH.mpr (fM e));calc jY _ z;calc 482)
end
section
def iO(n:Nat):roots (List.replicate n none)=[]:=by
 unfold roots;induction n with
 |zero=>rfl
 |succ n ih=>rw[HW,tV];calc ih
def uZ{N:χ}{Ox:zm}{ts:Λ}(hN:25<=N.length)(ox:∀a∈Ox,H a≠none)(h:aD K H Ox ts vs) :
  aB K #[H,[],Ox] [] (List.replicate N.length none) (ts.map (λt=>some (t,false))++List.replicate (N.length-25) none) (start N vs) H:=by
 let hl:=h.length;let ea:av #[H,[],Ox] (List.replicate N.length none)=Ox:=by unfold av;rw[iO];rfl
 show#[?_,by simp;lia,λi e he=>?_,by rw[iO];calc NJ,λa ha=>?_,λp hp=>(nomatch hp),ox,λb o e _=>e,λp hp=>(nomatch hp)];unfold L2.start;simp[hl];rw[ea];by_cases hi:i<25;rw[pI (by simpa using hi),fW] at he;let e1:ts[i]?\ts[i]:=by simp
 rw[e1] at he;cases he;let(v,h1,h2):=h.get e1;show#[none,some v,by rw[HV,ι ()],?_,9,v,9,h2];unfold L2.start;rw[pI (by rw[bS];lia),fW,h1];rfl;rw[uF (by simpa using hi),HV] at he;split at he
 rename_i di
 cases he;rw[bS] at di;show#[none,none,by rw[HV,ι ()],?_,9];unfold L2.start;rw[uF (by rw[bS];lia),HV,bS,ι ()];cases he;rw[iO] at ha;calc nomatch ha
def fnD{st:Stmt}{N:χ}{k:Nat}{G:Λ->(Λ->Prop)->Prop}(F:Ih K x qual st f fd)(S:az N ps 455)(hn:n=471)(hN:n<=N.length)(fG:∀(bM:Value) (A:Around) (outer:List Env) (s:Shared) (H:Hp) (E:XK) (Ox:zm),bH k 44->∀ts q,G ts q ->
    ∃g,Gu (hY iA P w K mg base N qual 455 f bM A outer s H E).vN #[H,[],Ox] (bJ st) g/\(25=n->g {nx:=λ_=>False,rt:=λ_ _=>False} q (ts.map (λt=>some (t,false))++List.replicate (N.length-25) none))) :
  eD P w K mg base iA 93 f fd ps (VB K n G):=by
 show F.ok S (λvs H Q E h=>?_) (λbM A outer s H vs Q E hr h=>?_);let(ts,Ox,q,_,ha,hl,_):=h;rw[ha.length,hl,hn];let(ts,Ox,q,ox,ha,hl,hG,kk):=h;let(g,hg,hq):=fG bM A outer s H E Ox hr ts q hG;calc#[_,hg [],_,_,_,q,uZ () ox ha,hq hl,#[#[λ_ _ _ _ _ h=>482,λ_ _ _ _ _ _ _ h=>482,λ_ _ _ _ _ h=>482,λ_ _ _ _ _ h=>482],λus hu p ls H' D=>kk us hu p ls H' D]]
end
section
variable{k:Nat}{G:Λ->(Λ->Prop)->Prop}{pos:Pos}
def lD(X:Cx)(Z:Zc)(tm:qab)(f:En->(Λ->Prop)->Prop):TE:=λσ H Q=>∃ρ O q,aB X.K Z tm O ρ σ H/\f ρ q/\∀us,q us->∀p ls H',Kl X.K H H' 242 us p ls->Q (.ref p) H'
def VD(X:Cx)(Z:Zc)(e:Expr)(f:En->(Λ->Prop)->Prop):Prop:=Bx λtm=>PE X e (lD X Z tm f)
instance{X:Cx}{Z:Zc}{e:Expr}{f:En->(Λ->Prop)->Prop}:CoeFun (VD X Z e f) λ_=>∀tm,PE X e (lD X Z tm f):=#[λh=>Bx.h h]
def VF(n:Nat)(g:FA)(G:Λ->(Λ->Prop)->Prop):En->(Λ->Prop)->Prop:=λρ Q=>g ρ λts=>25=n/\G ts Q
def Ek(F:eD 33 X.w X.K X.mg X.base iA k f fd ps (VB X.K n G))(hr:bH k X.A)(hg:Gl X x)(hm:X.mg x\.ref f)(hk:W.keepIn X.K 536=true)(hb:Binds X.K fd ps [])(ha:VA X Z (e::es) g)(tZ:gD x:=by decide)(he:starEach (e::es) 3=(false,eval e 3)::starEach es 3:=by rfl)(j1:(backTo pos 90).any (·.1)=false:=by rfl) :
  VD X Z (.Call 31 (e::es) [] pos) (VF n g G):=.mk λtm=>PE.weak (jZ F hr hg hm hk hb .nil oW 503 tZ he j1) λσ H Q #[ρ,O,q,I,hf,k] =>
 #[ρ,O,_,I,hf,λts hW vs H1 s1 a1=>by
   change VB X.K n G (vs++[]) H1 Q E0;rw[HX];show#[ts,av Z O,q,(I.same s1).OT,a1,hW.1,hW.2,λus hu p ls H' D=>k us hu p ls H' #[s1.trans D.same,D.tup,D.nd,λa ha=>?_,D.rts]];cases z:H a with
   |none=>rfl
   |some o=>have:=D.new a ha;rw[s1 _ _ z] at this;cases this]
def Kl.at{tm:qab}{us:Λ}{p:Addr}{ls:zm}(I:aB K Z tm O ρ σ H)(D:Kl K H H' 242 us p ls):At K H' 242 (.tup us) (.ref p):=by
 show cj (eZ.of D.tup) (aD.iff.mpr ?_);let key:∀{ls':zm}{Km:Λ},(∀a∈ls',a∈ls)->Paired (λa t=>dq K H' (ls++av Z O) a t) ls' Km->Paired (λv t=>At K H' (av Z O) t v) (ls'.map V.ref) Km:=by
  intro ls' Km sub h;induction h with
  |nil=>calc .nil
  |cons r t ih=>exact .cons ((r.bC λb hb=>jY _ hb).at λz=>I.OT _ z (D.new _ (sub _ iz))) (ih λa ha=>sub a (iB _ ha))
 calc key (λ_ h=>h) D.rts
def adn(f:En->(Λ->Prop)->Prop):FP:=λρ Q=>f ρ λus=>Q (.vw (.tup us))
def VD.vp{f:En->(Λ->Prop)->Prop}(h:VD X Z e f):VP X Z e (adn f):=.mk λtm=>PE.weak 513 λσ H Q #[ρ,O,q,I,hf,k] =>
 #[ρ,O,_,I,hf,λus hu p ls H' D=>k _ hu _ H' D.same #[I.same D.same,D.at I]]
end
end VT
namespace K5
open PySem L2 VT Gen
def wordOf:Rw->Str
 |.df _ _=>"def" | .give _=>"give" | .put _ _=>"put" | .uc _ _ _ _=>"do" | .new _=>"new" | .get _ _ _=>"get" | .set _ _ _=>"set" | .call _ _ _=>"call" | .fail _=>"fail"
 |.wC _=>"if" | .pR=>"else" | .n5 _=>"while" | .fin=>"end" | .skip=>"skip"
def gh(r:Rw):∃l,aZ r=.tup (.str (wordOf r)::l):=by cases r<;>calc#[_,9]
def a_:Rw->Kd
 |.df _ _=>#[true,false,false,true]
 |.give _=>#[false,true,false,false]
 |.wC _=>#[true,false,false,false]
 |.pR=>#[false,false,true,false]
 |.n5 _=>#[true,false,false,false]
 |.fin=>#[false,true,false,false]
 |_=>#[false,false,false,false]
def ado(r:Rw):decide (wordOf r="def")=(a_ r).df:=by cases r<;>first|rfl|decide +kernel
def adp(r:Rw):decide (wordOf r="else")=(a_ r).el:=by cases r<;>first|rfl|decide +kernel
def adq(r:Rw):mB (.str (wordOf r)) [.str "give",.str "end"]=(a_ r).cl:=by cases r<;>first|rfl|decide +kernel
def ads(r:Rw):mB (.str (wordOf r)) [.str "def",.str "if",.str "while"]=(a_ r).op:=by cases r<;>first|rfl|decide +kernel
def bh(rs:F2)(k:Nat):Kd:=match rs[k]? with
 |some r=>a_ r
 |none=>#[false,false,false,false]
def c_{k:Nat}(h:rs[k]?\r):bh rs k=a_ r:=by unfold bh;rw[h]
def Gv(rs:F2):Prop:=WF 23 5
def oT:Option Nat->T
 |none=>.bY
 |some k=>.int (k:Int)
def tab(f:Nat->Option Nat)(n k:Nat):Λ:=(List.range n).map λi=>if i<k then oT (f i) else .bY
def f7(e:Nat->Option Nat)(n k:Nat):Λ:=(List.range n).map λj=>match e j with
 |some m=>if m<k then .int (m:Int) else .bY
 |none=>.bY
def mK(f n k):(tab f n k).length=n:=by simp[tab]
def zj(f n k):(f7 f n k).length=n:=by simp[f7]
def zl(f n):tab f n 0=List.replicate n .bY:=by unfold tab;rw[List.eq_replicate_iff];calc#[by simp,λx hx=>by simp at hx;calc hx.2.symm]
def Gw(f n):f7 f n 0=List.replicate n .bY:=by unfold f7;rw[List.eq_replicate_iff];show#[by simp,λx hx=>?_];let(j,_,rfl):=k5.mp hx;split<;>simp
def qe{f:Nat->Option Nat}{k:Nat}:(tab f n k).set k (oT (f k))=tab f n 93:=by show YR λi=>?_;rw[List.getElem?_set,mK];unfold tab;rw[fW,fW];by_cases hi:i<n;rw[RP hi];by_cases e:k=i;subst e;rw[ι 9,ι hi];simp;rw[θ e];erw[Option.map_some];by_cases l:i<k;rw[ι l,ι ()];rw[θ l,θ ()];rw[Iz (by simp;lia)];split;rw[θ ()];rfl;rfl
def zo{f:Nat->Option Nat}{k:Nat}(h:f k=none):tab f n k=tab f n 93:=by show IB λi _=>?_;by_cases e:i=k;subst e;rw[θ (Fu _),ι (qx _),h];rfl;by_cases l:i<k;rw[ι l,ι ()];rw[θ l,θ ()]
def zq(f n):tab f n n=(List.range n).map λi=>oT (f i):=IB λi hi=>by rw[ι (Bf.mp hi)]
def Kn{e:Nat->Option Nat}{k:Nat}(h:e j\k)(u:∀i,i<n->e i\k->i=j):(f7 e n k).set j (.int (k:Int))=f7 e n 93:=by
 show YR λi=>?_;rw[List.getElem?_set,zj];unfold f7;rw[fW,fW];by_cases hi:i<n;rw[List.getElem?_range hi];by_cases q:j=i;subst q;rw[ι 9,ι hi];simp[h];rw[θ q];erw[Option.map_some];cases r:e i with
 |none=>rfl
 |some m=>have:m≠k:=λz=>q (u i hi (by rw[r,z])).symm;simp only;by_cases l:m<k;rw[ι l,ι ()];rw[θ l,θ ()]
 rw[Iz (by simp;lia)];split;rw[θ ()];rfl;rfl
def Gx{e:Nat->Option Nat}{k:Nat}(u:∀i,i<n->e i≠some k):f7 e n k=f7 e n 93:=by
 show IB λi hi=>?_;cases r:e i with
 |none=>rfl
 |some m=>have:m≠k:=λz=>u i (Bf.mp hi) (by rw[r,z]);simp only;by_cases l:m<k;rw[ι l,ι ()];rw[θ l,θ ()]
def Gy{e:Nat->Option Nat}(h:∀j m,j<n->e j\m->m<n):f7 e n n=(List.range n).map λi=>oT (e i):=by
 show IB λi hi=>?_;cases r:e i with
 |none=>rfl
 |some m=>simp only;rw[ι (h i m (Bf.mp hi) r)];rfl
section
variable(kd:Nat->Kd)
def gF(k:Nat):Option Nat:=(st kd k).getLast?
def gG(k:Nat):Option Nat:=if (kd k).df=true then some k else (st kd k).head?
def yq(n:Nat):Nat->Λ
 |0=>List.replicate n .bY
 |k+1=>match (kd k).el,gF kd k with
  |true,some h=>(yq n k).set h (.int (k:Int))
  |_,_=>yq n k
end
theorem qf(kd n):∀k,(yq kd n k).length=n
 |0=>by simp[yq]
 |k+1=>by erw[yq];split;rw[List.length_set];calc qf kd n k;calc qf kd n k
def Ko(rs:F2):Λ:=[.lst ((List.range 5).map λi=>oT (gF 23 i)),.lst ((List.range 5).map λi=>oT (endsAt 23 5 i)),.lst (yq 23 5 5),.lst ((List.range 5).map λi=>oT (gG 23 i))]
def Kq(rs:F2):dR 86=(rs.zipIdx).map λp=>.tup [.int (p.2:Int),aZ p.1]:=by unfold dR;show YR λi=>?_;rw[X3,fW,fW,List.getElem?_zipIdx];cases rs[i]?<;>simp
def dr:Nat->F2->Option Nat
 |d,[]=>some d
 |d,r::rs=>if (a_ r).cl=true then (if d=0 then none else dr (d-1) rs) else if (a_ r).el=true then (if d=0 then none else dr d rs) else if (a_ r).op=true then dr (d+1) rs else dr d rs
theorem gu:∀(a b:F2)(d:Nat),dr d (a++b)=(dr d a).bind λe=>dr e b
 |[],b,d=>rfl
 |r::a,b,d=>by erw[List.cons_append,dr];split;split;rfl;calc gu a b _;split;split;rfl;calc gu a b _;split;calc gu a b _;calc gu a b _
def VH(rs:F2){k:Nat}(h:rs[k]?\r):(st 23 93).length=(if (a_ r).cl=true then (st 23 k).length-1 else if (a_ r).op=true then (st 23 k).length+1 else (st 23 k).length):=by
 let o5:=c_ h;by_cases hc:(a_ r).cl=true;let ho:(a_ r).op=false:=by cases r<;>first|rfl|(cases hc)
 rw[ι hc,jy (by rw[o5];calc hc) (by rw[o5];calc ho),Bo];let tX:(a_ r).cl=false:=by cases q:(a_ r).cl<;>simp_all
 rw[θ hc];by_cases ho:(a_ r).op=true;rw[ι ho,jb (by rw[o5];calc ho) (by rw[o5];calc tX)];simp;rw[θ ho,fZ (by rw[o5];calc tX) (by rw[o5];cases q:(a_ r).op<;>simp_all)]
theorem qg{rs:F2}(h:dr 0 rs\0):∀k,k<=5->dr 0 (rs.take k)=some (st 23 k).length
 |0,_=>rfl
 |k+1,hk=>by
  let ih:=qg h k ();let e:rs[k]?\rs[k]:=by simp
  let et:rs.take (k+1)=rs.take k++[rs[k]]:=by rw[List.take_succ,e];rfl
  let hs:(dr 0 (rs.take (k+1))).isSome=true:=by
   rw[<- X2 93 rs,gu] at h;cases q:dr 0 (rs.take (k+1)) with
   |some _=>rfl
   |none=>rw[q] at h;cases h
  rw[et,gu,ih,X9] at hs ⊢;rw[VH rs e];erw[dr] at hs ⊢;by_cases hc:(a_ rs[k]).cl=true;rw[ι hc,ι hc] at *;by_cases z:(st 23 k).length=0;rw[ι z] at hs;cases hs;rw[θ z]
  . rw[θ hc,θ hc] at *;by_cases hl:(a_ rs[k]).el=true
    . let ho:¬ (a_ rs[k]).op=true:=by generalize rs[k]=r at hl;cases r<;>first|(cases hl;done)|(intro z;cases z)
      rw[ι hl,θ ho] at *;by_cases z:(st 23 k).length=0;rw[ι z] at hs;cases hs;rw[θ z]
    rw[θ hl] at *;split<;>rfl
def adt(h:dr 0 rs\0):Gv rs:=by
 let at':∀{k:Nat},k<rs.length->∃r,rs[k]?\r/\bh rs k=a_ r:=λ{k} hk=>#[rs[k],by simp,c_ 6];let step:∀{k:Nat}{r:Rw},rs[k]?\r->(a_ r).cl=true\/(a_ r).el=true->st (bh rs) k≠[]:=λ{k r} hr tR z=>by
  let hk:=(c7.mp hr).1;let h1:=qg h k ();let h2:=qg h 93 ();let et:rs.take (k+1)=rs.take k++[r]:=by rw[List.take_succ,hr];rfl
  rw[et,gu,h1,X9,z] at h2;erw[dr,List.length_nil] at h2;obtain q|q:=tR
  rw[ι q,ι True.intro] at h2;cases h2;by_cases q2:(a_ r).cl=true;rw[ι q2,ι True.intro] at h2;cases h2;rw[θ q2,ι q,ι True.intro] at h2;cases h2
 show#[λk hk ho=>?_,λk hk hc=>?_,λk hk hc=>?_,λk hk hc=>?_,λk hk hc=>?_,?_];let(r,hr,e):=at' hk;rw[e] at ho ⊢;cases r<;>first|rfl|(cases ho)
 let(r,hr,e):=at' hk;calc step hr (.inl (by rw[<- e];calc hc));let(r,hr,e):=at' hk;calc step hr (.inr (by rw[<- e];calc hc));let(r,hr,e):=at' hk;rw[e] at hc ⊢;cases r<;>first|exact#[9,9]|(cases hc)
 let(r,hr,e):=at' hk;rw[e] at hc ⊢;cases r<;>first|rfl|(cases hc)
 have:=qg h 5 82;rw[NZ,h] at this;calc NC.mp (Option.some.inj this).symm
def zt(h:ij ys pl r):(a_ r).cl=false/\(a_ r).el=false/\(a_ r).op=false:=by cases r<;>first|calc#[9,9,9]|calc 482
def VJ{ck new eM}(h:rh ys pl ck new eM){d:Nat}(hd:0<d):dr (d+ck.length) new\(d+eM.length):=by
 obtain⟨o,_,rfl,rfl⟩|⟨o,_,rfl,rfl⟩|⟨y,_,rfl,rfl⟩|⟨s0,rfl,rfl,rfl⟩|⟨s0,x,rfl,rfl,rfl⟩|⟨r,hs,rfl,rfl⟩:=h
 simp[dr,a_];lia;simp[dr,a_];lia;simp[dr,a_];lia;simp[dr,a_];simp[dr,a_];let(a,b,c):=zt hs;simp[dr,a,b,c]
def PL{later:Plan}{ck:χ}{body:F2}(h:Body ys later ck body){d:Nat}(hd:0<d):dr d body\(d+ck.length):=by
 induction h with
 |nil=>rfl
 |step _ hl ih=>rw[gu,ih,X9];calc VJ hl hd
theorem El:∀(n d:Nat),dr (d+n) (List.replicate n Rw.fin)\d
 |0,d=>rfl
 |n+1,d=>by rw[HW];erw[dr,a_,aaT];calc El n d
def VL{k:Nat}(h:Pre ys pl k rs):dr 0 rs\0:=by
 induction h with
 |zero=>rfl
 |succ _ _ hb _ hsk ih=>rw[gu,ih,X9];change dr 1 _\0;rw[gu,PL hb 15,X9,gu,El,X9];obtain rfl|rfl:=hsk<;>rfl
end K5
namespace L2
open PySem PySem.Spec PyProof.Rows
section
variable{a:Expr}{tb:TE}{pos:Pos}
variable{tA Y5:TT}{rest:qap}
end
section
variable{CX:Ie}{k:Nat}{ks:χ}{E:XK}{m:Str}{pos Oy:Pos}{kws:List Keyword}{t tk:TA}{nm:Option Str}
variable{g:qag->qag->qag}{gV:qak->qak->qak}
end
section
variable{κ:Type}[DecidableEq κ]
def jj(bj:List (κ×V))(k:κ):Option V:=(bj.find? λkv=>decide (kv.1=k)).map (·.2)
def putK(bj:List (κ×V))(k:κ)(v:V):List (κ×V) :=
 if (bj.any λkv=>decide (kv.1=k))=true then bj.map (λkv=>if kv.1=k then (kv.1,v) else kv) else bj++[(k,v)]
def jz{p:κ×V}{r:List (κ×V)}{k:κ}(e:p.1=k):jj (p::r) k\p.2:=by simp[jj,X',e]
def jA{p:κ×V}{r:List (κ×V)}{k:κ}(e:¬ p.1=k):jj (p::r) k=jj r k:=by simp[jj,X',e]
theorem rp(k:κ):∀bj:List (κ×V),(bj.any λkv=>decide (kv.1=k))=(jj bj k).isSome
 |[]=>rfl
 |p::r=>by rw[Fv];by_cases e:p.1=k;erw[jz e,ο e,T9,Option.isSome_some];rw[jA e,ς e,HZ];calc rp k r
theorem jB(bj:List (κ×V))(k:κ)(v:V):(putK bj k v).length<=531+1:=by unfold putK;split;rw[bS];lia;rw[fU,vJ,List.length_nil];lia
def Kr{bj:List (κ×V)}{k:κ}(v:V)(h:jj bj k=none):putK bj k v=bj++[(k,v)]:=by unfold putK;rw[rp,h];calc θ 15
def l7.Gz{o:Option V}{u:Option Value}(r:l7 o u):o.isSome=u.isSome:=by
 cases o with
 |none=>cases u with
  |none=>rfl
  |some _=>calc (show False from r).elim
 |some _=>cases u with
  |none=>calc (show False from r).elim
  |some _=>rfl
def l7.getD{o:Option V}{u:Option Value}{d:V}{d':Value}(r:l7 o u)(rd:RelV d d'):RelV (o.getD d) (u.getD d'):=by
 cases o with
 |none=>cases u with
  |none=>calc rd
  |some _=>calc (show False from r).elim
 |some _=>cases u with
  |none=>calc (show False from r).elim
  |some _=>calc r
def KV.val{bj:List (κ×V)}{vs:List (κ×Value)}(r:KV bj vs)(k:κ):l7 (jj bj k) (valueAt vs k):=by
 induction r with
 |nil=>calc True.intro
 |@cons p q ps qs h t ih=>
  let(h1,h2):=h;by_cases e:p.1=k;let e':=h1.symm.trans e;let b:valueAt (q::qs) k\q.2:=by simp[valueAt,X',e']
  rw[jz e,b];calc h2;let e':¬ q.1=k:=λz=>e (h1.trans z);let b:valueAt (q::qs) k=valueAt qs k:=by simp[valueAt,X',e']
  rw[jA e,b];calc ih
def KV.any{bj:List (κ×V)}{vs:List (κ×Value)}(r:KV bj vs)(k:κ):(bj.any λkv=>decide (kv.1=k))=vs.any λkv=>decide (kv.1=k):=by
 induction r with
 |nil=>rfl
 |cons h t ih=>rw[Fv,Fv,ih,h.1]
theorem KV.VM{bj:List (κ×V)}{vs:List (κ×Value)}(r:KV bj vs)(k:κ){y:V}(ry:RelV y u) :
  KV (bj.map λkv=>if kv.1=k then (kv.1,y) else kv) (vs.map λkv=>if kv.1=k then (kv.1,u) else kv):=by
 induction r with
 |nil=>calc .nil
 |@cons p q ps qs h t ih=>rw[kn,kn];show .cons ?_ ih;let(h1,h2):=h;by_cases e:p.1=k;rw[ι e,ι (h1.symm.trans e)];calc#[h1,ry];rw[θ e,θ (λz=>e (h1.trans z))];calc#[h1,h2]
def KV.put{bj:List (κ×V)}{vs:List (κ×Value)}(r:KV bj vs)(k:κ){y:V}(ry:RelV y u):KV (putK bj k y) (stored vs k u):=by unfold putK stored;rw[r.any k];by_cases e:(vs.any λkv=>decide (kv.1=k))=true;rw[ι e,ι e];calc r.VM k ry;rw[θ e,θ e];calc Paired.snoc r #[9,ry]
def KV.length{bj:List (κ×V)}{vs:List (κ×Value)}(r:KV bj vs):531=87:=RY r
end
def u7{k:Key}(r:RelV (kV k) u):(bN P w).is k u=true:=by
 cases k with
 |inl i=>let(t,e):=(show ∃t,u=Value.int i t from r);subst e;calc yw P w i t
 |inr x=>let(t,e):=(show ∃t,u=Value.str x t from r);subst e;calc yx P w x t
theorem u9{P:Program}{w:World}:∀{ks:List Key}{us:qag},Vals (ks.map kV) us->ItemsAre (bN P w) ks us
 |[],_,r=>by rw[Yb] at r;cases r;calc .nil
 |k::ks,_,r=>by
  cases r with
  |cons h t=>calc .cons (u7 h) (u9 t)
abbrev KT(H:Hp):List (List Key×V)->List (List Key×Addr×Value)->Prop:=Paired λp q=>p.1=q.1/\H q.2.1\.tup (p.1.map kV)/\RelV p.2 q.2.2
def KT.val{xs:List (List Key×Addr×Value)}(r:KT H bj xs)(k:List Key):l7 (jj bj k) ((atKey xs k).map (·.2)):=by
 induction r with
 |nil=>calc True.intro
 |@cons p q ps qs h t ih=>
  let(h1,_,h2):=h;by_cases e:p.1=k;let e':=h1.symm.trans e;let b:atKey (q::qs) k\q.2:=by simp[atKey,X',e']
  rw[jz e,b];calc h2;let e':¬ q.1=k:=λz=>e (h1.trans z);let b:atKey (q::qs) k=atKey qs k:=by simp[atKey,X',e']
  rw[jA e,b];calc ih
theorem KT.VM{xs:List (List Key×Addr×Value)}(r:KT H bj xs)(k:List Key){y:V}(ry:RelV y u) :
  KT H (bj.map λkv=>if kv.1=k then (kv.1,y) else kv) (xs.map (putAt k u)):=by
 induction r with
 |nil=>calc .nil
 |@cons p q ps qs h t ih=>rw[kn,kn];show .cons ?_ ih;let(h1,h2,h3):=h;unfold putAt;by_cases e:p.1=k;rw[ι e,ι (h1.symm.trans e)];calc#[h1,h2,ry];rw[θ e,θ (λz=>e (h1.trans z))];calc#[h1,h2,h3]
def KT.put{xs:List (List Key×Addr×Value)}(r:KT H bj xs)(k:List Key){b:Addr}{y:V}(hb:H b\.tup (k.map kV))(ry:RelV y u) :
  KT H (putK bj k y) (storedH xs k b u):=by
 let e:(bj.any λkv=>decide (kv.1=k))=(atKey xs k).isSome:=by rw[rp,(r.val k).Gz,Option.isSome_map]
 unfold putK storedH;rw[e];by_cases q:(atKey xs k).isSome=true;rw[ι q,ι q];calc r.VM k ry;rw[θ q,θ q];calc Paired.snoc r #[9,hb,ry]
def KT.keeps{xs:List (List Key×Addr×Value)}(r:KT H bj xs)(ht:∀b ys,H b\.tup ys->H' b\.tup ys):KT H' bj xs :=
 Paired.pL r λ_ _ z=>#[z.1,ht _ _ z.2.1,z.2.2]
section
def SJ{u:HO}(ok:kL P w H h)(e:Rd H a u):cb P w H h a u:=e.ok ok
def u_{bj:List (Key×V)}(ok:kL P w H h)(e:Rd H a (.dK bj)):531<=sizeLine/\495=false/\∃vs,KV bj vs/\h.DictOf (bN P w) a vs :=
 show cb P w H h a (.dK bj) from SJ ok e
def Em{bj:List (Key×V)}(ok:kL P w H h)(e:H a\.dK bj):531<=sizeLine/\495=false/\∃vs,KV bj vs/\h.DictOf (bN P w) a vs:=u_ ok (.inl e)
def wJ{ks:List Key}(ok:kL P w H h)(e:H a\.tup (ks.map kV)):(tupleKind (bN P w)).is h ks a:=by let(_,aR,r,o,h1,h2,n,h3):=(show cb P w H h a (.tup (ks.map kV)) from ok a _ e);calc#[o,94,n,h1,h2,h3,by simpa using u9 r]
def zu(ok:kL P w H h)(e:Rd H a (.dT bj)):531<=sizeLine/\495=false /\
  ∃xs,KT H bj xs/\h.DictOfH (tupleKind (bN P w)) a xs:=by
 let(z,y,xs,r,o,es,ep,h1,h2,h3,h4,h5):=(show cb P w H h a (.dT bj) from SJ ok e);show#[z,y,xs,r,o,es,ep,h1,h2,h3,h4,λx hx=>?_,h5];let all:∀{l:List (List Key×V)}{m:List (List Key×Addr×Value)},KT H l m->∀x∈m,(tupleKind (bN P w)).is h x.1 x.2.1:=by
  intro l m q;induction q with
  |nil=>intro x hx;calc nomatch hx
  |@cons p q ps qs hq t ih=>
    intro x hx;rcases dQ.mp hx with e|hx
    subst e;calc wJ ok (by rw[<- hq.1];calc hq.2.1);exact ih x hx
 calc all r x hx
def adu(ok:kL P w H h)(e:H a\.dT bj):531<=sizeLine/\495=false /\
 ∃xs,KT H bj xs/\h.DictOfH (tupleKind (bN P w)) a xs:=zu ok (.inl e)
end
def zw(H:Hp)(a:Addr)(y:V)(r:Option V):Prop :=
 (∃bj k,Rd H a (.dK bj)/\y=kV k/\r=jj bj k)\/∃bj k b,Rd H a (.dT bj)/\y=.ref b/\H b\.tup (k.map kV)/\r=jj bj k
def wK(H:Hp)(a:Addr)(y v:V)(H':Hp):Prop :=
 (∃bj k,H a\.dK bj/\y=kV k/\531<sizeLine/\H'=upd H a (.dK (putK bj k v))) \/
 ∃bj k b,H a\.dT bj/\y=.ref b/\H b\.tup (k.map kV)/\531<sizeLine/\H'=upd H a (.dT (putK bj k v))
theorem zw.k{bj:List (Key×V)}{k:Key}(e:H a\.dK bj):zw H a (kV k) (jj bj k):=.inl #[bj,k,.inl e,9,9]
def wK.t{b:Addr}{k:List Key}(e:H a\.dT bj)(eb:H b\.tup (k.map kV))(hl:531<sizeLine) :
 wK H a (.ref b) v (upd H a (.dT (putK bj k v))):=.inr #[bj,k,b,e,9,eb,hl,9]
section
variable{y:V}{r:Value}{o:Option V}
def Inv.big(I:Inv X ε σ H s):sysModules<8:=by let h:=(I.mod.glob.keeps I.bk).lt;calc T7 15 h
def GA(hu:A.units+1<cLine)(I:Inv X ε σ H s)(g:zw H a y (some v))(ry:RelV y u)(h:∀w' s',Inv X ε σ H s'->RelV v w'->Q w' s') :
  wpAny 17 A (getItem 110 u) Q E s:=by
 obtain⟨bj,k,e,ey,l⟩|⟨bj,k,b,e,ey,eb,l⟩:=g
 subst ey;let(z,hd,vs,rel,dd):=u_ I.bZ e;let(w',hw,rw'):=l7.some_of (by rw[l];calc rel.val k);calc wpAny_getItem_of (u7 ry) dd.mapOf hw (h w' _ (I.tok _) rw');subst ey;cases (show u=Value.ref b from ry);let(z,hd,xs,rel,dd):=zu I.bZ e;let(w',hw,rw'):=l7.some_of (by rw[l];calc rel.val k);let(p,hp,Gi):=X1.mp hw;show wpAny_getItem_heap (aaL hu) (wJ I.bZ eb) dd hp ?_;rw[Gi];calc h w' _ (I.tok _) rw'
def wL{ob:HO}(I:Inv X ε σ H s)(mu:YV (H a))(hs:Heap.SameBut a 69 h')(he:∃q,h'.get? a\q)(new:cb 33 X.w (upd H a ob) h' a ob) :
  Inv X ε σ (upd H a ob) {s with heap:=h',toks:=t'} :=
 I.write mu 7 (λb q hb z=>(hs.2 b hb).trans z) he new
def Ks{bj:List (Key×V)}{vs:List (Key×Value)}(z:531<=sizeLine)(hd:495=false)(rel:KV bj vs)(dd:h'.DictOf (bN P w) a vs) :
 cb P w H' h' a (.dK bj):=#[z,hd,vs,rel,dd]
theorem GB{Q:Unit->Shared->Prop}(hu:A.units+1<cLine)(I:Inv X ε σ H s)(g:wK H a y v H')(ry:RelV y u)(rv:RelV v r)(h:∀s',Inv X ε σ H' s'->Q Unit.unit s') :
  wpAny 17 A (setItem 110 u r) Q E s:=by
 obtain⟨bj,k,e,ey,l,eH⟩|⟨bj,k,b,e,ey,eb,l,eH⟩:=g
 subst ey eH;let(z,hd,vs,rel,dd):=Em I.bZ e;let hz:vs.length<=sizeLine:=by rw[<- rel.length];exact z
 let hl:(putK bj k v).length<=sizeLine:=by have:=jB bj k v;lia
 show wpAny_setItem_pairs (u7 ry) dd λh' NP hs=>h _ ?_;let he:∃q,h'.get? a\q:=let #[q,_,_,hq,_]:=NP;#[q,hq];calc wL I (by rw[e];calc True.intro) hs he (Ks hl hd (rel.put k rv) NP);subst ey eH;cases (show u=Value.ref b from ry);let(z,hd,xs,rel,dd):=adu I.bZ e;let hz:xs.length<=sizeLine:=by rw[<- RY rel];exact z
 let hl:(putK bj k v).length<=sizeLine:=by have:=jB bj k v;lia
 show wpAny_setItem_heap (aaL hu) (wJ I.bZ eb) dd λh' NP hs=>h _ ?_;let(q,es,ep,hq,h2,h3,h4,_,h5):=NP;show wL I (by rw[e];calc True.intro) hs #[q,hq] #[hl,hd,_,(rel.put k eb rv).keeps λc ys ec=>?_,q,es,ep,hq,h2,h3,h4,h5];rw[aG (IE ec e (λz=>nomatch z))];calc ec
end
section
variable{bj:List (Key×V)}{k:Key}
theorem adv(I:Inv X ε σ H s)(e:Rd H a (.dK bj))(h:∀t s',Inv X ε σ H s'->Q (.int 531 t) s'):wpAny 17 A (call (.builtin "len") [.ref a]) Q E s:=by let(z,hd,vs,rel,dd):=u_ I.bZ e;show call_len_dict hd dd (by rw[<- rel.length];rw[π] at z;lia) ?_;rw[<- rel.length];calc h _ _ (I.tok _)
end
def PM(i:Expr):Prop:=∀ov iv,subscripted i false ov iv=operate [ov,iv] (getItem ov iv)
def PN{env:Env}{value slice:Expr}{pos:Pos}{T id:String}(hl:typeLookup (.type T) "__getitem__"=pure (some 541))(hs:PM slice)(h:wpAny 14 A (eval value env) (λo s₁=>wpAny 14 A (eval slice env) (λi s₂=>s₂.TypeIs o T/\wpAny 14 A (getItem o i) Q E s₂) E s₁) E s) :
  wpAny 14 A (eval (.Subscript value slice pos) env) Q E s:=by
 show Subscript_ (F1 h (λo s₁ h₁=>F1 h₁ (λi s₂ h₂=>?_) λ_ _ x=>x) λ_ _ x=>x);let(hT,h₂):=h₂;show ζ (ζ (wpAny_specialOf hT hl ?_));let fin:wpAny (model prog w) A (subscripted slice false o i) (λr s₃=>wpAny (model prog w) A (letTemporaryGo value o r >>= λ_=>pure r) Q E s₃) E s₂:=by rw[hs o i];exact wpAny_operating (F1 h₂ (λr s₃ h₃=>ζ (wpAny_letTemporaryGo (η h₃))) λ_ _ x=>x)
 first
  |calc η (ζ fin)
  |calc ζ (η (ζ fin))
  |calc ζ fin
def zx{y:V}{o:Option V}(I:Inv X ε σ H s)(g:zw H a y o):s.TypeIs 110 "dict":=by
 obtain⟨bj,k,e,_,_⟩|⟨bj,k,b,e,_,_,_⟩:=g
 let(_,_,vs,_,dd):=u_ I.bZ e;calc dd.typeIs;let(_,_,xs,_,dd):=zu I.bZ e;calc dd.typeIs
def adw(td ty:TE):TE:=λσ H Q=>td σ H λx H1=>ty σ H1 λy H2=>∃a v,x=.ref a/\zw H2 a y (some v)/\Q v H2
def adx(td ty tv:TE):TS:=λD σ H=>tv σ H λv H1=>td σ H1 λx H2=>ty σ H2 λy H3=>∃a H4,x=.ref a/\wK H3 a y v H4/\D.nx σ H4
section
variable{i value:Expr}{pos:Pos}{td ty tv:TE}
def Eo(hu:537+1<cLine)(ho:PE X o td)(hi:PE X i ty)(hs:PM i):PE X (.Subscript o i pos) (adw td ty):=by intro ε s σ H Q I h;show PN PySem.F.slot_dict_getitem.lookup hs (cT (ho ε s σ H _ I h) λu s1 #[x,H1,I1,rx,q1]=>cT (hi ε s1 σ H1 _ I1 q1) λiv s2 #[y,H2,I2,ry,a,v,ex,g,q2]=>?_);subst ex;obtain rfl:=rx;calc#[zx I2 g,GA hu I2 g ry λw' s3 I3 rw'=>#[v,H2,I3,rw',q2]]
def wQ(hu:537+1<cLine)(ho:PE X o td)(hi:PE X i ty)(hv:PE X value tv)(hs:swapsWith value (some (.Subscript o i pos')) pos.line 3=pure false) :
  PS X (.Assign [.Subscript o i pos'] value pos) (adx td ty tv):=by
 intro ε s σ H D I h;show wpAny_Assign_Subscript (cT (hv ε s σ H _ I h) λr s1 #[v,H1,I1,rv,q1]=>cT (ho ε s1 σ H1 _ I1 q1) λu s2 #[x,H2,I2,rx,q2]=>cT (hi ε s2 σ H2 _ I2 q2) λiv s3 #[y,H3,I3,ry,a,H4,ex,g,q3]=>?_) hs;subst ex;obtain rfl:=rx;calc GB hu I3 g ry rv λs4 I4=>#[σ,H4,I4,q3]
end
def Kt(h:Heap)(hb:sysModules<533):cb P w H (h.push {cls:=.type "dict",data:=.dict 83}) 533 (.dK []) :=
 #[fB _,aag.mpr (Ne.symm (hU hb)),[],.nil,Heap.DictOf.new h]
def Ku(h:Heap)(hb:sysModules<533):cb P w H (h.push {cls:=.type "dict",data:=.dict 83}) 533 (.dT []) :=
 #[fB _,aag.mpr (Ne.symm (hU hb)),[],.nil,_,83,0,gP _ 9,#[9,9,9],9,9,NJ]
def VN:TE:=λ_ H Q=>∀p,H p=none->Q (.ref p) (upd H p (.dK []))
def VQ:TE:=λ_ H Q=>∀p,H p=none->Q (.ref p) (upd H p (.dT []))
section
variable{pos:Pos}
def Kv:PE X (.Dict [] [] pos) VN:=λε s σ H Q I h=>
 wpAny_Dict_empty #[.ref 8,_,I.laid (λ_ _ q=>dF _ q) 82 (Kt 69 I.big),9,h _ 532]
def rq:PE X (.Dict [] [] pos) VQ:=λε s σ H Q I h=>
 wpAny_Dict_empty #[.ref 8,_,I.laid (λ_ _ q=>dF _ q) 82 (Ku 69 I.big),9,h _ 532]
end
structure M2(X:Cx)(o:Expr)(m:Str)(apos:Pos)(e f:Expr)(bF:Pos):Prop where
 base:attributeBase o m 3 (eval o 3)=eval o 3
 few:((backTo bF (starEach [e,f] 3)).all (λx=>!x.1) && (backToKw bF 499).all (λx=>x.1.isSome)
  && decide (([e,f]:qap).length+([]:List Keyword).length+(if ([]:List Keyword).isEmpty then 0 else 1)<30))=true
 line:91=true
 trees:backTo bF (starEach [e,f] 3)=[(false,eval e 3),(false,eval f 3)]
def IsD(H:Hp)(a:Addr):Prop:=(∃bj,Rd H a (.dK bj))\/∃bj,Rd H a (.dT bj)
def Kw(I:Inv X ε σ H s)(d:IsD H a) :
  s.TypeIs 110 "dict"/\(∀b,Value.ref a=.ref b->∃ob,s.heap.get? b\ob/\ob.dict=none)/\495=false:=by
 obtain⟨bj,e⟩|⟨bj,e⟩:=d
 let(_,hd,vs,_,dd):=u_ I.bZ e;show#[dd.typeIs,λb q=>?_,hd];cases q;let(ob,_,_,h1,h2,_):=dd;calc#[ob,h1,h2.2.1];let(_,hd,xs,_,dd):=zu I.bZ e;show#[dd.typeIs,λb q=>?_,hd];cases q;let(ob,_,_,h1,h2,_):=dd;calc#[ob,h1,h2.2.1]
section
variable{y d:V}{r:Value}{o:Option V}
def VU(hu:A.units+1<cLine)(I:Inv X ε σ H s)(g:zw H a y o)(ry:RelV y u)(rd:RelV d r)(h:∀w' s',Inv X ε σ H s'->RelV (o.getD d) w'->Q w' s') :
  wpAny 17 A (call (.builtin "dict.get") [.ref a,u,r]) Q E s:=by
 obtain⟨bj,k,e,ey,l⟩|⟨bj,k,b,e,ey,eb,l⟩:=g
 subst ey;let(z,hd,vs,rel,dd):=u_ I.bZ e;show aaG YL dd.typeIs acT (acP _ _ _) (meets_dict_get_default (bN 33 X.w) a (u7 ry) hd r) #[_,dd.mapOf,h _ _ (I.tok _) ?_];rw[l];calc (rel.val k).getD rd;subst ey;cases (show u=Value.ref b from ry);let(z,hd,xs,rel,dd):=zu I.bZ e;show aaG YL dd.typeIs acT (acP _ _ _) (meetsH_dict_get_default (tupleKind (bN 33 X.w)) a b hd r) #[aaL hu,k,xs,wJ I.bZ eb,dd,h _ _ (I.tok _) ?_];rw[l];calc (rel.val k).getD rd
end
def VY(td ty tx:TE):TE:=λσ H Q=>td σ H λx H1=>∃a,x=.ref a/\IsD H1 a/\ty σ H1 λy H2=>tx σ H2 λz H3=>∃o,zw H3 a y o/\Q (o.getD z) H3
section
variable{f:Expr}{td ty tx:TE}
def Kx(hu:537+1<cLine)(ho:PE X o td)(he:PE X e ty)(hf:PE X f tx)(m:M2 X o "get" apos e f bF):PE X (.Call (.Attribute o "get" apos) [e,f] [] bF) (VY td ty tx):=by
 intro ε s σ H Q I h;show wpAny_Call_method m.base m.few m.line YI YL PySem.F.type_dict_get (cT (ho ε s σ H _ I h) λu s1 #[x,H1,I1,rx,a,ex,d,q1]=>?_);subst ex;obtain rfl:=rx;let(t1,t2,_):=Kw I1 d;show#[t1,t2,?_];rw[m.trees];show YJ 9 (Calls.evalArgs_plain (YQ (cT (he ε s1 σ H1 _ I1 q1) λiv s2 #[y,H2,I2,ry,q2] =>
  YQ (cT (hf ε s2 σ H2 _ I2 q2) λfv s3 #[z,H3,I3,rz,ov,g,q3]=>Calls.spliced_nil ?_))))
 calc VU hu I3 g ry rz λw' s4 I4 rw'=>#[_,H3,I4,rw',q3]
end
end L2
namespace Att
open PySem PySem.W PySem.Calls PyProof.Rows
end Att
namespace L2
open PySem PySem.Spec PyProof.Rows
section
def GC:dh X (.builtin "len") (λxs H Q=>∃a bj,xs=[V.ref a]/\H a\.dK bj/\Q (.int 531) H):=by intro ε s σ H xs us Q I r h;let(a,bj,rfl,ha,q):=h;let(u,rfl,ru):=vals1 r;cases ru;calc adv I (.inl ha) λt s' I'=>#[.int 531,H,I',#[t,9],q]
end
end L2
namespace VT
open PySem PySem.Spec PyProof.Rows L2
def PQ:T->Option Key
 |.int i=>some (.inl i)
 |.str x=>some (.inr x)
 |_=>none
def wR{A:zm}{t:T}{k:Key}(h:hV K H A t v)(e:PQ t\k):v=kV k:=by
 cases t with
 |int i=>cases e;calc h.int
 |str x=>cases e;calc h.str
 |_=>cases e
def g6{α:Type}:List Key->List α->Key->Option α
 |k::ks,t::ts,x=>if k=x then some t else g6 ks ts x
 |_,_,_=>none
theorem ik:∀(ks:List Key)(vs:qak)(x:Key),jj 175 x=g6 ks vs x
 |[],vs,x=>rfl
 |k::ks,[],x=>rfl
 |k::ks,v::vs,x=>by erw[g6,T1];by_cases e:k=x;rw[ι e,jz (p:=(k,v)) e];rw[θ e,jA (p:=(k,v)) e];calc ik ks vs x
def zy(ts:List α)(x:Key):g6 [] ts x=none:=by cases ts<;>rfl
theorem iP{K:qaf}{H:Hp}{A:zm}:∀{ks:List Key}{ts:Λ}{vs:qak}{x:Key},aD K H A ts vs->(∀t,g6 ks ts x\t->∃v,g6 ks vs x\v/\At K H A t v)/\(g6 ks ts x=none->g6 ks vs x=none)
 |[],ts,vs,x,h=>by rw[zy,zy];show#[λt e=>?_,λ_=>rfl];cases e
 |k::ks,[],vs,x,h=>by erw[aD] at h;subst h;calc#[λt e=>(by cases e),λ_=>rfl]
 |k::ks,t::ts,vs,x,h=>by erw[aD] at h;let(v,r,rfl,h1,h2):=h;erw[g6];by_cases e:k=x;rw[ι e,ι e];calc#[λt e=>by cases e;calc#[v,9,h1],λq=>by cases q];rw[θ e,θ e];calc iP h2
section
variable{a:Expr}{fc:FE}{pos:Pos}
def ady:FP:=λ_ Q=>Q (.fr (.dk [] []))
def PR:VP X Z (.Dict [] [] pos) ady:=.mk λtm=>PE.weak Kv λσ H Q #[ρ,O,q,I,hf,k] p hp=>
 k _ hf _ _ (aI hp) (I.newD (ks:=[]) (ts:=[]) (vs:=[]) hp 9 451)
def adz(fa fb:FE):FP:=λρ Q=>fa ρ λx=>fb ρ λy=>match x,PQ y with
 |.dk ks ts,some k=>∃t,g6 ks ts k\t/\Q (.vw t)
 |_,_=>False
def Kz(hu:537+1<cLine)(ha:VR X Z a fa)(hb:VR X Z b fb)(hs:PM b:=by intro _ _;rfl):VP X Z (.Subscript a b pos) (adz fa fb):=.mk λtm=>PE.weak (Eo hu 503 (hb tm) hs) λσ H Q #[ρ,O,q,I,hf,k] =>
 #[ρ,O,_,I,hf,λx hx v H1 s1 a1=>#[ρ,O,_,I.same s1,hx,λy hy w H2 s2 a2=>by
  split at hy
  rename_i ks ts kk e
  let(t,e1,hq):=hy;let(l,vs,rfl,hl,hd,hv):=(a1.same s2).dk;let(u,e2,e3):=(iP hv).1 t e1;rw[wR a2 e];calc#[l,u,9,by rw[<- e2,<- ik];calc zw.k hd,k _ hq _ H2 (s1.trans s2) #[(I.same s1).same s2,e3]];calc hy.elim]]
def PU{A:zm}{ks:List Key}{ts:Λ}{k:Key}{z:T}{w:V}(h:aD K H A ts vs)(hz:At K H A z w):At K H A ((g6 ks ts k).getD z) ((g6 ks vs k).getD w):=by
 cases e:g6 ks ts k with
 |none=>rw[(iP h).2 e];calc hz
 |some t=>let(v,e1,e2):=(iP h).1 t e;rw[e1];calc e2
end
section
variable{a:Expr}{pos:Pos}
def SK(ts:Λ)(q:qam):Prop:=match ts with
 |[.dk ks vs]=>q (.vw (.int (87:Int)))
 |_=>False
def Cc:my K (λxs H Q=>∃a bj,xs=[V.ref a]/\H a\.dK bj/\Q (.int 531) H) SK:=by intro Z tm O ρ σ H ts vs q Q I h hp k;unfold SK at hp;split at hp;let(v,rfl,a):=dH h;let(l,ws,rfl,hl,hd,hv):=a.dk;show#[l,_,9,hd,?_];rw[NI,hl,RZ,hv.length];calc k _ hp _ H 45 #[I,bw];calc hp.elim
end
end VT
namespace RV
open PySem PySem.Spec PyProof.Rows
section
variable{R:Result->Shared->Prop}
variable{I:Addr}{wr:zm}{G:Array GenState->Array GenState->Prop}{P:Nat->Value->Prop}{St:Nat->Shared->Prop}
end
end RV
namespace VT
open PySem PySem.Spec PyProof.Rows L2
def va(h:n+101<cLine):n+1<cLine:=by lia
def SM(w:World)(K:qaf)(e:DictEntry)(p:Str×T):Prop:=e.hash=PyData.keyHash w.params p.1/\(∃t,e.key=.str p.1 t)/\∃v,RelV v e.val/\∀H A,At K H A p.2 v
def Ep(w:World)(K:qaf)(a:Addr)(l:List (Str×T)):Prop:=∃es ep,K.lookup a=some #[.type "dict",none,.dict es ep,83]/\495=false/\Paired (SM w K) es.toList l/\(l.map (·.1)).Nodup
theorem ents{P:Program}{w:World}{K:qaf}:∀{es:List DictEntry}{l:List (Str×T)},Paired (SM w K) es l ->
  ∃(vs:qak)(us:List (Key×Value)),(∀H A,aD K H A (l.map (·.2)) vs)/\KV ((l.map λp=>(Sum.inr p.1:Key)).zip vs) us/\PySem.Pairs (bN P w) es us/\us.map (·.1)=l.map (λp=>(Sum.inr p.1:Key))/\∀e∈es,∃k,(bN P w).is k e.key=true/\e.hash=(bN P w).hash k
 |_,_,.nil=>#[[],[],λ_ _=>451,.nil,.nil,9,λ_ h=>nomatch h]
 |_,_,.cons (a:=e) (b:=p) r t=>by
   let(vs,us,h1,h2,h3,h4,h5):=ents (P:=P) t;let(r1,(tk,r2),v,r3,r4):=r;let hk:(bN P w).is (Sum.inr p.1) e.key=true:=by rw[r2];change Value.isStrOf p.1 (.str p.1 tk)=true;simp[Value.isStrOf]
   show#[v::vs,(Sum.inr p.1,e.val)::us,λH A=>aD.cons (r4 H A) (h1 H A),.cons #[9,r3] h2,.cons hk 9 h3,by rw[kn,kn,h4],λe' he=>?_];rcases dQ.mp he with q|q
   subst q;calc#[Sum.inr p.1,hk,r1];calc h5 e' q
def Ep.of{l:List (Str×T)}(I:Inv X ε σ H s)(d:Ep X.w X.K a l) :
  ∃(vs:qak)(us:List (Key×Value)),(∀H A,aD X.K H A (l.map (·.2)) vs)/\KV ((l.map λp=>(Sum.inr p.1:Key)).zip vs) us/\s.heap.DictOf (bN 33 X.w) a us/\495=false:=by
 let(es,ep,lk,hs,hp,nd):=d;let(vs,us,h1,h2,h3,h4,h5):=ents (P:=33) hp;show#[vs,us,h1,h2,#[_,es,ep,I.vL a _ lk,#[9,9,9],9,λe he=>h5 e (by simpa using he),h3,?_],hs];rw[h4];let e:(l.map λp=>(Sum.inr p.1:Key))=(l.map (·.1)).map Sum.inr:=by rw[yu];rfl
 rw[e];calc List.Pairwise.map _ (λa b h z=>h (Sum.inr.inj z)) nd
section
variable{fc:FE}{l:List (Str×T)}
def VZ(l:List (Str×T))(k:Str):Option T:=g6 (l.map λp=>(Sum.inr p.1:Key)) (l.map (·.2)) (Sum.inr k)
def onStr(t:T)(f:Str->Prop):Prop:=match t with
 |.str k=>f k
 |_=>False
def KA{t:T}{f:Str->Prop}(h:onStr t f):∃k,t=.str k/\f k:=by unfold onStr at h;split at h;calc#[_,9,h];calc 482
def afU(l:List (Str×T))(fe fc:FE):FP:=λρ Q=>fe ρ λy=>fc ρ λz=>onStr y λk=>Q (.vw ((VZ l k).getD z))
def KC(hg:Gl X x)(hm:X.mg x\.ref a)(d:Ep X.w X.K a l)(he:VR X Z e fe)(hc:VE X Z c fc)(m:M2 X 31 "get" apos e c bF)(hd:gD x:=by decide) :
  VP X Z (.Call (.Attribute 31 "get" apos) [e,c] [] bF) (afU l fe fc):=.mk λtm ε s σ H Q I #[ρ,O,q,E,hf,k]=>by
 show wpAny_Call_method m.base m.few m.line YI YL PySem.F.type_dict_get (cT (DI hg hm (v:=.ref a) 9 hd ε s σ H (λv H'=>v=.ref a/\H'=H) I #[9,9]) λu s1 #[x',H1,I1,rx,ex,eH]=>?_);subst ex eH;obtain rfl:u=Value.ref a:=rx;let(vs,us,h1,h2,dd,hs):=d.of I1;show#[dd.typeIs,λb q=>?_,?_];cases q;let(ob,_,_,z1,z2,_):=dd;calc#[ob,z1,z2.2.1];rw[m.trees];show YJ 9 (Calls.evalArgs_plain (YQ (cT (he tm ε s1 σ H1 (λy H2=>∃t,hV X.K H2 242 t y/\aW H1 H2/\fc ρ λz=>onStr t λk=>q (.vw ((VZ l k).getD z))) I1 #[ρ,O,_,E,hf,λt ht v H' s a1=>#[t,a1,s,ht]]) λiv s2 #[y,H2,I2,ry,t,a1,sa,q2] =>
  YQ (cT (hc tm ε s2 σ H2 (λz H3=>∃tz,At X.K H3 242 tz z/\aW H2 H3/\onStr t λk=>q (.vw ((VZ l k).getD tz))) I2 #[ρ,O,_,E.same sa,q2,λtz htz v H' s a2=>#[tz,a2,s,htz]]) λfv s3 #[z,H3,I3,rz,tz,a2,sb,q3]=>Calls.spliced_nil ?_))))
 let(kk,et,q3):=KA q3;subst et;let(lr,Km,JF,JG,NP,hs'):=d.of I3;let ey:=a1.str;subst ey;show aaG YL NP.typeIs acT (acP _ _ _) (meets_dict_get_default (bN 33 X.w) a (u7 (k:=Sum.inr kk) ry) hs' fv) #[_,NP.mapOf,#[_,H3,I3.tok _,(JG.val (Sum.inr kk)).getD rz,?_]];rw[ik];calc k _ q3 _ H3 (sa.trans sb) #[(E.same sa).same sb,PU (JF H3 242) a2]
end
section
theorem mM:∀{us:qag}{zs:χ},StrsAre us zs->Vals (zs.map V.str) us
 |_,_,.nil=>.nil
 |_,_,.cons x t h=>.cons #[t,9] (mM h)
theorem mO:∀{us:qag}{zs:qan},IntsAre us zs->Vals (zs.map V.int) us
 |_,_,.nil=>.nil
 |_,_,.cons x t h=>.cons #[t,9] (mO h)
def zz{out:Array Value}{Q:VK}(I:Inv X ε σ H s)(hx:Vals xs out.toList)(hl:46<=sizeLine)(q:∀a,H a=none->Q 110 (upd H a (.lst xs))) :
  EP X ε σ Q (.ref 77) {s with heap:=sortedAll 69 us out}:=by
 let(e,he):=sortedAll_at 69 us out;show#[.ref 77,_,I.laid (a:=8+1) (o:=.lst xs) (t':=528) (λb o h=>sortedAll_old h) (ID _) #[hl,out.toList,e,hx,?_],9,q _ (I.bZ.fresh (ID _))];rw[he]
end
section
variable{A:zm}
theorem zA:∀zs:χ,aD K H A (zs.map T.str) (zs.map V.str)
 |[]=>451
 |z::zs=>aD.cons cO (zA zs)
theorem zC:∀zs:qan,aD K H A (zs.map T.int) (zs.map V.int)
 |[]=>451
 |z::zs=>aD.cons bw (zC zs)
theorem vb:∀{ys:qan}{vs:qak},aD K H A (ys.map T.int) vs->vs=ys.map V.int
 |[],vs,h=>by simpa only[Yb,aD] using h
 |y::ys,vs,h=>by erw[kn,aD] at h;let(v,r,rfl,h1,h2):=h;erw[At] at h1;rw[h1,vb h2];rfl
end
abbrev FPs:=En->(List (Key×T)->Prop)->Prop
section
theorem PV:Sb X "dict.setdefault" (λx xs H Q=>∃(a:Addr)(bj:List (Key×V))(k:Key)(v:V),x=.ref a/\xs=[kV k,v]/\H a\.dK bj/\531<sizeLine /\
  (∀u,jj bj k\u->Q u H)/\(jj bj k=none->Q v (upd H a (.dK (L2.putK bj k v))))):=by
 intro ε s σ H x xs v us Q I rx rs h;let(a,bj,k,y,rfl,rfl,ha,kq,q1,q2):=h;cases rx;obtain⟨u1,u2,rfl,ru1,ru2⟩:∃u1 u2,us=[u1,u2]/\RelV (kV k) u1/\RelV y u2:=by
  cases rs with
  |cons r1 t=>cases t with
    |cons r2 t2=>cases t2;exact#[_,_,9,r1,r2]
 let(z,hd,vs,rel,dd):=Em I.bZ ha;show aaG PySem.F.slot_dict_setdefault dd.typeIs PySem.F.entry_dict_setdefault (PySem.F.args_dict_setdefault_3 _ _ _) (kt_meets_setdefault (bN 33 X.w) a (u7 ru1) hd u2) #[vs,dd,by rw[<- rel.length];lia,λv0 hv=>?_,λhn h' NP hs=>?_];let yF:=rel.val k;rw[hv] at yF;cases e:jj bj k with
 |none=>rw[e] at yF;cases yF
 |some w0=>rw[e] at yF;let hr:=yF;exact#[w0,H,I.tok _,hr,q1 w0 e]
 let yF:=rel.val k;rw[hn] at yF;cases e:jj bj k with
 |some w0=>rw[e] at yF;cases yF
 |none=>
   let he:∃q,h'.get? a\q:=let #[q,_,_,hq,_]:=NP;#[q,hq];let hl:(L2.putK bj k y).length<=sizeLine:=by have:=jB bj k y;lia
   calc#[y,_,wL I (by rw[ha];calc True.intro) hs he (Ks hl hd (rel.put k ru2) NP),ru2,q2 e]
end
section
variable{e1 e2:Expr}{f1 f2:FE}
def SN(n:Nat)(f1 f2:FE):FX:=λρ Q=>match ρ[n]? with
 |some (some (.dk ks ts,true))=>f1 ρ λx=>f2 ρ λy=>match PQ x with
  |some k=>25<16777216/\match g6 ks ts k with
   |some t=>Q ρ (.vw t)
   |none=>Q (ρ.set n (some (.dk (ks++[k]) (ts++[y]),true))) (.vw y)
  |none=>False
 |_=>False
theorem PX(n:Nat)(h1:VE X Z e1 f1)(h2:VE X Z e2 f2)(hN:X.N[n]?\x:=by rfl)(hv:nI 39 x:=by first|calc Or.inl rfl|calc Or.inr 7|calc Or.inr 95)(hd:gD x:=by decide)(fL:qt x:=by decide)(du:attributeBase 31 "setdefault" 3 (eval 31 3)=eval 31 3:=by rfl)(qI:((backTo bF (starEach [e1,e2] 3)).all (λx=>!x.1) && (backToKw bF 499).all (λx=>x.1.isSome)
    && decide (([e1,e2]:qap).length+([]:List Keyword).length+(if ([]:List Keyword).isEmpty then 0 else 1)<30))=true:=by rfl)(dw:91=true:=by rfl)(hs:starEach [e1,e2] 3=(false,eval e1 3)::starEach [e2] 3:=by rfl)(BC:starEach [e2] 3=(false,eval e2 3)::starEach [] 3:=by rfl)(gi:(backTo bF (starEach [e2] 3)).any (·.1)=false:=by rfl) :
  VX X Z (.Call (.Attribute 31 "setdefault" apos) [e1,e2] [] bF) (SN n f1 f2):=.mk λtm=>
 PE.weak (yI YI PySem.F.slot_dict_setdefault PySem.F.type_dict_setdefault PV 123 (bD (h1 tm) (bD (h2 tm) cV BC) hs) du qI dw hs gi) λσ H Q #[ρ,O,q,I,hf,kk]=>by
  unfold SN at hf;split at hf
  rename_i ks ts e0
  let(l,g1,g2,xs,hl,g3,g4):=I.root e0;let ha:l∈av Z O:=hX _ (aH.mpr (fM g1));show#[.ref l,g2,.inr (.inr (.inl #[9,.inl #[_,g3]])),ρ,O,_,I,hf,λt ht v H1 s1 a1=>#[ρ,O,_,I.same s1,ht,λy hy w H2 s2 a2=>?_]];split at hy
  rename_i kk' ek
  let(hlen,hy):=hy;let ev:=wR (.inl a1) ek;subst ev;let hz:(ks.zip xs).length<sizeLine:=by
   rw[π,NI,hl,RZ,g4.length]
   lia
  let J:=(I.same s1).same s2;let b4:=(g4.same s1).same s2;show#[l,ks.zip xs,kk',w,9,9,s2 _ _ (s1 _ _ g3),hz,λu hu=>?_,λhn=>?_];rw[ik] at hu;cases eg:g6 ks ts kk' with
  |none=>rw[(iP b4).2 eg] at hu;cases hu
  |some t0=>rw[eg] at hy;let(v0,e1,e2):=(iP b4).1 t0 eg;rw[e1] at hu;cases hu;exact kk _ _ hy O _ _ #[J,e2]
  rw[ik] at hn;cases eg:g6 ks ts kk' with
  |some t0=>let(v0,e1,e2):=(iP b4).1 t0 eg;rw[e1] at hn;cases hn
  |none=>
    rw[eg] at hy;let e1:L2.putK (ks.zip xs) kk' w=(ks++[kk']).zip (xs++[w]):=by rw[Kr _ (by rw[ik];calc hn),List.zip_append hl];rfl
    rw[e1];exact kk _ _ hy O _ _ #[J.wrote e0 g1 #[xs++[w],by simp[hl],aK,(b4.append (aD.cons a2 451)).wrote ha (s2 _ _ (s1 _ _ g3)) 9],a2.wrote ha (s2 _ _ (s1 _ _ g3)) 9]
  calc hy.elim;calc hf.elim
end
def rA{α:Type}(f:Str):χ->List α->Option α
 |n::ns,t::ts=>match f==n with
  |true=>some t
  |false=>rA f ns ts
 |_,_=>none
def GD(f:Str):χ->χ
 |[]=>[f]
 |n::ns=>if n=f then n::ns else n::GD f ns
def pS{α:Type}(f:Str)(u:α):χ->List α->List α
 |n::ns,t::ts=>if n=f then u::ts else t::pS f u ns ts
 |_,_=>[u]
theorem rB(f:Str):∀(ns:χ)(vs:qak),(ns.zip vs).lookup f=rA f ns vs
 |[],vs=>by cases vs<;>rfl
 |n::ns,[]=>rfl
 |n::ns,v::vs=>by
  rw[T1,NX];unfold rA;cases f==n with
  |true=>rfl
  |false=>calc rB f ns vs
theorem zD(f:Str)(y:V):∀(ns:χ)(vs:qak),ns.length=87->jn f y (ns.zip vs)=(GD f ns).zip (pS f y ns vs)/\(GD f ns).length=(pS f y ns vs).length
 |[],[],_=>#[9,9]
 |[],v::vs,h=>by simp at h
 |n::ns,[],h=>by simp at h
 |n::ns,v::vs,h=>by let ih:=zD f y ns vs (by simpa using h);change (if n=f then (n,y)::ns.zip vs else (n,v)::jn f y (ns.zip vs))=_/\_;unfold GD pS;by_cases e:n=f;rw[ι e,ι e,ι e];calc#[9,by simpa using h];rw[θ e,θ e,θ e,ih.1];calc#[9,by simp[ih.2]]
section
variable{A:zm}{f:Str}
theorem zE:∀{ns:χ}{ts:Λ}{vs:qak}{t:T},aD K H A ts vs->rA f ns ts\t->∃v,rA f ns vs\v/\At K H A t v
 |[],ts,vs,t,_,e=>by cases ts<;>cases e
 |n::ns,[],vs,t,_,e=>by cases e
 |n::ns,t0::ts,vs,t,h,e=>by
  let(v,r,rfl,h1,h2):=h;unfold rA at e ⊢;cases q:f==n with
  |true=>rw[q] at e;cases e;calc#[v,9,h1]
  |false=>rw[q] at e;calc zE h2 e
theorem Er:∀{ns:χ}{ts:Λ}{vs:qak}{t:T}{v:V},aD K H A ts vs->At K H A t v->aD K H A (pS f t ns ts) (pS f v ns vs)
 |[],ts,vs,t,v,_,q=>by
  let e1:pS f t [] ts=[t]:=by cases ts<;>rfl
  let e2:pS f v [] vs=[v]:=by cases vs<;>rfl
  rw[e1,e2];calc aD.cons q 451
 |n::ns,[],vs,t,v,h,q=>by subst h;calc aD.cons q 451
 |n::ns,t0::ts,vs,t,v,h,q=>by let(v0,r,rfl,h1,h2):=h;unfold pS;by_cases e:n=f;rw[ι e,ι e];calc aD.cons q h2;rw[θ e,θ e];calc aD.cons h1 (Er h2 q)
end
section
variable{f:Str}{pos:Pos}
def adA(C:Addr)(f:Str)(fe:FE):FP:=λρ Q=>fe ρ λt=>match t with
 |.ins C' ns ts=>C'=C/\∃u,rA f ns ts\u/\Q (.vw u)
 |_=>False
def aQ(cl:Ic X.K C)(na:cN X.K C f)(h:VR X Z e fe)(hb:attributeBase e f 3 (eval e 3)=eval e 3:=by rfl):VP X Z (.Attribute e f pos) (adA C f fe):=.mk λtm=>
 PE.weak (BF 513 hb) λσ H Q #[ρ,O,q,I,hf,k]=>#[ρ,O,_,I,hf,λt ht v H1 s1 a1=>by
  split at ht
  rename_i C' ns ts
  let(rfl,u,e1,hq):=ht;let(a,dx,vs,rfl,hl,hd,hv):=a1.ins;let(w,e2,e3):=zE hv e1;calc#[a,_,dx,_,w,9,hd,cl,na,by rw[rB];calc e2,k _ hq _ H1 s1 #[I.same s1,e3]];calc ht.elim]
def Cd(n:Nat)(C:Addr)(f:Str)(fe:FE):FS:=λd ρ=>match ρ[n]? with
 |some (some (.ins C' ns ts,true))=>C'=C/\fe ρ λv=>25<1000/\d.nx (ρ.set n (some (.ins C' (GD f ns) (pS f v ns ts),true)))
 |_=>False
def fQ(n:Nat)(cl:Ic X.K C)(na:cN X.K C f)(he:VE X Z e fe)(hN:X.N[n]?\x:=by rfl)(hv:nI 39 x:=by first|calc Or.inl rfl|calc Or.inr 7|calc Or.inr 95)(hd:gD x:=by decide)(fL:qt x:=by decide)(hs:swapsWith e (some (.Attribute 31 f eA)) pos.line 3=pure false:=by rfl) :
  VS X Z (.Assign [.Attribute 31 f eA] e pos) (Cd n C f fe):=.mk λtm=>
 PS.weak (UI 123 (he tm) hs) λD σ H #[ρ,O,d,I,q,F]=>by
  unfold Cd at q;split at q
  rename_i C' ns ts e0
  let(rfl,q):=q;let(l,h1,h2,dx,xs,hl,h3,h4):=I.root e0;let ha:l∈av Z O:=hX _ 540;show#[ρ,O,_,I,q,λt ht v H1 s1 a1=>#[.ref l,h2,l,_,dx,_,9,s1 _ _ h3,cl,na,?_,?_]];rw[NI,hl,RZ,h4.length];calc ht.1;let pz:=zD f v ns xs hl;rw[pz.1];calc F.nx O _ σ _ ((I.same s1).wrote (t':=.ins _ (GD f ns) (pS f t ns ts)) e0 h1 #[dx,pS f v ns xs,pz.2,aK,aD.wrote ha (s1 _ _ h3) 9 (Er (h4.same s1) a1)]) ht.2;calc q.elim
def V0(K:qaf)(C:Addr)(n:Nat)(G:Λ->(T->Prop)->Prop):Sp:=BX K (true::List.replicate n false) λts q=>match ts with
 |.ins C' [] []::us=>C'=C/\G us λu=>q [u] (.vw .bY)
 |_=>False
def adB(n:Nat)(g:FA)(G:Λ->(T->Prop)->Prop):FP:=λρ Q=>g ρ λts=>25=n/\G ts λu=>Q (.fr u)
def Es{G:Λ->(T->Prop)->Prop}{tm:qab}{ts:Λ}{q:qam}{Q:VK}(I:aB X.K Z tm O ρ σ H)(a:aD X.K H 242 ts vs)(hn:25=n)(hG:G ts λu=>q (.fr u))(k:∀r,q r->∀v H',aW H H'->h9 X.K Z tm O ρ σ H' r v->Q v H'):∀x dx,H x=none->H dx=none->dx≠x->V0 X.K C n G (.ref x::(vs++[])) (upd (upd H dx (.own x)) x (.ins C dx [])) (λv H2=>v=.bY/\Q (.ref x) H2) E0:=by
 intro x dx hx hdx fY;rw[HX];let(n1,n2,n3):=I.fresh hx;let s0:aW H (upd (upd H dx (.own x)) x (.ins C dx [])):=λb o e=>by rw[aG (bL e hx),aG (bL e hdx)];exact e
 let a1:=(a.more λb hb=>by
  rcases fO.mp hb with z|z
  calc .inr (by rw[fE.mp z];calc hx);calc .inl z).same s0
 show#[.ins C [] []::ts,[x],av Z O,λus r=>r=.vw .bY/\∃u,us=[u]/\q (.fr u),by simp,λb hb=>by rw[fE.mp hb];calc n1,λb hb=>?_,#[x,[],_,ts,vs,9,9,9,#[dx,[],9,aK,451],iL hn a1],#[9,?_],λus r hr v H' fr z=>?_];cases e:H b with
 |none=>calc absurd e (I.OT b hb)
 |some o=>rw[s0 _ _ e];simp
 let w:(λu=>q (.fr u))=λu=>((.vw .bY:Rt)=.vw .bY/\∃u',[u]=[u']/\q (.fr u')):=by funext u;exact propext #[λh=>#[rfl,u,rfl,h],λ#[_,u',e,h]=>by cases e;calc h]
 rw[<- w];calc hG;let(rfl,u,rfl,hq):=hr;let(z1,z2):=z;show#[z1,?_];cases z2 with
 |cons r _=>
  let s:=λb o e=>fr b o (s0 b o e) (by rw[fE];calc bL e hx);let(o,eo,_):=r.mut;show k _ hq _ H' s #[x,9,I.Su hx s eo,r.bC λc hc=>?_,n3,n2];rcases dG c hc with z|z
  calc jY _ z;rw[z];calc hX _ iz
def wU{kk:Nat}{G:Λ->(T->Prop)->Prop}{fI:Addr}(M:Mk X.K C fI)(F:eD 33 X.w X.K X.mg X.base iA kk fI fd ps (V0 X.K C n G))(hr:bH (kk+1) X.A)(hg:Gl X x)(hm:X.mg x\.ref C)(hb:Binds X.K fd ps [])(ha:VA X Z (e::es) g)(tZ:gD x:=by decide)(he:starEach (e::es) 3=(false,eval e 3)::starEach es 3:=by rfl)(j1:(backTo pos 90).any (·.1)=false:=by rfl) :
  VP X Z (.Call 31 (e::es) [] pos) (adB n g G):=.mk λtm=>PE.weak (DN M F hr hg hm hb .nil oW 503 tZ he j1) λσ H Q #[ρ,O,q,I,hf,k] =>
 #[ρ,O,_,I,hf,λts hW vs H1 s1 a1=>Es (I.same s1) a1 hW.1 hW.2 λr hr v H' s z=>k r hr v H' (s1.trans s) z]
end
structure Dc(K:qaf)(mg:qae)(cls qual:Str)(st:Stmt)(ps:χ)(C f:Addr)(fd:FuncData):Prop where
 F:Ih K "__init__" qual st f fd
 m:mg cls\.ref C
 b:Binds K fd ps []
 M:Mk K C f
def zF(P:Program)(w:World)(K:qaf)(mg:qae)(base:Heap)(cls:Str)(C:Addr)(ps:χ)(k n:Nat)(G:Λ->(T->Prop)->Prop):Prop :=
 ∃f fd,Mk K C f/\mg cls\.ref C/\Binds K fd ps []/\eD P w K mg base iA k f fd ps (V0 K C n G)
section
def Dc.fj{cls:Str}{st:Stmt}{k:Nat}{G:Λ->(T->Prop)->Prop}(D:Dc K mg cls qual st ps C f fd)(F:eD P w K mg base iA k f fd ps (V0 K C n G)):zF P w K mg base cls C ps k n G :=
 #[f,fd,D.M,D.m,D.b,F]
def fnI{st:Stmt}{N:χ}{k:Nat}{G:Λ->(T->Prop)->Prop}(F:Ih K x qual st f fd)(S:az N ps 455)(hn:n+1=471)(fG:∀(bM:Value) (A:Around) (outer:List Env) (s:Shared) (H:Hp) (E:XK) (as Ox:zm),bH k 44->∀(us:Λ) (q:Λ->qam),517=n->G us (λu=>q [u] (.vw .bY)) ->
    ∃g,kx (hY iA P w K mg base N qual 455 f bM A outer s H E).vN #[H,pz (true::List.replicate n false) as 0,Ox] (bJ st) g /\
     g {nx:=λρ=>q (lu (true::List.replicate n false) ρ) (.vw .bY),rt:=λρ r=>q (lu (true::List.replicate n false) ρ) r} (some (.ins C [] [],true)::wc (List.replicate n false) us++List.replicate (N.length-(517+1)) none)) :
  eD P w K mg base iA 93 f fd ps (V0 K C n G) :=
 fnV F S (by rw[<- hn];simp) λbM A outer s H E as Ox hr ts q hl hG=>by
  cases ts with
  |nil=>calc hG.elim
  |cons t us=>cases t with
    |ins C' ns vs=>cases ns with
      |nil=>cases vs with
        |nil=>let(e,hG'):=hG;subst e;calc fG bM A outer s H E as Ox hr us q (by simpa using hl) hG'
        |cons _ _=>calc hG.elim
      |cons _ _=>calc hG.elim
    |_=>calc hG.elim
end
def Et(a d:Addr):HO:=.ext λh=>h.get? a=some {cls:=.type "dict_values",data:=.fields ([.ref d].toArray)}
theorem zG(val:Nat->Int):∀k,∃j≤k,argBest (λi j=>decide (val i<val j)) k=j/\∀i≤k,val j<=val i
 |0=>#[0,cM _,9,λi hi=>by rw[Nat.le_zero.mp hi];calc Int.le_refl _]
 |k+1=>by
  let(j,hj,e,h):=zG val k;unfold argBest;rw[e];by_cases q:val 93<val j;rw[ι (ο q)];show#[k+1,cM _,9,λi hi=>?_];rcases Nat.lt_or_eq_of_le hi with l|l
  calc Int.le_trans (Int.le_of_lt q) (h i (Nat.le_of_lt_succ l));rw[l];calc Int.le_refl _;rw[θ (by rw[aar];calc q)];show#[j,Nat.le_succ_of_le hj,9,λi hi=>?_];rcases Nat.lt_or_eq_of_le hi with l|l
  calc h i (Nat.le_of_lt_succ l);rw[l];calc Int.not_lt.mp q
section
def GF:Sb X "dict.values" (λx xs H Q=>∃(d:Addr)(bj:List (Key×V)),x=.ref d/\xs=[]/\H d\.dK bj/\∀a,H a=none->Q 110 (upd H a (Et a d))):=by intro ε s σ H x xs v us Q I rx rs h;let(d,bj,rfl,rfl,hd,q):=h;cases rx;cases rs;let(z,hs,vs,rel,dd):=Em I.bZ hd;show aaG PySem.F.slot_dict_values dd.typeIs PySem.F.entry_dict_values (PySem.F.args_dict_values_1 _) (meets_dict_values (bN 33 X.w) d hs) #[#[vs,dd],#[.ref 8,_,I.laid (λb o e=>dF _ e) 82 ?_,9,q _ I.fresh]];calc#[gP _ 9,#[_,gP _ 9],λh1 h2 z k=>k _ z]
def wV(hc:X.calm=true):dh X (.builtin "min") (λxs H Q=>∃(a d:Addr)(bj:List (Key×V))(is:qan),xs=[.ref a]/\H a\Et a d/\H d\.dK bj/\bj.map (·.2)=is.map V.int/\is≠[]/\∀m,m∈is->(∀i∈is,m<=i)->Q (.int m) H):=by
 intro ε s σ H xs us Q I r h;let(a,d,bj,is,rfl,ha,hd,hv,fY,q):=h;let(u,rfl,ru):=vals1 r;cases ru;let(z,hs,vs,rel,dd):=Em I.bZ hd;let(hA,_,_):=(show cb 33 X.w H 69 a (Et a d) from I.bZ a _ ha);let(ep,da):=dd.dictAt;let hh:X.A.in1.handled=none:=by simp[I.ok.hd hc]
 let hlen:vs.length=is.length:=by have:=aaa List.length hv;rw[bS,bS] at this;rw[<- rel.length];exact this
 let PY:∀(i:Nat) v,(∃k,vs[i]?\(k,v))->∃t,v=.int (is.getD i 0) t:=by
  intro i v #[k,e];let hi:=(c7.mp e).1;let hi2:i<bj.length:=by rw[rel.length];exact hi
  let e1:bj[i]?\bj[i]:=by simp[hi2]
  let key:∀{l₁:List (Key×V)}{l₂:List (Key×Value)}{i:Nat}{p:Key×V}{q:Key×Value},KV l₁ l₂->l₁[i]?\p->l₂[i]?\q->RelV p.2 q.2:=by
   intro l₁ l₂ i p q h;induction h generalizing i with
   |nil=>intro e;simp at e
   |cons r t ih=>
    intro e e';cases i with
    |zero=>simp at e e';subst e;subst e';calc r.2
    |succ i=>exact ih (by simpa using e) (by simpa using e')
  let rr:=key rel e1 e;let e2:(bj.map (·.2))[i]?\bj[i].2:=by rw[fW,e1];rfl
  rw[hv,fW] at e2;cases q2:is[i]? with
  |none=>rw[q2] at e2;cases e2
  |some m=>rw[q2] at e2;let e3:=(Option.some.inj e2).symm;rw[e3] at rr;let(t,et):=rr;exact#[t,by rw[vI,q2];calc et]
 let V1:0<vs.length:=by rw[hlen];exact X5.mpr fY
 show call_min_walk (wpAny_pyIter_values #[_,hA,9,9] da #[_,_,_,_,_,_,_,9,Walks.dictValues hh _ d (hU da.lt_size) vs ep,#[#[_,gP _ 9,9,9],da.push _],λb hb=>?_,V1,CmpOf.ints_lt (λi=>is.getD i 0) PY,λv h' tk hP hk=>?_]);rw[uH];rcases dQ.mp hb with rfl|hb
 calc qx _;rw[fE.mp hb];calc Be da.lt_size;let(j,hj,e,hm):=zG (λi=>is.getD i 0) (87-1);rw[e] at hP;let(t,rfl):=PY j v hP;let PZ:j<is.length:=by lia
 show#[.int (is.getD j 0),H,I.kept λb u eb=>hk b u (λz=>?_) (dF _ eb),#[t,9],q _ ?_ λi hi=>?_];rw[fE.mp z] at eb;calc absurd (eR eb) (Fu _);rw[vI,eY PZ];calc Ft PZ;let(n,hn):=TY.mp hi;let hnl:=(c7.mp hn).1;have:=hm n ();let e5:is.getD n 0=i:=by rw[vI,hn];rfl
 rw[e5] at this;calc this
end
section
variable{a:Expr}{p1 ue kz:Pos}
def adC(fa:FE):FP:=λρ Q=>fa ρ λx=>match x with
 |.dk ks ts=>∃is,ts=is.map T.int/\is≠[]/\∀m,m∈is->(∀i∈is,m<=i)->Q (.vw (.int m))
 |_=>False
def Ce(hc:X.calm=true)(hgl:Gl X "min")(Bh:X.mg "min"=none)(ha:VR X Z a fa)(du:attributeBase a "values" 3 (eval a 3)=eval a 3:=by rfl)(dw:(508==kz.line)=true:=by rfl)(he:starEach [.Call (.Attribute a "values" apos) [] [] kz] 3=(false,eval (.Call (.Attribute a "values" apos) [] [] kz) 3)::starEach [] 3:=by rfl)(j1:(backTo ue 460).any (·.1)=false:=by rfl) :
  VP X Z (.Call (.Name "min" p1) [.Call (.Attribute a "values" apos) [] [] kz] [] ue) (adC fa):=.mk λtm=>
 PE.weak (jo (wV hc) hgl Bh ac7 (bD (BP YI PySem.F.slot_dict_values PySem.F.type_dict_values GF 503 du dw) cV he) 15 15 he j1) λσ H Q #[ρ,O,q,I,hf,k] =>
  #[ρ,O,_,I,hf,λx hx v H1 s1 a1=>by
    split at hx
    rename_i ks ts
    let(is,rfl,fY,hq):=hx;let(d,vs,rfl,hl,hd,hv):=a1.dk;show#[.inr (.inr (.inl #[9,.inl #[_,hd]])),d,_,9,9,hd,λb hb=>?_];let sb:aW H1 (upd H1 b (Et b d)):=aI hb;let ev:vs=is.map V.int:=by
     clear hq fY hl hd a1;induction is generalizing vs with
     |nil=>simpa only[Yb,aD] using hv
     |cons i is ih=>let(v,r,rfl,rfl,h2):=hv;rw[ih r h2];rfl
    subst ev;show#[b,d,_,is,9,aK,sb _ _ hd,?_,fY,λm h1 h2=>k _ (hq m h1 h2) _ _ (s1.trans sb) #[(I.same s1).same sb,bw]];rw[List.map_snd_zip];rw[hl];calc cM _;calc hx.elim]
end
end VT
namespace Lay
open PySem L2 VT Gen K5
def Yp(l:List (Str×Nat)):T:=.dk (l.map λp=>(Sum.inr p.1:Key)) (l.map λp=>T.int (p.2:Int))
def Cf(l:List (Str×Nat))(f:Str):g6 (l.map λp=>(Sum.inr p.1:Key)) (l.map λp=>T.int (p.2:Int)) (Sum.inr f)=(wG l f).map λi=>T.int (i:Int):=by
 induction l with
 |nil=>rfl
 |cons p l ih=>let(k,i):=p;erw[kn,g6,wG];by_cases h:k=f;rw[ι h,ι (by rw[h])];rfl;rw[θ h,θ (λz=>h (Sum.inr.inj z))];calc ih
theorem rC(rs:F2):∀n,(bf rs n).length<=n
 |0=>cM _
 |n+1=>by
  have:=rC rs n;erw[bf];split
  rename_i r _
  cases r<;>erw[NO]<;>first
   |lia
   | (split<;>simp<;>lia)
  lia
def adD:Rw->Bool
 |.df _ _=>true
 |_=>false
def il(rs:F2):Option Nat:=rs.findIdx? adD
theorem vd(rs:F2):∀n,∀p∈bf rs n,p.2<n/\∃ps,rs[p.2]?\.df p.1 ps
 |0,p,h=>nomatch h
 |n+1,p,h=>by
  let old:p∈bf rs n->p.2<n+1/\∃ps,rs[p.2]?\.df p.1 ps:=λh=>by have:=vd rs n p h;exact#[(),this.2]
  erw[bf] at h;split at h
  rename_i r hr
  cases r with
  |df g ps=>
   erw[NO] at h;split at h;calc old h;rcases fO.mp h with z|z
   calc old z;rw[fE] at z;subst z;calc#[qx _,ps,hr]
  |_=>exact old h
  calc old h
theorem gM{rs:F2}{i:Nat}(h:∀j,j<i->∀f ps,rs[j]?≠some (.df f ps)):∀n≤i,bf rs n=[]
 |0,_=>rfl
 |n+1,hn=>by
  erw[bf];split
  rename_i r hr
  rw[gM h n ()];cases r with
  |df g ps=>calc absurd hr (h n () g ps)
  |_=>rfl
  calc gM h n ()
theorem jC{rs:F2}{i:Nat}{g:Str}{ps:χ}(hi:rs[i]?\.df g ps)(h:∀j,j<i->∀f ps,rs[j]?≠some (.df f ps)):∀n,i<n->∃l,bf rs n=(g,i)::l
 |0,hn=>absurd hn (Nat.not_lt_zero _)
 |n+1,hn=>by
  by_cases e:i=n;subst e;show#[[],?_];erw[bf,hi,NO];rw[gM h i 82];rfl;let(l,hl):=jC hi h n ();erw[bf];rw[hl];split
  rename_i r _
  cases r with
  |df f qs=>erw[NO];split;calc#[l,9];calc#[l++[(f,n)],9]
  |_=>exact#[l,9]
  calc#[l,9]
def P0(h:adD r=true):∃f ps,r=.df f ps:=by
 cases r with
 |df f ps=>calc#[f,ps,9]
 |_=>cases h
def vf(h:il rs\i):(∃f ps,rs[i]?\.df f ps)/\∀j,j<i->∀f ps,rs[j]?≠some (.df f ps):=by unfold il at h;rw[List.findIdx?_eq_some_iff_getElem] at h;let(hl,h1,h2):=h;let(f,ps,e):=P0 h1;show#[#[f,ps,by rw[eY hl,e]],λj hj f ps e=>?_];let(PZ,ej):=c7.mp e;have:=h2 j hj;rw[ej] at this;calc this 9
def GG(h:il rs=none):∀(j:Nat) f ps,rs[j]?≠some (Rw.df f ps):=by unfold il at h;rw[List.findIdx?_eq_none_iff] at h;intro j f ps e;have:=h _ (fM e);cases this
def Cg(h:il rs=none):bf rs 5=[]:=gM (λj _=>GG h j) _ 82
def KD{m:Int}(h1:m∈(bf rs 5).map λp=>(p.2:Int))(h2:∀i∈(bf rs 5).map λp=>(p.2:Int),m<=i):T.int m=oT (il rs):=by
 cases e:il rs with
 |none=>rw[Cg e] at h1;cases h1
 |some i=>
  let((g,ps,hi),hm):=vf e;let(l,hl):=jC hi hm 5 (c7.mp hi).1;let(p,hp,rfl):=k5.mp h1;let(_,qs,hq):=vd rs _ p hp;let le1:=h2 _ (k5.mpr #[(g,i),by rw[hl];calc iz,9]);let le2:¬ p.2<i:=λz=>hm _ z _ _ hq;have:p.2=i:=by lia
  rw[this];rfl
def KG(rs:F2):Λ:=(List.range 5).map λi=>oT (gF 23 i)
def Eu(rs:F2):Λ:=(List.range 5).map λi=>oT (endsAt 23 5 i)
def V2(rs:F2):Λ:=yq 23 5 5
def zH(rs:F2):Λ:=(List.range 5).map λi=>oT (gG 23 i)
def KH(rs:F2):Ko rs=[.lst (KG rs),.lst (Eu rs),.lst (V2 rs),.lst (zH rs)]:=rfl
def c5(C:Addr)(rs:F2):T:=.ins C ["program","heads","ends","elses","homes","defs","main"] [.lst 86,.lst (KG rs),.lst (Eu rs),.lst (V2 rs),.lst (zH rs),Yp (bf rs 5),oT (il rs)]
section
def dc(h:rs[i]?\r):h7 86 (i:Int)\aZ r:=ai (by rw[fW,h];rfl)
def wW(h:i<5):h7 (KG rs) (i:Int)\oT (gF 23 i):=ai (by unfold KG;rw[fW,RP h];rfl)
def qh(h:i<5):h7 (Eu rs) (i:Int)\oT (endsAt 23 5 i):=ai (by unfold Eu;rw[fW,RP h];rfl)
def lC(h:i<5):h7 (zH rs) (i:Int)\oT (gG 23 i):=ai (by unfold zH;rw[fW,RP h];rfl)
end
def top(i:Nat):Stmt:=PySem.Challenge.pw_slicewise_k44_slices_of_several_sets.main.body.getD i (.Pass #[0,0,0,0])
abbrev iQ:Stmt:=top 21
structure MgF(mg:qae):Prop where
 enumerate:mg "enumerate"=none
def KI(ts:Λ)(q:qam):Prop:=∃rs:F2,ts=[.lst 86]/\5<=100/\q (.fr (Yp (bf rs 5)))
section
abbrev wX:χ:=["program","firsts","place","row"]
def kN:az wX qav (ar iQ):=457
def uf(D:Df K mg "first_defs" iQ qav f fd)(M:MgF mg):bP P w K mg base "first_defs" qav 1 (bQ K 1 KI):=by
 show D.fj (gf D.F kN 9 λbM A outer s H E Ox hr ts q hG=>?_);let nd:=kN.nd;let hu:=bH.dW hr;let np:∀{i:Nat},aY #[H,[],Ox] i:=gW;show#[_,(af (cP (i:=1) nd 9 7 (Ψ PR) np)
  (af (cQ nH 9 (gK 19 M.enumerate 489) (e_ (n:=2) 9 (bq (aM (i:=2) nd 9 7 np) (bq (aM (i:=03) nd 9 7 np) dI)))
   (aq (bb 99
    (aq (bA (PX 1 79 514)))
    aE)))
  (aq (aA (eF 1 np))))),λ_=>?_]
 let(rs,rfl,hn,hq):=hG;show j8 (λi ρ=>∃b2 b3,ρ=[some (.lst 86,false),some (Yp (bf rs i),true),b2,b3]) #[_,_,9] ?_ ?_;rintro i r ρ hr ⟨b2,b3,rfl⟩;let hi:=(c7.mp hr).1;let hlen:((bf rs i).map λp=>T.int (p.2:Int)).length<16777216:=by rw[bS];have:=rC rs i;lia
 let es:bf rs (i+1)=NO (bf rs i) i r:=by erw[bf,hr]
 cases r with
 |df g ps=>
  show#[9,9,_,aaU,?_];show#[_,aaV,hlen,?_];rw[es];erw[NO];rw[Cf];cases ha:wG (bf rs i) g with
  |some j=>calc#[_,_,9]
  |none=>
   change ∃b2 b3,_=[_,some (Yp (bf rs i++[(g,i)]),true),b2,b3];let ef:Yp (bf rs i++[(g,i)])=.dk (((bf rs i).map λp=>(Sum.inr p.1:Key))++[Sum.inr g]) (((bf rs i).map λp=>T.int (p.2:Int))++[T.int (i:Int)]):=by erw[Yp,nG,kn,Yb]
   rw[ef];calc#[_,_,9]
 |_=>show#[9,9,_,aaU,?_];rw[es];exact#[_,_,9]
 rintro ρ ⟨b2,b3,rfl⟩;calc hq
end
end Lay
namespace K5V
open PySem L2 VT Gen K5
def top(i:Nat):Stmt:=PySem.Challenge.pw_slicewise_k44_slices_of_several_sets.main.body.getD i (.Pass #[0,0,0,0])
abbrev mP:Stmt:=top 022
structure Mg5(K:qaf)(mg:qae):Prop where
 len:mg "len"=none
 range:mg "range"=none
 enumerate:mg "enumerate"=none
 isinstance:mg "isinstance"=none
 int:mg "int"=none
 bool:mg "bool"=none
 tuple:mg "tuple"=none
 list:mg "list"=none
 zip:mg "zip"=none
 CL:∃a,mg "CLOSERS"\.ref a/\∀H,eZ K H a [.str "give",.str "end"]
 OP:∃a,mg "OPENERS"\.ref a/\∀H,eZ K H a [.str "def",.str "if",.str "while"]
def KJ(ts:Λ)(q:Λ->Prop):Prop:=∃rs:F2,ts=[.lst 86]/\Gv rs/\5<=100/\q (Ko rs)
def qH{l:Λ}{t:T}(h:l.getLast?\t):h7 l (-1)\t:=by
 let hl:0<l.length:=by cases l<;>simp_all
 rw[Fp] at h;unfold h7 vQ;rw[θ 15,ι ()];let e:(-1+(l.length:Int)).toNat=l.length-1:=by lia
 rw[e];calc h
theorem KL(kd:Nat->Kd):∀k,(st kd k).length<=k
 |0=>cM _
 |k+1=>by have:=KL kd k;erw[st];split<;>split<;>simp<;>lia
def P4(n:Nat)(t:T):(List.replicate n [t]).flatten=List.replicate n t:=by
 induction n with
 |zero=>rfl
 |succ n ih=>rw[HW,X7,ih];rfl
def KN(rs:F2)(h e l o s:Λ)(k:Nat)(r:Rw):En:=[aP 453,some (.lst h,true),some (.lst e,true),some (.lst l,true),some (.lst o,true),some (.lst s,true),aP (.int (k:Int)),aP (aZ r)]
def wY(rs:F2)(k:Nat):Λ:=(st 23 k).map λ(j:Nat)=>T.int (j:Int)
def adE(rs:F2)(k:Nat)(ρ:En):Prop:=∃b6 b7 h e l o s,ρ=[aP 453,some (.lst h,true),some (.lst e,true),some (.lst l,true),some (.lst o,true),some (.lst s,true),b6,b7]/\h=tab (gF 23) 5 k/\e=f7 494 5 k/\l=yq 23 5 k/\o=tab (gG 23) 5 k/\s=wY rs k
def GH(rs:F2)(M:Nat->Rw->Λ->Λ->Λ->Λ->Λ->Prop):FS:=λd ρ=>∃k r h e l o s,rs[k]?\r/\ρ=KN rs h e l o s k r/\h=tab (gF 23) 5 93/\M k r h e l o s/\∀ρ',adE rs 93 ρ'->d.nx ρ'
def M1(rs:F2)(k:Nat)(r:Rw)(h e l o s:Λ):Prop:=e=f7 494 5 k/\l=yq 23 5 k/\s=wY rs k/\o.length=5/\((a_ r).df=true->o.set k (.int (k:Int))=tab (gG 23) 5 93)/\((a_ r).df=false->o=tab (gG 23) 5 93)
def M2(rs:F2)(k:Nat)(r:Rw)(h e l o s:Λ):Prop:=e=f7 494 5 k/\l=yq 23 5 k/\s=wY rs k/\o=tab (gG 23) 5 93
def M3(rs:F2)(k:Nat)(r:Rw)(h e l o s:Λ):Prop:=e=f7 494 5 k/\l=yq 23 5 93/\s=wY rs k/\o=tab (gG 23) 5 93
def M4(rs:F2)(k:Nat)(r:Rw)(h e l o s:Λ):Prop:=e=f7 494 5 93/\l=yq 23 5 93/\o=tab (gG 23) 5 93/\s=(if (a_ r).cl=true then (wY rs k).dropLast else wY rs k)
def rD{k:Nat}(h:k<n):vQ n (k:Int)\k:=by unfold vQ;rw[ι (),ι (),i9]
def wZ{k:Nat}(h:st 23 k≠[]):∃j,(st 23 k).getLast?\j/\h7 (wY rs k) (-1)\.int (j:Int):=by obtain⟨j,hj⟩:∃j,(st (bh rs) k).getLast?\j:=#[_,List.getLast?_eq_some_getLast h];calc#[j,hj,qH (by unfold wY;rw[List.getLast?_map,hj];rfl)]
section
abbrev w6:χ:=["program","heads","ends","elses","homes","opened","place","row"]
def zI:az w6 qav (ar mP):=457
def KO(D:Df K mg "shape" mP qav f fd)(M:Mg5 K mg):bP P w K mg base "shape" qav 1 (VB K 1 KJ):=by
 show D.fj (fnD D.F zI 9 15 λbM A outer s H E Ox hr ts q hG=>?_);let nd:=zI.nd;let hu:=bH.dW hr;let np:∀{i:Nat},aY #[H,[],Ox] i:=gW;let(ac,mc,V3):=M.CL;let(ao,mo,hao):=M.OP;let GJ:∀{pos},VP (hY iA P w K mg base w6 "shape" (ar mP) f bM A outer s H E).vN #[H,[],Ox] (.Name "CLOSERS" pos) (fC (.tup [.str "give",.str "end"])):=iI 19 mc (v:=.ref ac) 9 λH A=>cj (V3 H) 488;let GK:∀{pos},VP (hY iA P w K mg base w6 "shape" (ar mP) f bM A outer s H E).vN #[H,[],Ox] (.Name "OPENERS" pos) (fC (.tup [.str "def",.str "if",.str "while"])):=iI 19 mo (v:=.ref ao) 9 λH A=>cj (hao H) (aD.cons cO 488);let(rs,rfl,W,hn,hq):=hG;show#[_,(gr (cP (i:=1) nd 9 7 (Ψ (q9 (bK (aa (ω gR) ak)) 22)) np)
  (gr (cP (i:=2) nd 9 7 (Ψ (q9 (bK (aa (ω gR) ak)) 22)) np)
  (gr (cP (i:=03) nd 9 7 (Ψ (q9 (bK (aa (ω gR) ak)) 22)) np)
  (gr (cP (i:=04) nd 9 7 (Ψ (q9 (bK (aa (ω gR) ak)) 22)) np)
  (gr (cP (i:=05) nd 9 7 497 np)
  (gr (cQ nH 9 (gK 19 M.enumerate 489) (e_ (n:=2) 9 (bq (aM (i:=06) nd 9 7 np) (bq (aM (i:=07) nd 9 7 np) dI)))
   (af (bb (yV 448 4)
    (af (gk 1 (ω (ay (ae 05) (ν (qT 4)))) (ae 06))
    (aq (gk 04 (ω (ay (ae 05) 4)) (ae 06))))
    aE)
   (kx.weak (u:=(GH rs (M1 rs))) (af (bb (bG hu (ν (ay (ae 07) 4)) 502)
    (aq (gk 04 (ah 06) (ae 06)))
    aE)
   (kx.weak (u:=(GH rs (M2 rs))) (af (bb (bG hu (ν (ay (ae 07) 4)) 502)
    (aq (gk 03 (ah 06) (ν (ay (ae 05) (ν (qT 4))))))
    aE)
   (kx.weak (u:=(GH rs (M3 rs))) (af (bb (uU (ν (ay (ae 07) 4)) (ν GJ))
    (af (gk 2 (ah 06) (ν (ay (ae 05) (ν (qT 4)))))
    (aq (bA (v_ 05 acz acA vX p_))))
    aE)
   (kx.weak (u:=(GH rs (M4 rs))) (aq (bb (uU (ν (ay (ae 07) 4)) (ν GK))
    (aq (bA (dy 05 qu qv bo ba (aa (ah 06) ak))))
    aE)) ?w4)) ?w3)) ?w2)) ?w1)))
  (PK (is:=[1,2,03,04]) 9 #[_,_,1,_,9,9,9,Or.inl 9,by decide,by decide,9,#[_,_,2,_,9,9,9,Or.inl 9,by decide,by decide,9,#[_,_,03,_,9,9,9,Or.inl 9,by decide,by decide,9,#[_,_,04,_,9,9,9,Or.inl 9,by decide,by decide,9,9]]]] 15 15))))))),λ_=>?main]
 case w4=>
  rintro d ρ ⟨k,r,h,e,l,o,s,bV,rfl,rfl,⟨rfl,rfl,rfl,rfl⟩,fin⟩;let Ew:k<rs.length:=(c7.mp bV).1;let o5:=c_ bV;let(rl,er):=gh r;unfold KN;rw[er];show#[_,aaU,9,9,?_];show F5 (λh1=>?_) (λh1=>?_);let ho:(a_ r).op=true:=by rw[<- ads];exact h1
  let hc:(a_ r).cl=false:=by have:=W.ex k Ew (by rw[o5];calc ho);rw[o5] at this;exact this
  rw[hc,θ iC];show#[?_,fin _ #[_,_,_,_,_,_,_,9,9,9,9,9,?_]];have:=KL 23 k;unfold wY;rw[bS,π]
  lia
  unfold wY;rw[jb (by rw[o5];calc ho) (by rw[o5];calc hc),nG];rfl;let ho:(a_ r).op=false:=by
   cases q:(a_ r).op with
   |false=>rfl
   |true=>exact (h1 ((ads r).trans q)).elim
  show fin _ #[_,_,_,_,_,_,_,9,9,9,9,9,?_];unfold wY;by_cases hc:(a_ r).cl=true;rw[ι hc,jy (by rw[o5];calc hc) (by rw[o5];calc ho),List.map_dropLast];rw[θ hc,fZ (by rw[o5];cases q:(a_ r).cl<;>simp_all) (by rw[o5];calc ho)]
 case w3=>
  rintro d ρ ⟨k,r,h,e,l,o,s,bV,rfl,rfl,⟨rfl,rfl,rfl,rfl⟩,fin⟩;let Ew:k<rs.length:=(c7.mp bV).1;let o5:=c_ bV;let(rl,er):=gh r;unfold KN;rw[er];show#[_,aaU,9,9,?_];show F5 (λh1=>?_) (λh1=>?_);let hc:(a_ r).cl=true:=by rw[<- adq];exact h1
  let tX:(bh rs k).cl=true:=by rw[o5];exact hc
  let(j,hj,ej):=wZ (W.cl k Ew tX);let(te,hjk):=PH W Ew tX hj;show#[_,ej,j,by rw[zj];calc rD (),9,.int (j:Int),?_,k,r,_,_,_,_,_,bV,by rw[<- er];rfl,9,#[?_,9,9,by rw[ι hc]],fin];unfold wY;rw[bS,fW,<- Fp,hj];rfl;show Kn te λi hi he=>?_;have:=(qd W Ew he hi).2;rw[hj] at this;calc (Option.some.inj this).symm;let hc:(a_ r).cl=false:=by
   cases q:(a_ r).cl with
   |false=>rfl
   |true=>exact (h1 ((adq r).trans q)).elim
  show#[k,r,_,_,_,_,_,bV,by rw[<- er];rfl,9,#[Gx λi hi he=>?_,9,9,by rw[hc,θ iC]],fin];have:=(qd W Ew he hi).1;rw[o5,hc] at this;cases this
 case w2=>
  rintro d ρ ⟨k,r,h,e,l,o,s,bV,rfl,rfl,⟨rfl,rfl,rfl,rfl⟩,fin⟩;let Ew:k<rs.length:=(c7.mp bV).1;let o5:=c_ bV;let(rl,er):=gh r;unfold KN;rw[er];show#[_,aaU,?_];show F5 (λh1=>?_) (λh1=>?_);let hc:(a_ r).el=true:=by rw[<- adp];exact h1
  let tX:(bh rs k).el=true:=by rw[o5];exact hc
  let(j,hj,ej):=wZ (W.el k Ew tX);let PZ:j<k:=(ka k).2 j (List.mem_of_getLast? hj);show#[_,ej,j,by rw[qf];calc rD (),k,r,_,_,_,_,_,bV,by rw[<- er];rfl,9,#[9,?_,9,9],fin];erw[yq,gF,tX,hj];let hc:(a_ r).el=false:=by
   cases q:(a_ r).el with
   |false=>rfl
   |true=>exact (h1 ((adp r).trans q)).elim
  show#[k,r,_,_,_,_,_,bV,by rw[<- er];rfl,9,#[9,?_,9,9],fin];erw[yq,o5,hc]
 case w1=>
  rintro d ρ ⟨k,r,h,e,l,o,s,bV,rfl,rfl,⟨rfl,rfl,rfl,ol,o1,o2⟩,fin⟩;let Ew:k<rs.length:=(c7.mp bV).1;let(rl,er):=gh r;unfold KN;rw[er];show#[_,aaU,?_];show F5 (λh1=>?_) (λh1=>?_);calc#[k,by rw[ol];calc rD Ew,k,r,_,_,_,_,_,bV,by rw[<- er];rfl,9,#[9,9,9,o1 (by rw[<- ado];calc h1)],fin];let hc:(a_ r).df=false:=by
   cases q:(a_ r).df with
   |false=>rfl
   |true=>exact (h1 ((ado r).trans q)).elim
  exact#[k,r,_,_,_,_,_,bV,by rw[<- er];rfl,9,#[9,9,9,o2 hc],fin]
 case main=>
  let hlen:((rs.map aZ).length:Int)=(rs.length:Int):=by rw[bS]
  let afV:(List.replicate ((rs.map aZ).length:Int).toNat [T.bY]).flatten=List.replicate rs.length T.bY:=by rw[hlen,i9];exact P4 _ _
  let Ed : -(2 ^ 63)<=((rs.map aZ).length:Int):=by lia
  let JZ:((rs.map aZ).length:Int)<2 ^ 63:=by lia
  let hb3:[T.bY].length * ((rs.map aZ).length:Int).toNat<=sizeLine:=by rw[hlen,i9,π];simp;lia
  show#[Gen.wz 9,Ed,JZ,hb3,Gen.wz 9,Ed,JZ,hb3,Gen.wz 9,Ed,JZ,hb3,Gen.wz 9,Ed,JZ,hb3,Gen.wz 9,?_];change oZ (dR 86) _ _ _ [aP 453,some (.lst (List.replicate ((rs.map aZ).length:Int).toNat [T.bY]).flatten,true),some (.lst (List.replicate ((rs.map aZ).length:Int).toNat [T.bY]).flatten,true),some (.lst (List.replicate ((rs.map aZ).length:Int).toNat [T.bY]).flatten,true),some (.lst (List.replicate ((rs.map aZ).length:Int).toNat [T.bY]).flatten,true),some (.lst [],true),none,none];rw[Kq,afV];show eJ (adE rs)
   #[_,_,_,_,_,_,_,9,(zl _ _).symm,(Gw _ _).symm,9,(zl _ _).symm,9] ?_ ?_
  . rintro k ⟨r,k'⟩ ρ hk ⟨b6,b7,_,_,_,_,_,rfl,rfl,rfl,rfl,rfl,rfl⟩;rw[List.getElem?_zipIdx] at hk;cases bV:rs[k]? with
    |none=>rw[bV] at hk;cases hk
    |some r'=>
    rw[bV] at hk;simp at hk;let(rfl,rfl):=hk;let Ew:k<rs.length:=(c7.mp bV).1;let(rl,er):=gh r';show#[9,9,?_];change Z3 _ _ _ [aP 453,some (.lst (tab (gF 23) 5 k),true),some (.lst (f7 494 5 k),true),some (.lst (yq 23 5 k),true),some (.lst (tab (gG 23) 5 k),true),some (.lst (wY rs k),true),aP (.int (k:Int)),aP (aZ r')];rw[er];let o5:=c_ bV;show cJ (λh1=>?_) (λh1=>?_);let fY:st (bh rs) k≠[]:=λz=>by let JF:((wY rs k).length:Int) > 0:=h1;unfold wY at JF;rw[z] at JF;simp at JF
    let(j,hj,ej):=wZ fY;obtain⟨j0,hj0⟩:∃j0,(st (bh rs) k).head?\j0:=#[_,List.head?_eq_some_head fY];let ej0:h7 (wY rs k) 0\.int (j0:Int):=ai (j:=0) (by unfold wY;rw[fW,<- List.head?_eq_getElem?,hj0];rfl);show#[_,ej,k,by rw[mK];calc rD Ew,_,ej0,k,by rw[mK];calc rD Ew,k,r',_,_,_,_,_,bV,by rw[<- er];rfl,?_,#[9,9,9,by rw[List.length_set,mK],λhd=>?_,λhd=>?_],λρ' h=>h];let e1:T.int (j:Int)=oT (gF (bh rs) k):=by unfold gF;rw[hj];rfl
    rw[e1];calc qe;rw[List.set_set];let e1:T.int (k:Int)=oT (gG (bh rs) k):=by unfold gG;rw[o5,ι hd];rfl
    rw[e1];calc qe;let e1:T.int (j0:Int)=oT (gG (bh rs) k):=by unfold gG;rw[o5,hd,θ iC,hj0];rfl
    rw[e1];calc qe;let fY:st (bh rs) k=[]:=by
     cases q:st (bh rs) k with
     |nil=>rfl
     |cons a b=>exfalso;show h1 ?_;change ((wY rs k).length:Int) > 0;unfold wY;rw[q];simp
    show#[k,r',_,_,_,_,_,bV,by rw[<- er];rfl,zo (by unfold gF;rw[fY];rfl),#[9,9,9,by rw[mK],λhd=>?_,λhd=>?_],λρ' h=>h];let e1:T.int (k:Int)=oT (gG (bh rs) k):=by unfold gG;rw[o5,ι hd];rfl
    rw[e1];calc qe;exact zo (by unfold gG;rw[o5,hd,θ iC,fY];rfl)
  rintro ρ ⟨b6,b7,_,_,_,_,_,rfl,rfl,rfl,rfl,rfl,rfl⟩;rw[List.length_zipIdx,zq,zq,Gy];calc hq;intro j m hj he;unfold endsAt at he;split at he
  rename_i ho
  let(e,h1,h2,h3,_):=end_is W hj ho;rw[h1] at he;cases he;calc h3;cases he
end
end K5V
namespace VT
open PySem PySem.Spec PyProof.Rows L2
end VT
namespace Lay
open PySem L2 VT Gen K5
abbrev jD:Stmt:=inClass (top 024) 0
structure adF(mg:qae):Prop where
 len:mg "len"=none
 min:mg "min"=none
structure ug(K:qaf)(C:Addr):Prop where
 cl:Ic K C
 bt:cN K C "program"
 qi:cN K C "heads"
 n9:cN K C "ends"
 w_:cN K C "elses"
 f9:cN K C "homes"
 rE:cN K C "defs"
 Ci:cN K C "main"
def xa(C:Addr)(ts:Λ)(q:T->Prop):Prop:=∃rs:F2,ts=[.lst 86]/\Gv rs/\5<=100/\q (c5 C rs)
section
abbrev KP:χ:=["self","program","parts"]
def vg:az KP qaw (ar jD):=457
def GL(D:Dc K mg "Layout" "Layout.__init__" jD qaw au f fd)(M:adF mg)(M1:ug K au)(P5:bP P w K mg base "shape" qav 1 (VB K 1 K5V.KJ))(xb:bP P w K mg base "first_defs" qav 1 (bQ K 1 KI)):zF P w K mg base "Layout" au qaw 2 1 (xa au):=by
 let(aeR,adG,P6,P7,P8,P9):=P5;show D.fj (fnI D.F vg 9 λbM A outer s H E as Ox hr us q hl hG=>?_);let nd:=vg.nd;let aj:=M1;show#[_,(af (aJ (i:=2) nd 9 7 (Ψ (VD.vp (Ek P9 42 19 P6 P7 P8 57))) (Ec 15))
  (af (fQ 0 486 aj.bt 171)
  (af (fQ 0 486 aj.qi 477)
  (af (fQ 0 486 aj.n9 477)
  (af (fQ 0 486 aj.w_ 477)
  (af (fQ 0 486 aj.f9 477)
  (af (fQ 0 486 aj.rE (ω (aw xb hr 57)))
  (aq (fQ 0 486 aj.Ci (ω (Jm (yV (ν (aS GC Cc 19 M.len l0 (aO (ν (aQ 486 aj.rE 37)) aX))) 4) (Ce 9 19 M.min (ν (aQ 486 aj.rE 37))) gR))))))))))),?_]
 let(rs,rfl,W,hn,hq):=hG;show#[9,rs,9,W,hn,?_];rw[KH];show#[9,by change 0<1000;decide,?_];show#[9,_,aaU,by change 1<1000;decide,?_];show#[9,_,aaV,by change 2<1000;decide,?_];show#[9,_,aaW,by change 03<1000;decide,?_];show#[9,_,aaX,by change 04<1000;decide,?_];show#[9,9,rs,9,hn,by change 05<1000;decide,?_];show#[9,?_];show#[9,_,9,?_];show cJ (λh=>?_) (λh=>?_);show#[9,_,9,(bf rs 5).map (λp=>(p.2:Int)),?_,?_,λm h1 h2=>?_];rw[yu];rfl;intro z;rw[List.map_eq_nil_iff] at z;rw[z] at h;calc absurd h 15;show#[by change 06<1000;decide,?_];let e:=KD h1 h2;change q [_] _;rw[e];calc hq;show#[by change 06<1000;decide,?_];let z:bf rs rs.length=[]:=by
  cases e:bf rs rs.length with
  |nil=>rfl
  |cons a b=>exfalso;apply h;rw[e];simp
 let e:il rs=none:=by
  cases e:il rs with
  |none=>rfl
  |some i=>let((g,ps,hi),hm):=vf e;let(l,hl):=jC hi hm 5 (c7.mp hi).1;rw[z] at hl;cases hl
 let e2:T.bY=oT (il rs):=by rw[e];rfl
 unfold c5 at hq;rw[<- e2] at hq;calc hq
end
def Ev(rs:F2)(k j:Nat):Prop:=∃k',k'<k/\rs[k']?\.pR/\gF 23 k'\j
structure Al(rs:F2)(k:Nat)(s:χ):Prop where
 len:s.length=(st 23 k).length
 wds:∀i j:Nat,(st 23 k)[i]?\j->∃r,rs[j]?\r/\((¬ Ev rs k j/\s[i]?\wd r)\/(Ev rs k j/\s[i]?\("else":Str)/\wd r="if"))
 bot:∀(i:Nat)(x:Str),s[i]?\x->(x=("def":Str)↔i=0)
def adH(h:wd r="if"):∃a,r=.wC a:=by cases r<;>first|calc#[_,9]|calc absurd h (by change ¬ ((_:Str)="if");erw[wd];decide +kernel)
def V4(h:wd r="def"):∃f ps,r=.df f ps:=by cases r<;>first|calc#[_,_,9]|calc absurd h (by erw[wd];decide +kernel)
def Ev.succ{rs:F2}{k j:Nat}(h:Ev rs k j):Ev rs 93 j:=let #[k',a,b]:=h;#[k',Be a,b]
def xc{k:Nat}(h:rs[k]?≠some .pR):Ev rs 93 j↔Ev rs k j:=by show#[λ#[k',a,b,c]=>?_,Ev.succ];by_cases e:k'=k;subst e;calc absurd b h;calc#[k',(),b,c]
section
def P_{k:Nat}{s:χ}(A:Al rs k s)(hs:st 23 93=st 23 k)(he:rs[k]?≠some .pR):Al rs 93 s :=
 #[by rw[hs];calc A.len,λi j h=>by rw[hs] at h;let(r,h1,h2):=A.wds i j h;calc#[r,h1,by rw[xc he];calc h2],A.bot]
def Ex{k:Nat}{s:χ}(A:Al rs k s)(hs:st 23 93=(st 23 k).dropLast)(he:rs[k]?≠some .pR):Al rs 93 s.dropLast :=
 #[by rw[hs,Bo,Bo,A.len],λi j h=>by
  rw[hs] at h;let hi:=(c7.mp h).1;rw[Bo] at hi;rw[TV,ι hi] at h;let(r,h1,h2):=A.wds i j h;rw[TV,ι (by rw[A.len];calc hi)];exact#[r,h1,by rw[xc he];calc h2],λi x h=>by
  let hi:=(c7.mp h).1;rw[Bo] at hi;rw[TV,ι hi] at h;calc A.bot i x h]
def xf{k:Nat}{s:χ}(W:Gv rs)(hk:k<5)(A:Al rs k s)(hr:rs[k]?\r)(hs:st 23 93=st 23 k++[k])(he:r≠.pR)(hb:wd r=("def":Str)↔s=[]):Al rs 93 (s++[wd r]):=by
 let Qa:rs[k]?≠some .pR:=by rw[hr];intro z;exact he (Option.some.inj z)
 let nev:¬ Ev rs (k+1) k:=λ#[k',a,b,c]=>by
  let hm:=List.mem_of_getLast? c;have:=(ka k').2 k hm
  lia
 show#[by rw[hs,fU,fU,A.len];rfl,λi j h=>?_,λi x h=>?_];rw[hs] at h;by_cases hi:i<(st 23 k).length;rw[pI hi] at h;rw[pI (by rw[A.len];calc hi)];let(r',h1,h2):=A.wds i j h;calc#[r',h1,by rw[xc Qa];calc h2];rw[uF ()] at h;let e:i-(st (bh rs) k).length=0:=by
  cases q:i-(st (bh rs) k).length with
  |zero=>rfl
  |succ m=>rw[q] at h;simp at h
 rw[e] at h;simp at h;subst h;show#[r,hr,.inl #[nev,?_]];rw[uF (by rw[A.len];lia),A.len,e];rfl;by_cases hi:i<s.length;rw[pI hi] at h;calc A.bot i x h;rw[uF ()] at h;let e:i-s.length=0:=by
  cases q:i-s.length with
  |zero=>rfl
  |succ m=>rw[q] at h;simp at h
 rw[e] at h;simp at h;subst h;rw[hb];constructor;rintro rfl;simpa using e;rintro rfl;have:s.length=0:=by lia
 calc NC.mp this
def Qb{k:Nat}{s:χ}(A:Al rs k s)(hr:rs[k]?\.pR)(hl:s.getLast?\("if":Str))(hs:st 23 93=st 23 k):Al rs 93 (s.dropLast++[("else":Str)]):=by
 let fY:s≠[]:=by rintro rfl;cases hl
 let afW:=X5.mpr fY;let N9:s[s.length-1]?\("if":Str):=by rw[<- Fp];exact hl
 show#[by rw[hs,fU,Bo,<- A.len];simp;lia,λi j h=>?_,λi x h=>?_];rw[hs] at h;let hi:i<s.length:=by rw[A.len];exact (c7.mp h).1
 let(r,h1,h2):=A.wds i j h;by_cases e:i=s.length-1;subst e;let hh:gF (bh rs) k\j:=by unfold gF;rw[Fp,<- A.len];exact h
 show#[r,h1,.inr #[#[k,qx _,hr,hh],?_,?_]];rw[uF (by rw[Bo];lia),Bo,Nat.sub_self];rfl;obtain⟨_,h2⟩|⟨_,h2,_⟩:=h2
 rw[N9] at h2;calc (Option.some.inj h2).symm;rw[N9] at h2;calc absurd (Option.some.inj h2) 18;let afX:¬ gF (bh rs) k\j:=λz=>by
  unfold gF at z;rw[Fp,<- A.len] at z;let hw:=(ka (kd:=bh rs) k).1;let(a1,b1):=c7.mp h;let(a2,b2):=c7.mp z;have:=(acf.mp hw) i (s.length-1) a1 a2 ()
  lia
 let hev:Ev rs (k+1) j↔Ev rs k j:=by show#[λ#[k',a,b,c]=>?_,Ev.succ];by_cases e:k'=k;subst e;calc absurd c afX;exact#[k',(),b,c]
 show#[r,h1,?_];rw[hev,pI (by rw[Bo];lia),TV,ι ()];calc h2;by_cases hi:i<s.dropLast.length;rw[pI hi] at h;rw[Bo] at hi;rw[TV,ι hi] at h;calc A.bot i x h;rw[uF ()] at h;let e:i-s.dropLast.length=0:=by
  cases q:i-s.dropLast.length with
  |zero=>rfl
  |succ m=>rw[q] at h;simp at h
 rw[e] at h;simp at h;subst h;rw[Bo] at e hi;let ei:i=s.length-1:=by lia
 let hbo:=A.bot (s.length-1) _ N9;constructor;intro z;calc absurd z 18;intro z;rw[ei] at z;calc absurd (hbo.mpr z) 18
def jE{s:χ}(h:gE s x=true)(e:s=[]):x="def"\/x="skip":=by subst e;have:mB 535 ([("def":Str),"skip"].map T.str)=true:=h;rw[gL] at this;simpa using this
def ip{s:χ}{l:Str}(h:gE s x=true)(e:s.getLast?\l):(x="give"->l="def")/\(x="else"->l="if")/\(x="end"->l≠"def")/\x≠"def":=by unfold gE at h;rw[e] at h;dsimp only at h;by_cases h1:x="give";rw[ι h1] at h;subst h1;calc#[λ_=>Θ h,λz=>absurd z 18,λz=>absurd z 18,by decide +kernel];rw[θ h1] at h;by_cases h2:x="else";rw[ι h2] at h;subst h2;calc#[λz=>absurd z h1,λ_=>Θ h,λz=>absurd z 18,by decide +kernel];rw[θ h2] at h;by_cases h3:x="end";rw[ι h3] at h;subst h3;calc#[λz=>absurd z h1,λz=>absurd z h2,λ_=>by simpa using h,by decide +kernel];rw[θ h3] at h;calc#[λz=>absurd z h1,λz=>absurd z h2,λz=>absurd z h3,by simpa using h]
def adI(s:χ)(h1:(a_ r).op=false)(h2:(a_ r).cl=false)(h3:(a_ r).el=false):l6 s (wd r)=s:=by
 let k:∀x:Str,(x="put"\/x="do"\/x="new"\/x="get"\/x="set"\/x="call"\/x="fail"\/x="skip")->l6 s x=s:=by intro x hx;unfold l6;obtain rfl|rfl|rfl|rfl|rfl|rfl|rfl|rfl:=hx<;>rw[θ 18,θ 18,θ 18]
 cases r<;>first
  |calc Bool.noConfusion (show true=false from h1)
  |calc Bool.noConfusion (show true=false from h2)
  |calc Bool.noConfusion (show true=false from h3)
  | (show k _ ?_;simp[wd];done)
theorem KQ(W:Gv rs)(hb:mG (some []) rs=some []):∀k,k<=5->∃s,mG (some []) (rs.take k)\s/\Al rs k s
 |0,_=>#[[],9,#[9,λi j h=>by simp[st] at h,λi x h=>by simp at h]]
 |k+1,hk=>by
  let(s,hs,A):=KQ W hb k ();let di:k<rs.length:=by lia
  let hr:=eY di;let(s',h1,h2,h3):=za hb k hr;rw[hs] at h1;cases h1;show#[_,h3,?_];generalize rs[k]=r at hr h2;let kk:=c_ hr;let nil:=jE h2;let ne:s≠[]->∃l,s.getLast?\l:=λz=>by let(a,l,e):=qc z;exact#[l,by rw[e,RS]]
  cases r with
  |df f ps=>
   let e:s=[]:=by by_cases z:s=[];calc z;let(l,hl):=ne z;exact absurd 9 (ip h2 hl).2.2.2
   have:=xf W di A hr (jb (by rw[kk];rfl) (by rw[kk];rfl)) 6 #[λ_=>e,λ_=>rfl];rw[show wd (.df f ps)="def" from 9] at this ⊢;rw[Eg];calc this
  |wC a=>
   let e:s≠[]:=λz=>by rcases nil z with h|h<;>exact absurd h (by change ¬ (("if":Str)=_);decide +kernel)
   have:=xf W di A hr (jb (by rw[kk];rfl) (by rw[kk];rfl)) 6 #[λh=>absurd h (by change ¬ (("if":Str)=_);decide +kernel),λh=>absurd h e];rw[show wd (.wC a)="if" from 9] at this ⊢;rw[Kg];calc this
  |n5 a=>
   let e:s≠[]:=λz=>by rcases nil z with h|h<;>exact absurd h (by change ¬ (("while":Str)=_);decide +kernel)
   have:=xf W di A hr (jb (by rw[kk];rfl) (by rw[kk];rfl)) 6 #[λh=>absurd h (by change ¬ (("while":Str)=_);decide +kernel),λh=>absurd h e];rw[show wd (.n5 a)="while" from 9] at this ⊢;rw[n6];calc this
  |give a=>have:=Ex A (jy (by rw[kk];rfl) (by rw[kk];rfl)) (by rw[hr];simp);rw[show wd (.give a)="give" from 9,Kh];calc this
  |fin=>have:=Ex A (jy (by rw[kk];rfl) (by rw[kk];rfl)) (by rw[hr];simp);rw[show wd .fin="end" from 9,wF];calc this
  |pR=>
   let e:s≠[]:=λz=>by rcases nil z with h|h<;>exact absurd h 18
   let(l,hl):=ne e;let Yg:=(ip h2 hl).2.1 9;rw[Yg] at hl;have:=Qb A hr hl (fZ (by rw[kk];rfl) (by rw[kk];rfl));rw[show wd .pR="else" from 9,zc];calc this
  |_=>calc P_ A (fZ (by rw[kk];rfl) (by rw[kk];rfl)) (by rw[hr];simp)
end
structure Bl(rs:F2):Prop where
 W:Gv rs
 b:mG (some []) rs=some []
section
theorem Bl.at(B:Bl rs){k:Nat}(hr:rs[k]?\r):∃s,Al rs k s/\gE s (wd r)=true:=by let hk:=(c7.mp hr).1;let(s,hs,A):=KQ B.W B.b k ();let(s',h1,h2,h3):=za B.b k hr;rw[hs] at h1;cases h1;calc#[s,A,h2]
def Al.iF{k:Nat}{s:χ}(A:Al rs k s):s=[]↔st 23 k=[]:=by rw[<- NC,<- NC,A.len]
def Al.last{k:Nat}{s:χ}(A:Al rs k s){l:Str}(h:s.getLast?\l):∃o r,gF 23 k\o/\rs[o]?\r/\((¬ Ev rs k o/\l=wd r)\/(Ev rs k o/\l="else"/\wd r="if")):=by
 rw[Fp] at h;let hi:=(c7.mp h).1;let hj:(st (bh rs) k)[s.length-1]?\((st (bh rs) k)[s.length-1]'(by rw[<- A.len];calc hi)):=eY _;let(r,h1,h2):=A.wds _ _ hj;let hh:gF (bh rs) k=(st (bh rs) k)[s.length-1]?:=by unfold gF;rw[Fp,<- A.len]
 show#[_,r,hh.trans hj,h1,?_];rw[h] at h2;obtain⟨a,b⟩|⟨a,b,c⟩:=h2
 calc .inl #[a,Option.some.inj b];calc .inr #[a,Option.some.inj b,c]
def lastOf{s:χ}(z:s≠[]):∃l,s.getLast?\l:=by let(a,l,e):=qc z;calc#[l,by rw[e,RS]]
def Bl.df(B:Bl rs){k:Nat}{f ps}(hr:rs[k]?\.df f ps):st 23 k=[]:=by let(s,A,m):=B.at hr;rw[<- A.iF];by_cases z:s=[];calc z;let(l,hl):=lastOf z;calc absurd 9 (ip m hl).2.2.2
def Bl.inn(B:Bl rs){k:Nat}(hr:rs[k]?\r)(h1:wd r≠"def")(h2:wd r≠"skip"):st 23 k≠[]:=by
 let(s,A,m):=B.at hr;rw[Ne,<- A.iF];intro z;rcases jE m z with h|h
 calc h1 h;calc h2 h
theorem Bl.give(B:Bl rs){k:Nat}{a}(hr:rs[k]?\.give a):(st 23 k).length=1:=by
 let(s,A,m):=B.at hr;let z:s≠[]:=λz=>by rcases jE m z with h|h<;>exact absurd h (by change ¬ (("give":Str)=_);decide +kernel)
 let(l,hl):=lastOf z;let hd:=(ip m hl).1 9;rw[Fp,hd] at hl;have:=(A.bot _ _ hl).mp 9;have:=X5.mpr z;rw[<- A.len]
 lia
def Bl.fin(B:Bl rs){k:Nat}(hr:rs[k]?\.fin):2<=dp 23 k/\∃o r,gF 23 k\o/\rs[o]?\r/\wd r≠"def":=by
 let(s,A,m):=B.at hr;let z:s≠[]:=λz=>by rcases jE m z with h|h<;>exact absurd h 18
 let(l,hl):=lastOf z;let hd:=(ip m hl).2.2.1 9;let(o,r,h1,h2,h3):=A.last hl;show#[?_,o,r,h1,h2,?_];rw[Fp] at hl;let h0:¬ s.length-1=0:=λq=>hd ((A.bot _ _ hl).mpr q);unfold dp;rw[<- A.len]
 lia
 obtain⟨_,q⟩|⟨_,_,q⟩:=h3
 rw[<- q];calc hd;rw[q];decide +kernel
def Bl.pR(B:Bl rs){k:Nat}(hr:rs[k]?\.pR):2<=dp 23 k/\∃o a,gF 23 k\o/\rs[o]?\.wC a/\¬ Ev rs k o:=by
 let(s,A,m):=B.at hr;let z:s≠[]:=λz=>by rcases jE m z with h|h<;>exact absurd h 18
 let(l,hl):=lastOf z;let hd:=(ip m hl).2.1 9;let(o,r,h1,h2,h3):=A.last hl;show#[?_,?_];rw[Fp,hd] at hl;let h0:¬ s.length-1=0:=λq=>absurd ((A.bot _ _ hl).mpr q) 18;unfold dp;rw[<- A.len]
 lia
 obtain⟨a,q⟩|⟨_,q,_⟩:=h3
 rw[hd] at q;let(x,rfl):=adH q.symm;calc#[o,x,h1,h2,a];rw[hd] at q;calc absurd q 18
def Bl.head(B:Bl rs){k:Nat}(hr:rs[k]?\r):(st 23 93).head?=if wd r="give" then none else gG 23 k:=by
 let kk:=c_ hr;let keep:∀{l:qao}{x:Nat},l≠[]->(l++[x]).head?=l.head?:=λ{l x} h=>by cases l with
  |nil=>calc absurd 9 h
  |cons a l=>rfl
 unfold gG;rw[kk];cases r with
 |df f ps=>rw[jb (by rw[kk];rfl) (by rw[kk];rfl),B.df hr,θ (by change ¬ (("def":Str)=_);decide +kernel),ι (show (a_ (.df f ps)).df=true from 9)];rfl
 |give a=>
  rw[jy (by rw[kk];rfl) (by rw[kk];rfl),ι (show wd (.give a)="give" from 9)];have:=B.give hr
  match q:st 23 k,this with
  |[x],_=>rfl
 |fin=>
  rw[jy (by rw[kk];rfl) (by rw[kk];rfl),θ 18,θ 526];have:=(B.fin hr).1;unfold dp at this
  match q:st 23 k,this with
  |x::y::l,_=>rfl
 |wC a=>rw[jb (by rw[kk];rfl) (by rw[kk];rfl),θ (by change ¬ (("if":Str)=_);decide +kernel),θ 526];calc keep (B.inn hr (by change ¬ (("if":Str)=_);decide +kernel) (by change ¬ (("if":Str)=_);decide +kernel))
 |n5 a=>rw[jb (by rw[kk];rfl) (by rw[kk];rfl),θ (by change ¬ (("while":Str)=_);decide +kernel),θ 526];calc keep (B.inn hr (by change ¬ (("while":Str)=_);decide +kernel) (by change ¬ (("while":Str)=_);decide +kernel))
 |put x a=>rw[fZ (by rw[kk];rfl) (by rw[kk];rfl),θ (by change ¬ (("put":Str)=_);decide +kernel),θ 526]
 |uc x a o b=>rw[fZ (by rw[kk];rfl) (by rw[kk];rfl),θ (by change ¬ (("do":Str)=_);decide +kernel),θ 526]
 |new x=>rw[fZ (by rw[kk];rfl) (by rw[kk];rfl),θ (by change ¬ (("new":Str)=_);decide +kernel),θ 526]
 |get x a b=>rw[fZ (by rw[kk];rfl) (by rw[kk];rfl),θ (by change ¬ (("get":Str)=_);decide +kernel),θ 526]
 |set x a b=>rw[fZ (by rw[kk];rfl) (by rw[kk];rfl),θ (by change ¬ (("set":Str)=_);decide +kernel),θ 526]
 |call x f as=>rw[fZ (by rw[kk];rfl) (by rw[kk];rfl),θ (by change ¬ (("call":Str)=_);decide +kernel),θ 526]
 |fail x=>rw[fZ (by rw[kk];rfl) (by rw[kk];rfl),θ (by change ¬ (("fail":Str)=_);decide +kernel),θ 526]
 |_=>rw[fZ (by rw[kk];rfl) (by rw[kk];rfl),θ 18,θ 526]
def Bl.top(B:Bl rs){o e:Nat}(ho:o<5)(Bi:(bh rs o).op=true)(he:endsAt 23 5 o\e):o<e/\e<5/\dp 23 (e+1)=dp 23 o/\(∀m,o<m->m<=e->dp 23 o<dp 23 m)/\(∀m,o<m->m<e->dp 23 (m+1)≠dp 23 o):=by unfold endsAt at he;rw[ι Bi] at he;let(e',h1,h2,h3,h4,h5):=end_is B.W ho Bi;rw[he] at h1;cases h1;calc#[h2,h3,h4,above B.W ho Bi e h2 () h5,h5]
end
section
def V5(kd:Nat->Kd):Nat->Nat->Option Nat
 |0,_=>none
 |k+1,j=>if (kd k).el=true/\gF kd k\j then some k else V5 kd k j
theorem KR(kd:Nat->Kd)(n:Nat){j:Nat}(hj:j<n):∀k,(yq kd n k)[j]?\oT (V5 kd k j)
 |0=>by simp[yq,V5,oT,hj]
 |k+1=>by
  let ih:=KR kd n hj k;erw[yq,V5];cases hc:(kd k).el with
  |false=>erw[NH,false_and,aau];calc ih
  |true=>
   cases hh:gF kd k with
   |none=>erw[reduceCtorEq,and_false,aau];calc ih
   |some h=>erw[Option.some.injEq,true_and];by_cases e:h=j;subst e;rw[ι 9,DC (by rw[qf];calc hj)];rfl;rw[θ e,uG e];calc ih
theorem zJ{kd:Nat->Kd}{j x:Nat}:∀{k},V5 kd k j\x->x<k/\(kd x).el=true/\gF kd x\j
 |0,h=>by cases h
 |k+1,h=>by
  erw[V5] at h;split at h
  rename_i q;cases h;exact#[qx _,q]
  have:=zJ h;calc#[(),this.2]
def Qc(rs:F2)(j:Nat):Option Nat:=V5 23 5 j
def V6(hj:j<5):h7 (V2 rs) (j:Int)\oT (Qc rs j):=ai (KR _ _ hj _)
def V7{x:Nat}(h:(bh rs x).el=true):rs[x]?\.pR:=by
 unfold bh at h;split at h
 rename_i r hr
 rw[hr];cases r<;>first|rfl|exact Bool.noConfusion (show false=true from h)
 calc Bool.noConfusion (show false=true from h)
structure Blo(rs:F2)(o e:Nat):Prop where
 lt:o<5
 op:(bh rs o).op=true
 en:endsAt 23 5 o\e
 d1:1<=dp 23 o
 le:o<e
 el:e<5
 ab:∀m,o<m->m<=e->dp 23 o<dp 23 m
 fi:∀m,o<m->m<e->dp 23 (m+1)≠dp 23 o
 de:dp 23 e=dp 23 o+1
 re:rs[e]?\.fin
def Bl.Yq(B:Bl rs){o:Nat}(hr:rs[o]?\r)(hw:wd r="if"\/wd r="while"):∃e,Blo rs o e:=by
 let Bi:(bh rs o).op=true:=by rw[c_ hr];cases r<;>first|rfl|exact absurd hw (by change ¬ ((_:Str)="if"\/(_:Str)="while");erw[wd];decide +kernel)
 let ho:=(c7.mp hr).1;let(e,h1,h2,h3,h4,h5):=end_is B.W ho Bi;let he:endsAt (bh rs) rs.length o\e:=by unfold endsAt;rw[ι Bi];exact h1
 let(a,b,c,d,f):=B.top ho Bi he;let fY:st (bh rs) o≠[]:=B.inn hr (by obtain q|q:=hw<;>rw[q]<;>decide +kernel) (by obtain q|q:=hw<;>rw[q]<;>decide +kernel);let d1:1<=dp (bh rs) o:=by unfold dp;exact X5.mpr fY
 let(tR,agG):=qd B.W b he ho;let fL:=rm B.W b tR;let re:rs[e]?\.fin:=by
  let NQ:rs[e]?\rs[e]:=eY b;let kk:=c_ NQ;rw[kk] at tR;generalize rs[e]=q at NQ tR;cases q with
  |fin=>calc NQ
  |give x=>
   have:=B.give NQ;unfold dp at fL c d1
   lia
  |_=>exact Bool.noConfusion (show false=true from tR)
 calc#[e,ho,Bi,he,d1,a,b,d,f,(),re]
def zK(rs:F2)(o:Nat):Int:=match endsAt 23 5 o with
 |some e=>(e:Int)
 |none=>0
def V8(rs:F2)(j:Nat):Nat:=(gF 23 j).getD 0
def Qd(rs:F2)(j:Nat):Int:=match rs[j]? with
 |some (.n5 _)=>zK rs j+1
 |_=>match Qc rs j with
  |none=>zK rs j
  |some x=>(x:Int)+1
def V9(rs:F2)(j:Nat):Int:=match rs[j]? with
 |some .pR=>zK rs (V8 rs j)
 |some .fin=>match rs[V8 rs j]? with
  |some (.n5 _)=>(V8 rs j:Int)
  |_=>(j:Int)+1
 |_=>(j:Int)+1
def Qe(a b:Int):qan:=if a=b then [a] else if a<b then [a,b] else [b,a]
def Qf:Rw->Bool
 |.wC _=>true
 |.n5 _=>true
 |_=>false
def V_:Rw->Bool
 |.give _=>true
 |_=>false
def Qg(rs:F2)(j:Nat)(r:Rw):qan:=if gG 23 j=none\/V_ r=true then [] else if Qf r=true then Qe ((j:Int)+1) (Qd rs j) else [V9 rs j]
end
end Lay
namespace VT
open PySem PySem.Spec PyProof.Rows
def SQ{K:Type}[DecidableEq K](l:List K)(v:K):List K:=if v∈l then l else l++[v]
def met{K:Type}[DecidableEq K](val:Nat->K):Nat->List K
 |0=>[]
 |i+1=>SQ (met val i) (val i)
section
variable{K:Type}[DecidableEq K]
theorem qj(val:Nat->K):∀i,(met val i).length<=i
 |0=>cM _
 |i+1=>by
  have:=qj val i;erw[met,SQ];split
  lia
  rw[fU,NF];lia
def Qh{l:List K}{v k:K}:k∈SQ l v↔k∈l\/k=v:=by
 unfold SQ;split
 rename_i h
 calc#[.inl,λq=>q.elim id λe=>e▸h];rw[fO,fE]
end
abbrev n_(led:Bool):Obj:={cls:=.type "set",dict:=none,data:=.set 83 0 (.fresh 0 0 led)}
theorem sub_list_set:isSubtype (.type "list") (.type "set")=pure false:=by rw[isSubtype_type];kernel_rfl
theorem sub_list_frozenset:isSubtype (.type "list") (.type "frozenset")=pure false:=by rw[isSubtype_type];kernel_rfl
section
variable{R:Result->Shared->Prop}{I:Addr}{wr:zm}{G:Array GenState->Array GenState->Prop}{P:Nat->Value->Prop}{St:Nat->Shared->Prop}
variable{K:Type}[DecidableEq K]{knd:PySem.KeyKind prog w K}
end
end VT
namespace PySem
open Sem (wp)
namespace F
end F
end PySem
namespace VT
open PySem PySem.Spec PyProof.Rows L2
end VT
namespace PySem
namespace SetTable
theorem KS{xs:Array Nat}(hr:xs.toList.Pairwise (·<·)):∀(fuel lo hi:Nat),hi-lo<=fuel->lo<=hi->hi<=xs.size ->
  (∀i y,i<lo->xs[i]?\y->y<j)->(∀i y,hi<=i->xs[i]?\y->j<=y) ->
  below.go xs j fuel lo hi<=xs.size/\(∀i y,i<below.go xs j fuel lo hi->xs[i]?\y->y<j)/\(∀i y,below.go xs j fuel lo hi<=i->xs[i]?\y->j<=y):=by
 let mono:∀{a b:Nat}{x y:Nat},a<b->xs[a]?\x->xs[b]?\y->x<y:=by intro a b x y hab ha hb;rw[<- DD] at ha hb;let(ha',rfl):=c7.mp ha;let(Qi,rfl):=c7.mp hb;exact (acf.mp hr) a b ha' Qi hab
 intro fuel;induction fuel with
 |zero=>
   intro lo hi h1 h2 h3 hl hh;let e:lo=hi:=by lia
   subst e;calc#[h3,hl,hh]
 |succ fuel ih=>
   intro lo hi h1 h2 h3 hl hh;unfold below.go;by_cases di:lo<hi;rw[ι di];let hm:(lo+hi) / 2<xs.size:=by lia
   let hg:=NV hm;let hd:xs.getD ((lo+hi) / 2) j=xs[(lo+hi) / 2]:=by simp[Array.getD,hm]
   dsimp only;rw[hd];by_cases hc:xs[(lo+hi) / 2]<j;rw[ι hc];show ih _ _ () () h3 (λi y ZQ hy=>?_) hh;rcases T8 i ((lo+hi) / 2) with z|z
   calc T7 (mono z hy hg) hc;let e:i=(lo+hi) / 2:=by lia
   subst e;rw[hg] at hy;cases hy;calc hc;rw[θ hc];show ih _ _ () () () hl (λi y ZQ hy=>?_);rcases T8 ((lo+hi) / 2) i with z|z
   calc kJ (Nat.le_of_not_lt hc) (T6 (mono z hg hy));let e:i=(lo+hi) / 2:=by lia
   subst e;rw[hg] at hy;cases hy;calc Nat.le_of_not_lt hc;rw[θ di];let e:lo=hi:=by lia
   subst e;calc#[h3,hl,hh]
def lF{xs:Array Nat}(j:Nat)(hr:xs.toList.Pairwise (·<·)) :
  below xs j<=xs.size/\(∀i y,i<below xs j->xs[i]?\y->y<j)/\(∀i y,below xs j<=i->xs[i]?\y->j<=y) :=
 KS hr xs.size 0 xs.size () () 82 (λi y h=>absurd h ()) (λi y h e=>by
  let(z,_):=Array.getElem?_eq_some_iff.mp e
  lia)
def cK{xs:Array Nat}(hr:xs.toList.Pairwise (·<·)):below xs 0=0:=by
 let(h1,h2,_):=lF 0 hr;rcases Nat.eq_zero_or_pos (below xs 0) with z|z
 calc z;let hs:0<xs.size:=by lia
 calc absurd (h2 0 _ z (NV hs)) ()
def Cj{xs:Array Nat}{y:Nat}(hr:xs.toList.Pairwise (·<·))(e:xs[i]?\y):below xs (y+1)=i+1:=by
 let(h1,h2,h3):=lF (y+1) hr;let(hi,hy):=Array.getElem?_eq_some_iff.mp e;rcases Nat.lt_trichotomy (below xs (y+1)) (i+1) with z|z|z
 have:=h3 i y () e
 lia
 calc z;let hs:i+1<xs.size:=by lia
 let q:=h2 525 _ z (NV hs);have:=(acf.mp hr) i 525 (by simpa using hi) (by simpa using hs) (qx _);erw[Array.getElem_toList] at this
 lia
def uh{xs:Array Nat}(hr:xs.toList.Pairwise (·<·))(hn:xs[below xs j]?≠some j):(insertAt xs (below xs j) j).toList.Pairwise (·<·):=by
 let(h1,h2,h3):=lF j hr;rw[toList_insertAt];let bV:=hr;rw[<- X2 (below xs j) xs.toList,List.pairwise_append] at bV;let(p1,p2,p3):=bV;let low:∀a∈xs.toList.take (below xs j),a<j:=λa ha=>by let(i,hi,rfl):=YM.mp ha;rw[NW] at hi;rw[List.getElem_take];exact h2 i _ () (by rw[<- DD];calc eY _)
 let high:∀a∈xs.toList.drop (below xs j),j<a:=λa ha=>by
  let(i,hi,rfl):=YM.mp ha;rw[X8] at hi;rw[List.getElem_drop];let e:xs[below xs j+i]?\xs.toList[below xs j+i]:=by rw[<- DD];exact eY _
  let q:=h3 (below xs j+i) _ () e;rcases T8 j xs.toList[below xs j+i] with z|z
  calc z;let e2:xs.toList[below xs j+i]=j:=by lia
  rcases Nat.eq_zero_or_pos i with z2|z2
  subst z2;calc absurd (by rw[e2] at e;calc e) hn;let hb:below xs j<xs.toList.length:=by lia
  let q2:=h3 (below xs j) xs.toList[below xs j] 82 (by rw[<- DD];calc eY _);let q3:=(acf.mp hr) (below xs j) (below xs j+i) hb () ()
  lia
 rw[List.pairwise_append];show#[p1,List.pairwise_cons.mpr #[high,p2],λa ha b hb=>?_];rcases dQ.mp hb with z|z
 rw[z];calc low a ha;calc T7 (low a ha) (high b z)
def GN{t:SetTable}(h:∀i,t.slot j≠.live i):t.place[below t.place j]?≠some j:=by intro e;show h (below t.place j) ?_;unfold slot;simp[e]
def KU{t:SetTable}{f:Nat->Int}{h:Int}:∀(fuel:Nat)(p:Probe)(j:Nat)(d:Option Nat),(∀x,p.dummy\x->∀i,t.slot x≠.live i)->probe.go t f h fuel p\.empty j d->∀i,t.slot (d.getD j)≠.live i:=by
 intro fuel;induction fuel with
 |zero=>intro p j d _ e;simp[probe.go] at e
 |succ fuel ih=>
  intro p j d hp e;let adJ:∀q:Probe,(t.advance q).dummy=q.dummy:=λq=>by unfold advance;split<;>rfl
  unfold probe.go at e;split at e
  rename_i hs
  let(rfl,rfl):=e;cases hd:p.dummy with
  |none=>intro i z;erw[acW] at z;rw[hs] at z;cases z
  |some x=>exact hp x hd
  rename_i hs
  show ih _ j d (λx hx=>?_) e;rw[adJ] at hx;erw[Option.some.injEq] at hx;subst hx;intro i z;rw[hs] at z;cases z;split at e;cases e;calc ih _ j d (λx hx=>hp x (by rw[adJ] at hx;calc hx)) e
def ui{t:SetTable}{h:Int}{b:Bool}(e:t.freeSlot h\(j,b)):t.place[below t.place j]?≠some j:=by
 unfold freeSlot at e;split at e
 rename_i j' d hp
 let(rfl,_):=e;calc GN (KU _ _ j' d (λx hx=>by simp[probeStart] at hx) hp);cases e
def mQ(n:Nat):(Array.range n).toList.Pairwise (·<·):=by rw[Array.toList_range];calc List.pairwise_lt_range
def g7(t:SetTable)(n:Nat):(t.standIn n).led=t.led/\(t.standIn n).place.toList.Pairwise (·<·):=#[9,mQ n]
end SetTable
def xh{t:SetTable}(es:Array (Int×Value))(h:Int)(x:Value)(hr:t.place.toList.Pairwise (·<·)):(layNew t es h x).2.1.led=t.led/\(layNew t es h x).2.1.place.toList.Pairwise (·<·):=by
 unfold layNew;split
 rename_i slot wd e
 let hn:=SetTable.ui e;change ((t.put slot).1.orStandIn _).led=_/\((t.put slot).1.orStandIn _).place.toList.Pairwise _;unfold SetTable.orStandIn;split;calc#[9,SetTable.uh hr hn];calc#[9,SetTable.mQ _];calc SetTable.g7 _ _
theorem jF{f:Nat->Option Nat}:∀l:qao,((l.filterMap λj=>(f j).map (j,·)).map (·.1)).Sublist l
 |[]=>.slnil
 |j::l=>by
  rw[tV];cases f j with
  |none=>calc (jF l).cons j
  |some k=>calc (jF l).cons₂ j
def rF(t:SetTable)(es:Array (Int×Value))(wanted:Nat):(relayAll t es wanted).2.1.led=t.led/\(relayAll t es wanted).2.1.place.toList.Pairwise (·<·):=by
 unfold relayAll;split
 rename_i t' order e
 dsimp only;split;unfold SetTable.relaid SetTable.laid at e;cases q:SetTable.layClean (SetTable.sizeAbove wanted-1) (es.map (·.1)) with
 |none=>rw[q] at e;cases e
 |some owner=>rw[q] at e;let(rfl,_):=e;exact#[9,List.Pairwise.sublist (jF _) List.pairwise_lt_range]
 calc SetTable.g7 _ _;calc SetTable.g7 _ _
end PySem
namespace PySem
section
variable{K:Type}[DecidableEq K](knd:KeyKind prog w K)
def Heap.iq(h:Heap)(a:Addr)(S:K->Bool)(n:Nat)(b:Bool):Prop :=
 ∃o es ep t,h.get? a\o/\o.ExactSet/\496=.set es ep t/\ElemsOf knd es.toList/\(∀k,S k=true↔∃e∈es.toList,knd.is k e.2=true)
  /\ 107<scanBound/\t.fits 107=true/\107=n/\t.led=b/\t.place.toList.Pairwise (·<·)
variable{knd}
def rG{o:Obj}{es:Array (Int×Value)}{t:SetTable}{b:Bool}(ho:h.get? a\o)(hex:o.ExactSet)(hd:496=.set es ep t){uJ:Array (Int×Value)}{t':SetTable}{S':K->Bool}(Io:ElemsOf knd uJ.toList)(oa:∀k,S' k=true↔∃e∈uJ.toList,knd.is k e.2=true)(hb:uJ.size<scanBound)(hf:t'.fits uJ.size=true)(hl:t'.led=b)(hr:t'.place.toList.Pairwise (·<·)) :
  (h.update a (Obj.putSet uJ t')).get? a=some {o with data:=.set uJ (ep+1) t'}/\(h.update a (Obj.putSet uJ t')).iq knd a S' uJ.size b:=by
 let hg:(h.update a (Obj.putSet uJ t')).get? a=some {o with data:=.set uJ (ep+1) t'}:=by have:=TX (Obj.putSet uJ t') ho (by rw[putSet_of uJ t' hd];rfl);rw[putSet_of uJ t' hd] at this;exact this
 calc#[hg,_,uJ,ep+1,t',hg,hex,9,Io,oa,hb,hf,9,hl,hr]
def jG{g:Bool->Sem Unit}(hg:∀(b:Bool) (s₁:Shared) (Q':Unit->Shared->Prop),Q' Unit.unit s₁->wpAny 14 A (g b) Q' E s₁){o:Obj}{es:Array (Int×Value)}{t:SetTable}{lb:Bool}(ho:s.heap.get? a\o)(hex:o.ExactSet)(hd:496=.set es ep t){nK:Array (Int×Value)}{t2:SetTable}{S':K->Bool}(KW:ElemsOf knd nK.toList)(zL:∀k',S' k'=true↔∃e∈nK.toList,knd.is k' e.2=true)(Ed:nK.size<scanBound)(hf2:t2.fits nK.size=true)(Yg:t2.led=lb)(pT:t2.place.toList.Pairwise (·<·)){zM:Bool}{R:Option Bool->Shared->Prop}(h:∀h',Heap.SameBut a 69 h'->h'.iq knd a S' nK.size lb->R (some true) {s with heap:=h'}) :
  wpAny 14 A (do
   storeSet a nK t2
   if (!zM && t2.tooFull)=true then do
       g (relayAll t2 nK 507).2.2
       storeSet a (relayAll t2 nK 507).1 (relayAll t2 nK 507).2.1
       pure (some true)
    else pure (some true)) R E s:=by
 show ζ (wpAny_storeSet_of ho hd ?_ (fits_of_scanBound Ed));let(V',hS1):=rG (knd:=knd) ho hex hd KW zL Ed hf2 Yg pT;let adK:=IA 69 a (Obj.putSet nK t2);split;let hp:=relayAll_perm t2 nK 507;let hfr:=relayAll_fits t2 nK 507;let Wa:=rF t2 nK 507;generalize hRl:relayAll t2 nK (SetTable.grown nK.size)=Rl at hp hfr Wa ⊢;let(es2,t3,agA):=Rl;dsimp only at hp hfr Wa ⊢;let afY:ElemsOf knd es2.toList:=KW.perm hp;let adL:∀k',S' k'=true↔∃e∈es2.toList,knd.is k' e.2=true:=λk'=>(zL k').trans #[λ#[e,he,q]=>#[e,hp.mem_iff.mpr he,q],λ#[e,he,q]=>#[e,hp.mem_iff.mp he,q]];let kq:es2.size=nK.size:=by rw[<- Fq,hp.length_eq,Fq]
 let JZ:es2.size<scanBound:=by rw[kq];exact Ed
 show ζ (hg _ _ _ ?_);show ζ (wpAny_storeSet_of V' 9 ?_ (fits_of_scanBound JZ));let(_,Wb):=rG (knd:=knd) V' hex 9 afY adL JZ hfr (Wa.1.trans Yg) Wa.2;rw[kq] at Wb;calc η (h _ (adK.trans (IA _ a _)) Wb);calc η (h _ adK hS1)
theorem kA{S:K->Bool}{lb:Bool}{k:K}{x:Value}{Q:Bool->Shared->Prop}(yE:knd.is k x=true)(hsc:x.scannable=true)(hS:s.heap.iq knd a S n lb)(KY:n+1<scanBound)(h:∀h',Heap.SameBut a 69 h'->h'.iq knd a (λk'=>S k' || decide (k'=k)) (if S k then n else n+1) lb->Q (!S k) {s with heap:=h'}) :
  wpAny 14 A (setAddHashed a x (knd.hash k)) Q E s:=by
 let(o,es,ep,t,ho,hex,hd,Io,oa,hb,hf,hn,GO,GP):=hS;let Ed:es.size+1<scanBound:=by rw[hn];exact KY
 unfold setAddHashed setAddHashedIn;show Ω (ζ (aan ho hd hf ?_));dsimp only;rw[byScan_of hsc hb Io];simp only[↓reduceIte];unfold setAddByScan;show ζ ?_;show ζ (aab ?_);show ζ (wpAny_setScan_of yE ho hd hf Io ?_);cases hr:List.findIdx? (λe=>knd.is k e.2) es.toList with
 |some j=>
   dsimp only;let(hj,hpj,_):=List.findIdx?_eq_some_iff_getElem.mp hr;let hSk:S k=true:=(oa k).mpr #[es.toList[j],Ft hj,hpj];show η (η ?_);let e:s={s with heap:=s.heap}:=by cases s;rfl
   have:=h 69 (Heap.SameBut.refl a 69) #[o,es,ep,t,ho,hex,hd,Io,λk'=>by rw[N1,aar,<- oa k'];calc#[λhk=>hk.elim id (λe=>e▸hSk),.inl],hb,hf,by rw[hSk];calc hn,GO,GP]
   rw[hSk] at this;rw[e];calc this
 |none=>
   dsimp only;let hSk:S k=false:=by
    cases hk:S k with
    |false=>rfl
    |true=>let(e,he,hp):=(oa k).mp hk;have:=List.findIdx?_eq_none_iff.mp hr e he;rw[hp] at this;exact Bool.noConfusion this
   let hgw:∀(b:Bool){s₁:Shared}{Q':Unit->Shared->Prop},Q' Unit.unit s₁->wpAny (model prog w) A (match b with|true=>rule "set.scan.the-table-gave-way"|false=>pure Unit.unit) Q' E s₁ :=
    λb s₁ Q' hq=>by cases b<;>first|exact η hq|exact aab hq
   let rH:=layNew_perm t es (knd.hash k) x;let zN:=layNew_fits t es (knd.hash k) x;let zO:=xh es (knd.hash k) x GP;generalize hL:layNew t es (knd.hash k) x=L at rH zN zO ⊢;let(nK,t1,zM,agH):=L;dsimp only at rH zN zO ⊢;rw[acQ] at rH;let KW:ElemsOf knd nK.toList:=(Io.push yE hsc).perm rH;let zL:∀k',(S k' || decide (k'=k))=true↔∃e∈nK.toList,knd.is k' e.2=true:=mem_push_iff yE oa rH;let adM:nK.size<scanBound:=by rw[<- Fq,rH.length_eq,fU,Fq];simpa using Ed
   show ζ (hgw _ ?_);let xi:nK.size=n+1:=by rw[<- Fq,rH.length_eq,fU,Fq,hn];rfl
   let Gh:∀h',Heap.SameBut a s.heap h'->h'.iq knd a (λk'=>S k' || decide (k'=k)) nK.size lb->Q true {s with heap:=h'}:=by intro h' SR Bj;have:=h h' SR;rw[hSk] at this;rw[xi] at Bj;exact this Bj
   let Wc:t1.led=lb:=zO.1.trans GO;split;show ζ ?_;rw[hashByValue_scannable 08 hsc];show η ?_;show jG (lb:=lb) ?_ ho hex hd KW zL adM ?_ ?_ ?_ ?_;intro b s₁ Q' hq;cases b<;>first|exact η hq|exact aab hq
   split;calc zN;calc SetTable.fits_plain_off zN;split<;>calc Wc;split<;>calc zO.2;intro h' SR Bj;dsimp only;calc η (Gh h' SR Bj);show ζ (η ?_);simp only[↓reduceIte];show jG (lb:=lb) ?_ ho hex hd KW zL adM zN Wc zO.2 ?_;intro b s₁ Q' hq;cases b<;>first|exact η hq|exact aab hq
   intro h' SR Bj;dsimp only;calc η (Gh h' SR Bj)
end
end PySem
namespace VT
open PySem PySem.Spec PyProof.Rows
def rJ{K:Type}[DecidableEq K]{knd:PySem.KeyKind prog w K}{S S':K->Bool}{n':Nat}{b:Bool}(hS:h.iq knd a S n b)(e:∀k,S k=S' k)(en:n=n'):h.iq knd a S' n' b:=by obtain rfl:S=S':=funext e;subst en;calc hS
section
variable{R:Result->Shared->Prop}{I:Addr}{wr:zm}{G:Array GenState->Array GenState->Prop}{P:Nat->Value->Prop}{St:Nat->Shared->Prop}
variable{K:Type}[DecidableEq K]{knd:PySem.KeyKind prog w K}
theorem GQ{lb:Bool}(W:WalksS prog w A.in1 I fp wr G n P St)(S:Addr)(hSf:S∉fp)(val:Nat->K)(PY:∀i v,P i v->knd.is (val i) v=true/\v.scannable=true)(hb:n+1<scanBound) :
  ∀(k i:Nat)(s:Shared),n-i=k->i<=n->St i s ->
   s.heap.iq knd S (λk'=>decide (k'∈met val i)) (met val i).length lb ->
   (∀s',Moved (S::wr) G s s'->s'.heap.iq knd S (λk'=>decide (k'∈met val n)) (met val n).length lb->R (.ok (.ret .none)) s') ->
   codeAny 14 A (.builtin "set.update.loop" #[[.ref S,.ref I],[]]) R s:=by
 let hSw:S∉wr:=λh=>hSf (W.sub _ h);let JW:∀b∈wr,b∈S::wr:=λb hb=>iB _ hb;intro k;induction k with
 |zero=>
   intro i s hk hi yC hS hR;let Wd:i=n:=by lia
   subst Wd;show aaq PyProof.Rows.F.entry_set_update_loop ?_;rw[YN ab4 _];change wpAny _ A.in1 (pyNext (.ref I) >>= _) _ _ s;show ζ (W.done s _ _ yC λs' hm=>?_);change wpAny _ A.in1 (ret Value.none) _ _ s';calc η (hR s' (hm.mono JW) (by let(o,es,ep,t,ho,rest):=hS;calc#[o,es,ep,t,hm.heap S _ hSw ho,rest]))
 |succ k ih=>
   intro i s hk hi yC hS hR;let di:i<n:=by lia
   show aaq PyProof.Rows.F.entry_set_update_loop ?_;rw[YN ab4 _];change wpAny _ A.in1 (pyNext (.ref I) >>= _) _ _ s;show ζ (W.item i s _ _ di yC λv s' hP afZ hm=>?_);let(yo,wg):=PY i v hP;let Bj:s'.heap.iq knd S (λk'=>decide (k'∈met val i)) (met val i).length lb:=by let(o,es,ep,tb,ho,rest):=hS;exact#[o,es,ep,tb,hm.heap S _ hSw ho,rest]
   change wpAny _ A.in1 (holding [v] (setAdd S v) >>= _) _ _ s';show ζ (Ω ?_);unfold setAdd;show Ω ?_;show ζ (knd.pyHash (k:=val i) yo ?_);let KY:(met val i).length+1<scanBound:=by have:=qj val i;lia
   show kA (knd:=knd) (s:={s' with toks:=s'.toks+1}) yo wg Bj KY λh' SR Wb=>?_;let hSi:h'.iq knd S (λk'=>decide (k'∈met val (i+1))) (met val (i+1)).length lb :=
    rJ Wb (λk'=>by
     erw[met,Qh,Bool.decide_or]) (by
     erw[met,SQ,aar];split<;>simp)
   show η #[aaQ ab4 _,ih 525 _ () di (W.frame _ s' _ _ afZ (ID _) λb hb o e=>?_) hSi λUM af0 af1=>?_];rw[SR.2 b (λh:b=S=>hSf (by rw[<- h];calc hb))];calc e;show hR UM (Moved.trans W.gtrans ((hm.mono JW).then_heap (ID _) λb o hb e=>?_) af0) af1;rw[SR.2 b (λh:b=S=>hb (by rw[h];calc iz))];calc e
end
section
def uj(a:Value){Q₁:qad}(h:Q₁ 59 {s with heap:=s.heap.push (n_ (!w.params.followText "set-order"))}) :
  codeAny 14 A (.call (.builtin "set.__new__") #[[.type "set",a],[]]) (wants Q₁ E) s:=by
 show codeAny_of_tree ?_;change wpAny _ A.in1 (do checkBuiltinCall "set.__new__" #[[.type "set",a],[]];again (.builtin "set.__new__" #[[.type "set",a],[]])) _ _ s;show ζ (aaM (PySem.F.newCall_set_1 a) (η #[aaQ PySem.F.plain_set_new _,aaq PySem.F.entry_set_new ?_]));rw[YN PySem.F.plain_set_new _];unfold Builtin.«set.__new__» Builtin.Frozenset.newClass;let JW:=sub_set_self;let(hp,g,d,tk,os):=s;dsimp only
 wp_walk
 show aat (η ?_);dsimp only;erw[newObj];show ζ (wpAny_alloc (η ?_));calc η h
variable{K:Type}[DecidableEq K]{knd:PySem.KeyKind prog w K}
def Ck{lb:Bool}(hg:h.get? a\n_ lb):h.iq knd a (λ_=>false) 0 lb :=
 #[_,83,0,_,hg,#[9,9,9],9,λe he=>by simp at he,λk=>by simp,by unfold scanBound;simp,by rfl,9,9,by simp[SetTable.fresh]]
theorem jH{l:Addr}{items:Array Value}{val:Nat->K}(hh:538=none)(hl:s.heap.IsList l items)(hi:∀(i:Nat) (v:Value),items[i]?\v->knd.is (val i) v=true/\v.scannable=true)(hb:98+1<scanBound)(h:∀(h':Heap) (tk:Nat),h'.iq knd 8 (λk'=>decide (k'∈met val 98)) (met val 98).length (!w.params.followText "set-order") ->
    (∀b o,b<8->s.heap.get? b\o->h'.get? b\o)->8<h'.objs.size->Q 59 {s with heap:=h',toks:=tk}) :
  wpAny 14 A (call (.type "set") [.ref l]) Q E s:=by
 let(c,tl,agI):=RU.mro;let agB:=RU.made;let JW:=RU.sub;show wpAny_call (codeAny_of_tree ?_);change wpAny _ _ (callAny (.type "set") _) _ _ _;show η #[Code.quiet_builtin _ 18,aaq F.entry_type_call ?_];rw[Around.under_plain (weight_type_call_type "set" [.ref l] []) 9];let h1:=RU.notType;let h2:=RU.canCreate;let hct:=PySem.F.typeCall_set_1 (.ref l)
 repeat (any_goals (first|assumption|wp_step))
 generalize hlb:(!w.params.followText "set-order")=led at h;show aax (uj (.ref l) (E:=E) (Q₁:=λobj s₁=>obj=.ref 8/\s₁={s with heap:=s.heap.push (n_ led)}) #[9,by rw[hlb]]) λr s₁ hr=>?_;cases r with
 |error e=>calc hr
 |ok fl=>
   cases fl with
   |ret obj=>
     let(rfl,rfl):=hr;let hS:(s.heap.push (n_ led)).get? s.heap.objs.size\n_ led:=gP _ 9;let hT:Shared.TypeIs {s with heap:=s.heap.push (n_ led)} (.ref s.heap.objs.size) "set":=#[_,hS,9];let hli:=RU.init.lookup;let ZS:=RU.init.bind 59
     repeat (any_goals (first|assumption|wp_step))
     show aax (codeAny_call_builtin (R:=wants (λr s₂=>r=.none/\∃h' tk,s₂={s with heap:=h',toks:=tk} /\
       h'.iq knd 8 (λk'=>decide (k'∈met val 98)) (met val 98).length led /\
       (∀b o,b<8->s.heap.get? b\o->h'.get? b\o)) E) RU.init.plain PySem.F.entry_set_init (check_set_init_1 hT ?_)) λr₂ s₂ hr₂=>?_
     . let(ol,Po,tR,nl,Yl):=hl;let(af2,SS,adN,We):=ol;simp only at tR Yl;subst tR;subst Yl;let af3:(s.heap.push (n_ led)).get? l=some {cls:=.type "list",dict:=SS,data:=.seq items nl,slots:=We}:=dF _ Po;let agJ:=sub_list_set;let agK:=sub_list_frozenset;let fY:(Value.type "list"==Value.type "dict")=false:=by decide
       let Wc:(s.heap.push (n_ led)).IsList l items:=#[_,af3,9,nl,9];unfold Builtin.«set.__init__» noKeywords Builtin.Frozenset.updateFrom;generalize hPI:pyIter=PI
       wp_walk
       subst hPI;show aay Wc ?_;show ζ (wpAny_runValue ?_);let hlS:l<s.heap.objs.size:=eR Po;let hh3:A.in1.in1.in1.handled=none:=by simp[hh]
       let af4:l≠(s.heap.push (n_ led)).objs.size:=by rw[uH];exact hU (Be hlS)
       let hSf:s.heap.objs.size∉[(s.heap.push (n_ led)).objs.size,l]:=by rw[uH];erw[dQ,fE,gQ,aah,not_or];exact#[hU (qx _),Fw hlS]
       show GQ (lb:=led) ((Walks.list hh3 _ l af4 items).toS) 8
        hSf val hi hb (98-0) 0 _ () (fB _)
        #[#[_,gP _ 9,9,9],(Wc.push _)] ?hS0 ?hR
       case hS0=>
        let af5:((s.heap.push (n_ led)).push {cls:=.type "list_iterator",data:=.fields ([.ref l,.int 0 0].toArray)}).get? s.heap.objs.size
          = some (n_ led):=dF _ hS
        exact rJ (Ck (knd:=knd) af5) (λ_=>by simp[met]) 9
       case hR=>
        intro s' hm Bj;let(h',g',d',tk',os'):=s';let eg:g'=s.gens:=hm.gens;let ed:d'=s.drawn:=hm.drawn;let eo:os'=s.os:=hm.os;subst eg;subst ed;subst eo;change wpAny _ _ _ _ _ _;show η ?_;change wpAny _ _ (ret Value.none) _ _ _;show η #[9,h',tk',9,Bj,λb o hb e=>?_];let Ed:b≠s.heap.objs.size:=hU hb;let JZ:b≠(s.heap.push (n_ led)).objs.size:=by rw[uH];exact hU (Be hb)
        exact hm.heap b o (by erw[dQ,fE,gQ,aah,not_or];calc#[Ed,JZ]) (dF _ (dF _ e))
     . cases r₂ with
       |error e=>calc hr₂
       |ok fl₂=>
         cases fl₂ with
         |ret r=>
           let(rfl,h',tk,rfl,Bj,yp):=hr₂
           repeat (any_goals (first|assumption|wp_step))
           show h _ _ Bj yp ?_;let(o,_,_,_,ho,_):=Bj;calc eR ho
         |_=>calc hr₂.elim
   |_=>calc hr.elim
end
end VT
namespace PySem
open Sem (wp)
namespace F
theorem gv:Manifest.owners.lookup (String.ofList ['r','o','t','a','r','e','t','i','_','t','e','s'].reverse)\Manifest.sig_set_iterator:=by kernel_rfl
def aN:Slot "set_iterator" "__next__" "set_iterator.__next__" :=
 .of (owner:="set_iterator") (n:="__next__") (by rw[typeLookup_type,builtinLookup_eq_fast];kernel_rfl) 18 18 18
  (by first|calc .inl 18|calc .inr 18) (by rw[isSubtype_type];kernel_rfl)
theorem cg:entryFor table "set_iterator.__next__"\Builtin.«set_iterator.__next__»:=entryFor_of_tree 462
theorem b_(a:Value):argsOk "set_iterator.__next__" #[[a],[]]:=by unfold argsOk;rw[signature?_of (id:="set_iterator.__next__") (n:=['_','_','t','x','e','n','_','_']) (o:=['r','o','t','a','r','e','t','i','_','t','e','s']) 462 gv];kernel_rfl
def cp:Slot "set_iterator" "__iter__" "set_iterator.__iter__" :=
 .of (owner:="set_iterator") (n:="__iter__") (by rw[typeLookup_type,builtinLookup_eq_fast];kernel_rfl) 18 18 18
  (by first|calc .inl 18|calc .inr 18) (by rw[isSubtype_type];kernel_rfl)
theorem dY(a:Value):argsOk "set_iterator.__iter__" #[[a],[]]:=by unfold argsOk;rw[signature?_of (id:="set_iterator.__iter__") (n:=['_','_','r','e','t','i','_','_']) (o:=['r','o','t','a','r','e','t','i','_','t','e','s']) 462 gv];kernel_rfl
def d8:entryFor table "set_iterator.__iter__"\Builtin.«dict_keyiterator.__iter__» :=
 entryFor_alias (id':="dict_keyiterator.__iter__") 462 9 18 462
def rK:entryFor table "set.__iter__"\Builtin.«frozenset.__iter__» :=
 entryFor_alias (id':="frozenset.__iter__") 462 9 18 462
theorem KZ:typeLookup (.type "set") "__len__"=pure (some (.builtin "set.__len__")):=by rw[typeLookup_type,builtinLookup_eq_fast];kernel_rfl
end F
section
def xj{M:Model}{src:Source}{Q:Nat->Shared->Prop}(hn:n≠0)(h:∀i,i<n->Q i {s with drawn:=s.drawn.bump src}):wpAny M A (choose src n) Q E s:=by intro Γ p hΓ;change Sem.wp M Γ (Sem.choose src n Sem.pure) _ _ p s;rw[Sem.wp_choose];calc#[hn,(η (M:=M) (A:=A) (E:=E) (Q:=Q) (h _ (Nat.mod_lt _ (Nat.pos_of_ne_zero hn)))) Γ p hΓ]
theorem lH{α:Type}:∀{l:List α}{i:Nat}{x:α},l[i]?\x->(x::l.eraseIdx i).Perm l
 |[],i,x,h=>by simp at h
 |y::l,0,x,h=>by simp at h;subst h;simp
 |y::l,i+1,x,h=>by erw[List.getElem?_cons_succ] at h;rw[List.eraseIdx_cons_succ];calc (List.Perm.swap y x _).trans ((lH h).cons y)
theorem jc{α:Type}:∀(n:Nat)(xs:List α)(s:Shared)(Q:List α->Shared->Prop),46=n->(∀ys d',ys.Perm xs->Q ys {s with drawn:=d'})->wpAny 14 A (drawOrder n xs) Q E s
 |0,xs,s,Q,hl,h=>by
  unfold drawOrder;let e:s={s with drawn:=s.drawn}:=rfl;cases xs with
  |nil=>calc η (h [] s.drawn .nil)
  |cons x xs=>cases hl
 |n+1,[],s,Q,hl,h=>by cases hl
 |n+1,x::xs,s,Q,hl,h=>by
  unfold drawOrder;show ζ (xj 6 λi hi=>?_);let e:(x::xs)[i]?\(x::xs)[i]:=eY hi;rw[e];dsimp only;let hp:=lH e;show ζ (jc n _ _ _ ?_ λys d' hy=>?_);have:=hp.length_eq;erw[vJ] at this hl
  lia
  calc η (h _ d' ((hy.cons _).trans hp))
theorem mR{α:Type}(next:Nat->Nat):∀(fuel k:Nat)(left:List α)(out:Array α),left.length=fuel->(pickOrder.go next fuel k left out).toList.Perm (out.toList++left)
 |0,k,left,out,hl=>by
  cases left with
  |nil=>simp[pickOrder.go]
  |cons x l=>cases hl
 |fuel+1,k,left,out,hl=>by
  unfold pickOrder.go;let di:next k % left.length<left.length:=Nat.mod_lt _ ();let e:left[next k % left.length]?\left[next k % left.length]:=eY di;rw[e];dsimp only;let hp:=lH e;show (mR next fuel 93 _ _ ?_).trans ?_;have:=hp.length_eq;erw[vJ] at this
  lia
  rw[acQ,yt];calc hp.append_left _
def jI(next:Nat->Nat)(xs:Array α):(pickOrder next xs).toList.Perm xs.toList:=by have:=mR next xs.size 0 xs.toList 83 6;simpa[pickOrder] using this
def oh(w:World)(d:Addr)(es:Array (Int×Value))(ep:Nat)(t:SetTable)(ord:List (Int×Value)):Prop :=
 if w.params.followText "set-order" then ord=(pickOrder (w.params.setOrder d ep) es).toList else ord=es.toList
def iR(w:World)(t:SetTable)(i slot:Nat):Prop :=
 w.params.followText "set-order"=true\/SetTable.below t.place slot=i
variable{o:Obj}{es:Array (Int×Value)}{t:SetTable}
def rL{Q:Bool->Shared->Prop}(ho:s.heap.get? d\o)(hd:496=.set es ep t)(hf:t.fits 107=true)(h:Q (!w.params.followText "set-order" && 239) s):wpAny 14 A (setDrawn d) Q E s:=by unfold setDrawn setsByText;show ζ (aan ho hd hf ?_);show ζ (ζ (aat (η ?_)));calc η h
theorem kP{slot:Nat}{Q:Option (Value×Nat)->Shared->Prop}(ho:s.heap.get? d\o)(hd:496=.set es ep t)(hf:t.fits 107=true)(hl:t.led=!w.params.followText "set-order")(hr:t.place.toList.Pairwise (·<·))(F9:(!w.params.followText "set-order" && 239)=false)(g8:oh w d es ep t ord)(hs:iR w t i slot)(h:(∀e nx,ord[i]?\e->iR w t 525 nx->Q (some (e.2,nx)) s)/\(ord[i]?=none->Q none s)):wpAny 14 A (setNext d slot i ep) Q E s:=by
 unfold setNext setsByText;show ζ (aan ho hd hf ?_);dsimp only;show ζ (ζ (aat (η ?_)));unfold oh at g8;unfold iR at hs;by_cases hb:w.params.followText "set-order"=true;rw[ι hb] at g8;rw[show (model prog w).w.params.followText "set-order"=true from hb];simp only[↓reduceIte,aaN,NH];show ζ ?_;unfold setWalk setsByText;show ζ (aan ho hd hf ?_);dsimp only;show ζ (ζ (aat (η ?_)));rw[show (model prog w).w.params.followText "set-order"=true from hb];simp only[↓reduceIte];show ζ (aat (η ?_));show η ?_;change Q (Option.map _ (pickOrder (w.params.setOrder d ep) es)[i]?) s;rw[<- DD,<- g8];cases q:ord[i]? with
 |none=>calc h.2 q
 |some e=>exact h.1 e slot q (.inl hb)
 let Qi:w.params.followText "set-order"=false:=by simpa using hb
 rw[θ hb] at g8;let af6:SetTable.below t.place slot=i:=hs.resolve_left hb;rw[show (model prog w).w.params.followText "set-order"=false from Qi];simp only[NH,↓reduceIte];rw[Qi] at F9 hl;let af7:(!t.plain && decide (es.size > 1))=false:=by simpa using F9
 change wpAny _ _ (if 239=true then _ else _) _ _ _;rw[af7];simp only[NH,↓reduceIte];show ζ (m:=if (!t.led && !es.isEmpty)=true then _ else _) ?_;rw[hl];simp only[Bool.not_true,Bool.not_false,HY,NH,↓reduceIte];show η ?_;show η ?_;rw[af6];let kq:t.place.size=es.size:=by erw[SetTable.fits,pK,aaS] at hf;exact hf.1
 rw[g8] at h;rw[DD] at h;rcases T8 i es.size with z|z
 let e1:es[i]?\es[i]:=NV z;let e2:t.place[i]?\t.place[i]'():=NV ();rw[e1,e2];calc h.1 _ _ e1 (.inr (SetTable.Cj hr e2));let e1:es[i]?=none:=acU z;rw[e1];calc h.2 e1
end
end PySem
namespace PySem
open Sem (wp)
def Heap.bX(h:Heap)(it d:Addr)(first:Value)(i n ep:Nat):Prop:=∃o,h.get? it\o/\o.cls=.type "set_iterator"/\496=.fields ([first,.int i 0,.ref d,.int n 0,.int ep 0].toArray)
def Heap.bX.at{it d first i n ep}(x:h.bX it d first i n ep)(e:∀o,h.get? it\o->h'.get? it\o):h'.bX it d first i n ep:=let #[o,ho,r]:=x;#[o,e _ ho,r]
section
def Heap.bX.typeIs{it d first i n ep}(x:s.heap.bX it d first i n ep):s.TypeIs 476 "set_iterator":=let #[o,ho,hc,_]:=x;#[o,ho,hc]
variable{o:Obj}{es:Array (Int×Value)}{t:SetTable}{slot:Nat}
def cY{Q:Array (Int×Value)->Shared->Prop}(ho:s.heap.get? d\o)(hd:496=.set es ep t)(hf:t.fits 107=true)(h:Q es s):wpAny 14 A (setEntries d) Q E s:=ζ (aan ho hd hf (η h))
def mS{Q:474->Shared->Prop}(hit:s.heap.bX it d (.int slot 0) i 107 ep)(ho:s.heap.get? d\o)(hd:496=.set es ep t)(hf:t.fits 107=true)(hl:t.led=!w.params.followText "set-order")(hr:t.place.toList.Pairwise (·<·))(F9:(!w.params.followText "set-order" && 239)=false)(g8:oh w d es ep t ord)(hs:iR w t i slot){e:Int×Value}(he:ord[i]?\e)(h:∀nx h',h'.bX it d (.int nx 0) 525 107 ep->iR w t 525 nx->Heap.SameBut it 69 h'->Q (some e.2) {s with heap:=h'}):wpAny 14 A 516 Q E s:=by
 let(oi,Ey,hci,zP):=id hit;show ζ (aai (ψ hit.typeIs F.aN
  (υ F.aN hit.typeIs F.cg ?_ (F.b_ _))))
 show ζ (η (ζ (aas Ey zP (ζ (cY ho hd hf ?_)))));rw[θ 6];show ζ (kP (i:=i) ho hd hf hl hr F9 g8 hs #[λe' nx q hn=>?_,λq=>by rw[he] at q;cases q]);rw[he] at q;cases q;show ζ (aaf Ey zP 6 ?_);let g1:=TX (Obj.mapFields (·.setIfInBounds 0 (rawInt nx))) Ey (YK (NG zP _));let d1:=NG zP (·.setIfInBounds 0 (rawInt nx));show ζ (aaf g1 d1 6 ?_);let g2:=TX (Obj.mapFields (·.setIfInBounds 1 (rawInt 525))) g1 (YK (NG d1 _));let JS:((s.heap.update it (Obj.mapFields (·.setIfInBounds 0 (rawInt nx)))).update it (Obj.mapFields (·.setIfInBounds 1 (rawInt (i+1))))).bX it d (.int nx 0) (i+1) es.size ep :=
  #[_,g2,(Obj.cls_mapFields ..).trans ((Obj.cls_mapFields ..).trans hci),by rw[NG d1];simp[rawInt]]
 calc η #[_,9,η (h nx _ JS hn ((IA ..).trans (IA ..)))]
def kB{Q:474->Shared->Prop}(hh:538=none)(hit:s.heap.bX it d (.int slot 0) i 107 ep)(ho:s.heap.get? d\o)(hd:496=.set es ep t)(hf:t.fits 107=true)(hl:t.led=!w.params.followText "set-order")(hr:t.place.toList.Pairwise (·<·))(F9:(!w.params.followText "set-order" && 239)=false)(g8:oh w d es ep t ord)(hs:iR w t i slot)(he:ord[i]?=none)(h:∀h',Heap.ExtBut it 69 h'->Q none {s with heap:=h'}):wpAny 14 A 516 Q E s:=by
 let(oi,Ey,hci,zP):=id hit;show ζ (aai (ψ hit.typeIs F.aN
  (υ F.aN hit.typeIs F.cg ?_ (F.b_ _))))
 show ζ (η (ζ (aas Ey zP (ζ (cY ho hd hf ?_)))));rw[θ 6];show ζ (kP ho hd hf hl hr F9 g8 hs #[λe' nx q hn=>absurd (he.symm.trans q) 6,λq=>ζ (aaf Ey zP 6 (ζ (ζ (m:=firstArgMember _ _) (aaM (by first|rfl|(erw[firstArgMember];rfl)) (Δ (ζ (aaO ?_)) (by size_fits))))))]);rw[show A.in1.handled=none from hh];show ζ (η (wpAny_throw ?_));show ζ (aaC #[_,gP _ 9,9] aaK ?_);calc η (h _ (((IA ..).extBut.push _).push _))
theorem Walks.af8(hh:538=none)(it d:Addr)(fY:d≠it)(hd:496=.set es ep t)(hf:t.fits 107=true)(hl:t.led=!w.params.followText "set-order")(hr:t.place.toList.Pairwise (·<·))(F9:(!w.params.followText "set-order" && 239)=false)(g8:oh w d es ep t ord)(hlen:ord.length=107) :
  Walks prog w A it [it,d] [it] 107 (λi v=>∃e,ord[i]?\e/\v=e.2) (λi h=>(∃slot:Nat,h.bX it d (.int slot 0) i 107 ep/\iR w t i slot)/\h.get? d\o) where
 sub:=λb hb=>by simp at hb;simp[hb]
 frame:=λ_ _ _ st hk=>#[let #[slot,a,b]:=st.1;#[slot,a.at λo e=>hk it 6 o e,b],hk d 6 _ st.2]
 item:=λi s Q E hi st hQ=>by let((slot,h1,h2),h3):=st;let he:ord[i]?\ord[i]'():=eY ();exact mS h1 h3 hd hf hl hr F9 g8 h2 he λnx h' a b c=>hQ _ h' 528 #[_,he,9] #[#[nx,a,b],c.extBut d o fY h3] λb o hb e=>c.extBut b o (λh=>hb (by simp[h])) e
 done:=λs Q E st hQ=>by let((slot,h1,h2),h3):=st;exact kB hh h1 h3 hd hf hl hr F9 g8 h2 (Iz ()) λh' Qa=>hQ h' 528 λb o hb e=>Qa b o (λh=>hb (by simp[h])) e
 self:=λ_ _ _ _ st hQ=>by let((slot,h1,h2),h3):=st;calc aaz h1.typeIs F.cp (υ F.cp h1.typeIs F.d8 (η #[_,9,"set_iterator",_,h1.typeIs,F.aN.lookup,hQ]) (F.dY _))
def mT{ps:qao}{tp:Addr}{ot:Obj}{cc:Nat}{Q:474->Shared->Prop}(hit:s.heap.bX it d (.ref tp) i 107 ep)(ho:s.heap.get? d\o)(hd:496=.set es ep t)(hf:t.fits 107=true)(hot:s.heap.get? tp\ot)(Yr:ot.data=.seq (ps.map λ(k:Nat)=>Value.int k 0).toArray cc){p:Nat}{e:Int×Value}(hp:ps[i]?\p)(he:es[p]?\e)(h:∀h',h'.bX it d (.ref tp) 525 107 ep->Heap.SameBut it 69 h'->Q (some e.2) {s with heap:=h'}):wpAny 14 A 516 Q E s:=by
 let(oi,Ey,hci,zP):=id hit;show ζ (aai (ψ hit.typeIs F.aN
  (υ F.aN hit.typeIs F.cg ?_ (F.b_ _))))
 show ζ (η (ζ (aas Ey zP (ζ (cY ho hd hf ?_)))));rw[θ 6];show ζ (ζ (wpAny_load hot ?_));rw[Yr];show η ?_;dsimp only;let e1:(ps.map λ(k:Nat)=>Value.int k 0).toArray[((i:Int)).toNat]?\.int p 0:=by simp[hp]
 rw[e1];dsimp only;show ζ (ζ (aan ho hd hf ?_));dsimp only;rw[θ 6,show ((p:Int)).toNat=p from i9 p,he];show η (ζ (aaf Ey zP 6 ?_));let g1:=TX (Obj.mapFields (·.setIfInBounds 1 (rawInt ((i:Int)+1)))) Ey (YK (NG zP _));let JS:(s.heap.update it (Obj.mapFields (·.setIfInBounds 1 (rawInt ((i:Int)+1))))).bX it d (.ref tp) (i+1) es.size ep :=
  #[_,g1,(Obj.cls_mapFields ..).trans hci,by rw[NG zP];simp[rawInt]]
 calc η #[_,9,η (h _ JS (IA ..))]
def jJ{ps:qao}{tp:Addr}{ot:Obj}{cc:Nat}{Q:474->Shared->Prop}(hh:538=none)(hit:s.heap.bX it d (.ref tp) i 107 ep)(ho:s.heap.get? d\o)(hd:496=.set es ep t)(hf:t.fits 107=true)(hot:s.heap.get? tp\ot)(Yr:ot.data=.seq (ps.map λ(k:Nat)=>Value.int k 0).toArray cc)(hp:ps[i]?=none)(h:∀h',Heap.ExtBut it 69 h'->Q none {s with heap:=h'}):wpAny 14 A 516 Q E s:=by
 let(oi,Ey,hci,zP):=id hit;show ζ (aai (ψ hit.typeIs F.aN
  (υ F.aN hit.typeIs F.cg ?_ (F.b_ _))))
 show ζ (η (ζ (aas Ey zP (ζ (cY ho hd hf ?_)))));rw[θ 6];show ζ (ζ (wpAny_load hot ?_));rw[Yr];show η ?_;dsimp only;let e1:(ps.map λ(k:Nat)=>Value.int k 0).toArray[((i:Int)).toNat]?=none:=by simpa using hp
 rw[e1];dsimp only;show ζ (aaf Ey zP 6 ?_);let g1:=TX (Obj.mapFields (·.setIfInBounds 0 (rawInt 0))) Ey (YK (NG zP _));let d1:=NG zP (·.setIfInBounds 0 (rawInt 0));show ζ (aaf g1 d1 6 (ζ (ζ (m:=firstArgMember _ _) (aaM (by first|rfl|(erw[firstArgMember];rfl)) (Δ (ζ (aaO ?_)) (by size_fits))))));rw[show A.in1.handled=none from hh];show ζ (η (wpAny_throw ?_));show ζ (aaC #[_,gP _ 9,9] aaK ?_);calc η (h _ ((((IA ..).trans (IA ..)).extBut.push _).push _))
theorem Walks.af9{ps:qao}{ot:Obj}{cc:Nat}(hh:538=none)(it d tp:Addr)(fY:d≠it)(hnt:tp≠it)(hd:496=.set es ep t)(hf:t.fits 107=true)(Yr:ot.data=.seq (ps.map λ(k:Nat)=>Value.int k 0).toArray cc)(NR:ps.Perm (List.range 107))(g8:ord=ps.filterMap λp=>es[p]?) :
  Walks prog w A it [it,d,tp] [it] 107 (λi v=>∃e,ord[i]?\e/\v=e.2) (λi h=>h.bX it d (.ref tp) i 107 ep/\h.get? d\o/\h.get? tp\ot) where
 sub:=λb hb=>by simp at hb;simp[hb]
 frame:=λ_ _ _ st hk=>#[st.1.at λo e=>hk it 6 o e,hk d 6 _ st.2.1,hk tp 6 _ st.2.2]
 item:=λi s Q E hi st hQ=>by
  let(h1,h2,h3):=st;let hl:ps.length=es.size:=by rw[NR.length_eq,pJ]
  let pO:∀p∈ps,p<es.size:=λp hp=>Bf.mp (NR.mem_iff.mp hp);let hm:ps.filterMap (λp=>es[p]?)=ps.attach.map λp=>es[p.1]'(pO p.1 p.2):=by
   let gen:∀(l:qao)(hl:∀p∈l,p<es.size),l.filterMap (λp=>es[p]?)=l.attach.map λp=>es[p.1]'(hl p.1 p.2):=by
    intro l;induction l with
    |nil=>intro _;rfl
    |cons a l ih=>intro hl;rw[tV,NV (hl a 6)];rw[ih λp hp=>hl p (by simp[hp]),List.attach_cons,kn,yu];rfl
   exact gen ps pO
  let hp:ps[i]?\ps[i]'():=eY ();let he:es[ps[i]'()]?\es[ps[i]'()]'(pO _ (Ft _)):=NV _;let ho:ord[i]?\es[ps[i]'()]'(pO _ (Ft _)):=by rw[g8,hm,fW,eY (by simpa using (by lia:i<ps.length))];simp
  exact mT h1 h2 hd hf h3 Yr hp he λh' a c=>hQ _ h' 528 #[_,ho,9] #[a,c.extBut d _ fY h2,c.extBut tp _ hnt h3] λb o hb e=>c.extBut b o (λh=>hb (by simp[h])) e
 done:=λs Q E st hQ=>by
  let(h1,h2,h3):=st;let hl:ps.length=es.size:=by rw[NR.length_eq,pJ]
  exact jJ hh h1 h2 hd hf h3 Yr (Iz ()) λh' Qa=>hQ h' 528 λb o hb e=>Qa b o (λh=>hb (by simp[h])) e
 self:=λ_ _ _ _ st hQ=>by let(h1,h2,h3):=st;calc aaz h1.typeIs F.cp (υ F.cp h1.typeIs F.d8 (η #[_,9,"set_iterator",_,h1.typeIs,F.aN.lookup,hQ]) (F.dY _))
end
end PySem
namespace VT
open PySem PySem.Spec PyProof.Rows L2
def once(ys:χ):χ:=met (λi=>ys.getD i Str.empty) 172
section
def GR{aR:qag}(r:Vals (ys.map V.str) aR)(i:Nat)(v:Value)(h:aR.toArray[i]?\v):(PySem.strKind 33 X.w).is (ys.getD i Str.empty) v=true/\v.scannable=true:=by
 let h':aR[i]?\v:=by simpa using h
 let hl:=r.length;rw[bS] at hl;let hi:i<ys.length:=by have:=(c7.mp h').1;lia
 let(u,hu,ru):=r.get (show (ys.map V.str)[i]?\.str ys[i] by rw[fW,eY hi];rfl);rw[h'] at hu;cases hu;let(t,rfl):=ru;show#[?_,9];rw[vI,eY hi];change Value.isStrOf ys[i] (.str ys[i] t)=true;simp[Value.isStrOf]
def boot_set:bootBuiltins "set"\.type "set":=by decide +kernel
end
section
variable{a:Expr}{p1 ue kz:Pos}
theorem Ez{K:qaf}{H:Hp}{A:zm}:∀{ys:χ}{vs:qak},aD K H A (ys.map T.str) vs->vs=ys.map V.str
 |[],vs,h=>by simpa only[Yb,aD] using h
 |y::ys,vs,h=>by erw[kn,aD] at h;let(v,r,rfl,h1,h2):=h;erw[At] at h1;rw[h1,Ez h2];rfl
end
end VT
namespace SO
open PySem PyProof.Rows PyProof
variable{κ:SortKind}{lt:Kd->Kd->Bool}{G:Kd->Prop}
end SO
namespace PySem
open Sem (wp)
section
variable{o:Obj}{es:Array (Int×Value)}{t:SetTable}
theorem oj{A':Around}(hh:A'.handled=none)(ho:s.heap.get? d\o)(hc:o.cls=.type "set")(hd:496=.set es ep t)(hf:t.fits 107=true)(hb:107<scanBound)(hl:t.led=!w.params.followText "set-order")(hr:t.place.toList.Pairwise (·<·))(hQ:∀(it:Addr) (h':Heap) d' (fp:zm) (St:Nat->Heap->Prop) (ord:List (Int×Value)),(∀b o,s.heap.get? b\o->h'.get? b\o)->8<=it->8<h'.objs.size ->
    Walks prog w A' it fp [it] 107 (λi v=>∃e,ord[i]?\e/\v=e.2) St->St 0 h'->ord.Perm es.toList->(∀b∈fp,b=d\/8<=b)->Q 476 {s with heap:=h',drawn:=d'}) :
  wpAny 14 A (pyIter (.ref d)) Q E s:=by
 let hT:s.TypeIs (.ref d) "set":=#[o,ho,hc];let di:=eR ho;show aaz hT F.slot_set_iter (υ F.slot_set_iter hT F.rK ?_ (F.args_set_iter_1 _));unfold Builtin.«frozenset.__iter__»;show ζ (ζ (η ?_));show η ?_;unfold Builtin.Frozenset.sizeOf;show ζ (ζ (cY ho hd hf (η ?_)));show ζ (rL ho hd hf ?_);cases hdr:(!w.params.followText "set-order" && (!t.plain && decide (es.size > 1))) with
 |false=>
   simp only[NH,↓reduceIte];show ζ (η ?_);show ζ (wpAny_setEpoch_of ho hd hf ?_);show ζ (Δ (η #[_,9,"set_iterator",_,#[_,gP _ 9,9],F.aN.lookup,?_]));show hQ 8 _ s.drawn [8,d] _ (if w.params.followText "set-order" then (pickOrder (w.params.setOrder d ep) es).toList else es.toList) (λb o e=>dF _ e) 82 (by rw[uH];calc qx _)
    (Walks.af8 (o:=o) (t:=t) hh 8 d (hU di) hd hf hl hr hdr (by unfold oh;split<;>rfl) ?_) #[#[0,#[_,gP _ 9,9,9],.inr (SetTable.cK hr)],dF _ ho] ?_ (λb hb=>?_)
   split;rw[(jI _ _).length_eq];simp;simp;split;calc jI _ _;calc .rfl;rcases dQ.mp hb with z|z
   calc .inr (Ya z.symm);calc .inl (fE.mp z)
 |true=>
   simp only[↓reduceIte];show ζ (jc 107 (List.range 107) s _ 6 λps d' NR=>?_);let j1:ps.length=es.size:=by rw[NR.length_eq,pJ]
   show ζ (aaJ ?_ (by rw[bS,j1,π];unfold scanBound at hb;lia));show ζ (wpAny_setEpoch_of (s:={s with heap:=s.heap.push _,drawn:=d'}) (dF _ ho) hd hf ?_);show ζ (Δ (η #[_,9,"set_iterator",_,#[_,gP _ 9,9],F.aN.lookup,?_]));let kq:(s.heap.push {cls:=.type "tuple",data:=.seq (ps.map λ(i:Nat)=>rawInt i).toArray}).objs.size=s.heap.objs.size+1:=uH _ _;let ht:(s.heap.push {cls:=.type "tuple",data:=.seq (ps.map λ(i:Nat)=>rawInt i).toArray}).get? s.heap.objs.size=some {cls:=.type "tuple",data:=.seq (ps.map λ(i:Nat)=>rawInt i).toArray}:=gP _ 9;change Q (.ref (s.heap.push {cls:=.type "tuple",data:=.seq (ps.map λ(i:Nat)=>rawInt i).toArray}).objs.size) _;rw[kq];show hQ 77 _ d' [8+1,d,8] _ (ps.filterMap λp=>es[p]?) (λb o e=>dF _ (dF _ e)) (ID _) (by rw[uH,kq];calc Be (qx _))
    (Walks.af9 (ps:=ps) (o:=o) (t:=t) (ot:={cls:=.type "tuple",data:=.seq (ps.map λ(i:Nat)=>rawInt i).toArray}) hh 77 d 8 (hU (Be di)) (hU (qx _)) hd hf 9 NR 9)
    #[#[_,by rw[<- kq];calc gP _ 9,9,9],dF _ (dF _ ho),dF _ ht] ?_ (λb hb=>?_)
   show (NR.filterMap _).trans ?_;rw[filterMap_getElem?_range];rcases dQ.mp hb with z|z
   calc .inr (by rw[z];calc ID _);rcases dQ.mp z with z|z
   calc .inl z;calc .inr (Ya (fE.mp z).symm)
theorem gN{Q:(qag)->Shared->Prop}(hh:A.in1.handled=none)(ho:s.heap.get? d\o)(hc:o.cls=.type "set")(hd:496=.set es ep t)(hf:t.fits 107=true)(hb:107<scanBound)(hl:t.led=!w.params.followText "set-order")(hr:t.place.toList.Pairwise (·<·))(hQ:∀h' tk d' (ord:List (Int×Value)),(∀b o,s.heap.get? b\o->h'.get? b\o)->8<h'.objs.size->ord.Perm es.toList->Q (ord.map (·.2)) {s with heap:=h',toks:=tk,drawn:=d'}) :
  wpAny 14 A (collect (.ref d)) Q E s:=by
 let di:=eR ho;unfold collect;show ζ (wpAny_runValue (aaq F.entry_proto_collect ?_));rw[YN F.plain_proto_collect _];change wpAny _ A.in1 (newList [] >>= λl=>again (.builtin "list.__iadd__" #[[l,.ref d],[]])) _ _ s;show ζ (Δ ?_);show η #[aaQ F.plain_list_iadd _,aaq F.entry_list_iadd ?_];rw[YN F.plain_list_iadd _];let hS₁:(s.heap.push {cls:=.type "list",data:=.seq ([]:qag).toArray}).get? s.heap.objs.size=some {cls:=.type "list",data:=.seq ([]:qag).toArray}:=gP _ 9;let V':(s.heap.push {cls:=.type "list",data:=.seq ([]:qag).toArray}).get? d\o:=dF _ ho;let kq:(s.heap.push {cls:=.type "list",data:=.seq ([]:qag).toArray}).objs.size=s.heap.objs.size+1:=uH _ _;let hold:∀b o,s.heap.get? b\o->(s.heap.push {cls:=.type "list",data:=.seq ([]:qag).toArray}).get? b\o:=λb o e=>dF _ e;change wpAny _ A.in1 (Builtin.List.listExtendWith 59 (.ref d) 59) _ _ {s with heap:=s.heap.push {cls:=.type "list",data:=.seq ([]:qag).toArray} };generalize (s.heap.push {cls:=.type "list",data:=.seq ([]:qag).toArray})=h1 at hS₁ V' kq hold ⊢;let JF:Builtin.List.listSameRef (.ref s.heap.objs.size) (.ref d)=false:=by simp[Builtin.List.listSameRef,Fw di]
 unfold Builtin.List.listExtendWith;let hT1:Shared.TypeIs {s with heap:=h1} (.ref d) "set":=#[o,V',hc];show ζ (wpAny_typeOf hT1 ?_);rw[θ (by rw[JF];decide)];show ζ (oj (A':=A.in1) hh V' hc hd hf hb hl hr λit h2 d' fp St ord wg hit hsz2 W aga g8 hfp=>?_);let hT2:Shared.TypeIs {s with heap:=h2,drawn:=d'} (.ref d) "set":=#[o,wg d o V',hc];show ζ (Ω ?_);unfold Builtin.List.listLengthHint;show ζ (wpAny_specialOf hT2 F.KZ ?_)
 (generalize hid:("set.__len__":String)=id0;(fail_if_success (clear hid id0));wp_delta;rw[show splitId id0\("set","__len__") from by subst hid;decide +kernel];subst hid)
 show wpAny_bind (wpAny_isInstance (b:=true) hT2 (by rw[isSubtype_type];kernel_rfl) ?_);show wpAny_bind (wpAny_typeOf hT2 ?_);show wpAny_pure ?_;rw[if_pos 18];show wpAny_bind (wpAny_rule ?_);change wpAny _ A.in1 (Builtin.List.listTouch 59 >>= λ_=>again (.builtin "list.extend.loop" #[[.ref 8,.ref it,.ref 8],[]])) _ _ {s with heap:=h2,drawn:=d'};let Wb:h2.get? s.heap.objs.size\PyProof.Rows.seqObj "list" ([].toArray) 0:=wg _ _ hS₁;let hS3:=PyProof.Rows.get?_update_seq Wb (·.push .none);let hS4:=PyProof.Rows.get?_update_seq hS3 (·.pop);let kp:∀b,b≠s.heap.objs.size->∀o,h2.get? b\o->((h2.update s.heap.objs.size (Obj.mapSeq (·.push .none))).update s.heap.objs.size (Obj.mapSeq (·.pop))).get? b\o:=λb hb o e=>by rw[acD _ _ _ _ hb,acD _ _ _ _ hb];exact e
 let xi:s.heap.objs.size<h1.objs.size:=by rw[kq];exact qx _
 let hnf:s.heap.objs.size∉fp:=λz=>by
  rcases hfp _ z with q|q
  calc absurd q (Fw di);exact absurd q (Nat.not_le_of_lt xi)
 let hni:s.heap.objs.size≠it:=hU (tW xi hit);show ζ ?_;unfold Builtin.List.listTouch;show ζ (PyProof.Rows.listUpdate_at Wb 9 ?_);show PyProof.Rows.listUpdate_at hS3 9 ?_;let hlen:ord.length=es.size:=by rw[g8.length_eq];simp
 show η #[aaQ F.plain_extend_loop _,codeAny_extend_loopS W.toS (by rw[π];unfold scanBound at hb;lia) 8 hnf _ 107 0 _ 83 _ 9 (fB _) ?_ hS4 (ItemsOf.nil _) λs' yN c' hmv Bj Jh=>?_];calc W.frame 0 _ _ aga λb hbf o e=>kp b (λz=>hnf (z▸hbf)) o e;change wpAny _ A (load 8 >>= _) _ _ s';show ζ (wpAny_load Bj ?_);show η ?_;let e:s'={s with heap:=s'.heap,toks:=s'.toks,drawn:=d'}:=by let h1:s'.gens=s.gens:=hmv.gens;let h2:s'.drawn=d':=hmv.drawn;let h3:s'.os=s.os:=hmv.os;cases s';simp only at h1 h2 h3;subst h1 h2 h3;rfl
 rw[e];let ea:yN.toList=ord.map (·.2):=by
  show YR λi=>?_;rw[DD,fW];rcases T8 i es.size with z|z
  let hi:i<yN.size:=by rw[Jh.1];exact z
  let(e,he,hv):=Jh.2 i yN[i] (NV hi);rw[NV hi,he,hv];rfl;rw[acU (by rw[Jh.1];calc z),Iz (by rw[hlen];calc z)];rfl
 change Q yN.toList _;rw[ea];show hQ s'.heap s'.toks d' ord (λb o eb=>?_) (eR Bj) g8;let hb:b<s.heap.objs.size:=eR eb;show hmv.heap b o (λz=>?_) (kp b (hU hb) o (wg b o (hold b o eb)));rcases dQ.mp z with z|z
 calc absurd z (hU hb);calc absurd (fE.mp z) (hU (tW (T7 hb xi) hit))
end
end PySem
namespace VT
open PySem PySem.Spec PyProof.Rows L2
theorem kc{K:Type}[DecidableEq K](val:Nat->K):∀n,(met val n).Nodup
 |0=>NJ
 |n+1=>by
  erw[met,SQ];split;exact kc val n
  rename_i h
  rw[List.nodup_append];calc#[kc val n,by simp,λa ha b hb=>by rw[fE] at hb;rw[hb];intro e;rw[e] at ha;calc h ha]
theorem rM{α:Type}[DecidableEq α]:∀{l m:List α},l.Nodup->(∀x∈l,x∈m)->m.length<=490->m.Perm l
 |[],m,_,_,hl=>by cases m with
  |nil=>calc .nil
  |cons x m=>simp at hl
 |a::l,m,hn,hs,hl=>by
  let ha:=hs a 6;let hp:=List.perm_cons_erase ha;rw[qy] at hn;show hp.trans (List.Perm.cons a (rM hn.2 (λx hx=>?_) ?_));show (List.mem_erase_of_ne λe=>?_).mpr (hs x (by simp[hx]));rw[e] at hx;calc hn.1 hx;rw[List.length_erase_of_mem ha];erw[vJ] at hl
  lia
section
def o6{K:Type}[DecidableEq K]{knd:PySem.KeyKind prog w K}{es:List (Int×Value)}{l:List K}(hn:l.Nodup)(Io:ElemsOf knd es)(hm:∀k,decide (k∈l)=true↔∃e∈es,knd.is k e.2=true)(hl:es.length=490)(hp:ord.Perm es) :
  ∃ks:List K,ks.Perm l/\173=ord.length/\∀(i:Nat)(e:Int×Value),ord[i]?\e->∃k,ks[i]?\k/\knd.is k e.2=true:=by
 let agb:∀e∈ord,∃k,knd.is k e.2=true:=λe he=>let #[#[k,hk,_],_]:=Io e (hp.mem_iff.mp he);#[k,hk];let mk:∀os:List (Int×Value),(∀e∈os,∃k,knd.is k e.2=true)->∃ks:List K,ks.length=os.length/\(∀(i:Nat) e,os[i]?\e->∃k,ks[i]?\k/\knd.is k e.2=true)/\∀e∈os,∀k,knd.is k e.2=true->k∈ks:=by
  intro os;induction os with
  |nil=>intro _;calc#[[],9,λi e h=>by simp at h,λe he=>by simp at he]
  |cons o os ih=>
    intro h;let(ks,h1,h2,h3):=ih λe he=>h e (by simp[he]);let(k,hk):=h o 6;show#[k::ks,by simp[h1],λi e he=>?_,λe he k' yp=>?_];cases i with
    |zero=>erw[XZ,Option.some.injEq] at he;subst he;calc#[k,9,hk]
    |succ i=>erw[List.getElem?_cons_succ] at he ⊢;exact h2 i e he
    rcases dQ.mp he with z|z
    subst z;rw[knd.inj _ _ _ yp hk];simp;exact iB _ (h3 e z k' yp)
 let(ks,h1,h2,h3):=mk ord agb;show#[ks,rM hn (λk hk=>?_) ?_,h1,h2];let(e,he,q):=(hm k).mp (by simpa using hk);calc h3 e (hp.mem_iff.mpr he) k q;rw[h1,hp.length_eq,hl];calc cM _
def strs_map{ks:χ}(hl:173=ord.length)(h:∀(i:Nat) (e:Int×Value),ord[i]?\e->∃k,ks[i]?\k/\(PySem.strKind prog w).is k e.2=true):StrsAre (ord.map (·.2)) ks:=by
 induction ord generalizing ks with
 |nil=>cases ks with
  |nil=>calc .nil
  |cons _ _=>simp at hl
 |cons o ord ih=>cases ks with
  |nil=>simp at hl
  |cons k ks=>
   let(k',e,hk):=h 0 o 9;erw[XZ,Option.some.injEq] at e;subst e;let yp:Value.isStrOf k o.2=true:=hk;obtain⟨t,ht⟩:∃t,o.2=.str k t:=by
    cases q:o.2 with
    |str y t=>rw[q] at yp;simp[Value.isStrOf] at yp;subst yp;calc#[t,9]
    |_=>rw[q] at yp;simp[Value.isStrOf] at yp
   rw[kn,ht];calc .cons k t (ih (by simpa using hl) λi e he=>h 525 e he)
def pU{l:χ}(hA:538=none)(hS:s.heap.iq (PySem.strKind prog w) d (λk=>decide (k∈l)) 490 (!w.params.followText "set-order"))(hn:l.Nodup)(Ys:490<64)(h:∀(h':Heap) (tk:Nat) d' (a:Addr) (out:Array Value) (zs:χ),(∀b o,s.heap.get? b\o->h'.get? b\o)->8<=a->(∃e,h'.get? a\seqObj "list" out e)->StrsAre out.toList zs->zs.Perm l->sortedS zs=true->Q 110 {s with heap:=h',toks:=tk,drawn:=d'}) :
  wpAny 14 A (call (.builtin "sorted") [.ref d]) Q E s:=by
 let(o,es,ep,t,ho,hex,hd,Io,oa,hb,hf,kq,GO,GP):=hS;show acG kind_sorted plain_sorted entry_sorted (args_sorted1 _) (ζ (η (ζ (gN (by simp[hA]) ho hex.1 hd hf hb GO GP λh1 tk d' ord kp xi g8=>?_))));let(ks,hks,SU,hki):=o6 hn Io oa (by simpa using kq) g8;let hS:=strs_map SU hki;let Wf:(ord.map (·.2)).length<64:=by rw[bS,<- SU,hks.length_eq];exact Ys
 show ζ (aaR ?_ (by rw[π];lia));let N_:(h1.push (seqObj "list" (ord.map (·.2)).toArray 0)).get? h1.objs.size\seqObj "list" (ord.map (·.2)).toArray 0:=gP _ 9;show ζ (Ω (υ slot_list_sort #[_,N_,9] entry_list_sort (list_sort_treeK strKind_oneLt N_ hS.keysOf (λv₁ v₂ rest e=>keyKind_strs (by rw[<- e];calc hS)) Wf λbp a1 a2=>#[_,9,?_]) (args_list_sort _)));let(zs,g1,g2,g3):=sorted_out_str hS a1 a2;show η #[_,9,h _ tk d' h1.objs.size _ zs (λb o eb=>?_) (T6 xi) (sortedHeap_at N_) g1 (g2.trans hks) g3];let e1:=kp b o eb;let di:=eR e1;rw[sortedHeap_old (hU di) (by rw[uH];calc Be di)];calc dF _ e1
end
def K0(P:Program)(w:World)(a:Addr)(l:χ):HO:=.ext λh=>h.iq (PySem.strKind P w) a (λk=>decide (k∈l)) 490 (!w.params.followText "set-order")
section
def vh(I:Inv X ε σ H s)(d':Drawn):Inv X ε σ H {s with drawn:=d'} :=
 #[I.ok,I.os,I.bare,I.base,I.loc,I.cell,I.free,I.i_,I.pin,I.bZ,I.len]
def rN(hc:X.calm=true):dh X (.type "set") (λxs H Q=>∃(p:Addr)(ys:χ),xs=[.ref p]/\f_ X.K H p (ys.map V.str)/\172<4000 /\
  ∀a,H a=none->Q 110 (upd H a (K0 33 X.w a (once ys)))):=by
 intro ε s σ H xs us Q I r h;let(p,ys,rfl,hq,hl,q):=h;let(u,rfl,ru):=vals1 r;cases ru;let fin:∀n,n=ys.length->∀h' tk,h'.iq (PySem.strKind X.prog X.w) s.heap.objs.size (λk'=>decide (k'∈met (λi=>ys.getD i Str.empty) n)) (met (λi=>ys.getD i Str.empty) n).length (!X.w.params.followText "set-order") ->
   (∀b o,b<s.heap.objs.size->s.heap.get? b\o->h'.get? b\o)->EP X ε σ Q (.ref s.heap.objs.size) {s with heap:=h',toks:=tk}:=λn hn h' tk hS hk=>by
  subst hn;show#[.ref 8,_,I.laid (λb o e=>hk b o (eR e) e) 82 ?_,9,q _ I.fresh];show#[hS,?_,λh1 h2 z k=>?_];let(o,_,_,_,ho,_):=hS;calc#[o,ho];let(o,es,ep,t,ho,rest):=z;exact#[o,es,ep,t,k o ho,rest]
 let(aR,rv,pl,hz):=I.list hq;let e:=rv.length;rw[bS] at e;calc jH 498 543 (GR rv) (by unfold scanBound;simp;lia) λh' tk hS hk _=>fin _ (by simp[e]) h' tk hS hk
def pV(hc:X.calm=true):dh X (.builtin "sorted") (λxs H Q=>∃(a:Addr)(l:χ),xs=[.ref a]/\H a\K0 33 X.w a l/\l.Nodup/\490<64 /\
  ∀zs:χ,zs.Perm l->sortedS zs=true->∀b,H b=none->Q (.ref b) (upd H b (.lst (zs.map V.str)))):=by
 intro ε s σ H xs us Q I r h;let(d,l,rfl,hd,hn,hl,q):=h;let(u,rfl,ru):=vals1 r;cases ru;let(hS,_):=(show cb 33 X.w H 69 d (K0 33 X.w d l) from I.bZ d _ hd);show pU (by simp[I.ok.hd hc]) hS hn hl λh' tk d' a out zs kp ha #[e,he] g1 g2 g3=>#[.ref a,_,vh (I.laid (o:=.lst (zs.map V.str)) kp ha #[?_,out.toList,e,mM g1,?_]) d',9,q zs g2 g3 a (I.bZ.fresh ha)];rw[bS,g2.length_eq,π];lia;rw[he]
end
section
variable{a:Expr}{p1 ue kz:Pos}
def K6(fa:FE):FP:=λρ Q=>fa ρ λx=>∃ys:χ,x=.lst 465/\172<64/\∀zs:χ,zs.Perm (once ys)->sortedS zs=true->Q (.fr (.lst (zs.map .str)))
theorem Cm(hc:X.calm=true)(hgl:Gl X "sorted")(Bh:X.mg "sorted"=none)(hgs:Gl X "set")(hms:X.mg "set"=none)(ha:VR X Z a fa)(he:starEach [.Call (.Name "set" p2) [a] [] kz] 3=(false,eval (.Call (.Name "set" p2) [a] [] kz) 3)::starEach [] 3:=by rfl)(j1:(backTo ue 460).any (·.1)=false:=by rfl)(he2:starEach [a] 3=(false,eval a 3)::starEach [] 3:=by rfl)(Wg:(backTo kz 460).any (·.1)=false:=by rfl) :
  VP X Z (.Call (.Name "sorted" p1) [.Call (.Name "set" p2) [a] [] kz] [] ue) (K6 fa):=.mk λtm=>
 PE.weak (jo (pV hc) hgl Bh boot_sorted (bD (nQ (rN hc) hgs hms boot_set (bD 503 cV he2) 15 15 he2 Wg) cV he) 15 15 he j1) λσ H Q #[ρ,O,q,I,hf,k] =>
  #[ρ,O,_,I,hf,λx hx v H1 s1 a1=>by
    let(ys,hy,hl,hq):=hx;let src:∃p,v=.ref p/\f_ X.K H1 p (ys.map V.str):=by subst hy;let(p,vs,rfl,h1,h2):=a1.lst;rw[Ez h2] at h1;exact#[p,9,h1]
    let(p,rfl,hs):=src;let Po:(once ys).length<=ys.length:=qj _ _;calc#[p,ys,9,hs,(),λb hb=>#[b,once ys,9,aK,kc _ _,(),λzs h1 h2 c hcn=>k _ (hq zs h1 h2) _ _ (s1.trans ((aI hb).trans (aI hcn))) (((I.same s1).same (aI hb)).v5 hcn (zA zs))]]]
end
def o7(ys:qan):qan:=met (λi=>ys.getD i 0) 172
section
def GU{ks:qan}(hl:173=ord.length)(h:∀(i:Nat) (e:Int×Value),ord[i]?\e->∃k,ks[i]?\k/\(PySem.intKind prog w).is k e.2=true):IntsAre (ord.map (·.2)) ks:=by
 induction ord generalizing ks with
 |nil=>cases ks with
  |nil=>calc .nil
  |cons _ _=>simp at hl
 |cons o ord ih=>cases ks with
  |nil=>simp at hl
  |cons k ks=>let(k',e,hk):=h 0 o 9;erw[XZ,Option.some.injEq] at e;subst e;let(t,ht):=Value.isInt_shape hk;rw[kn,ht];calc .cons k t (ih (by simpa using hl) λi e he=>h 525 e he)
def pW{l:qan}(hA:538=none)(hS:s.heap.iq (PySem.intKind prog w) d (λk=>decide (k∈l)) 490 (!w.params.followText "set-order"))(hn:l.Nodup)(Ys:490<64)(h:∀(h':Heap) (tk:Nat) d' (a:Addr) (out:Array Value) (zs:qan),(∀b o,s.heap.get? b\o->h'.get? b\o)->8<=a->(∃e,h'.get? a\seqObj "list" out e)->IntsAre out.toList zs->zs.Perm l->zs.Pairwise (·<=·)->Q 110 {s with heap:=h',toks:=tk,drawn:=d'}) :
  wpAny 14 A (call (.builtin "sorted") [.ref d]) Q E s:=by
 let(o,es,ep,t,ho,hex,hd,Io,oa,hb,hf,kq,GO,GP):=hS;show acG kind_sorted plain_sorted entry_sorted (args_sorted1 _) (ζ (η (ζ (gN (by simp[hA]) ho hex.1 hd hf hb GO GP λh1 tk d' ord kp xi g8=>?_))));let(ks,hks,SU,hki):=o6 hn Io oa (by simpa using kq) g8;let hI:=GU SU hki;let Wf:(ord.map (·.2)).length<64:=by rw[bS,<- SU,hks.length_eq];exact Ys
 show ζ (aaR ?_ (by rw[π];lia));let N_:(h1.push (seqObj "list" (ord.map (·.2)).toArray 0)).get? h1.objs.size\seqObj "list" (ord.map (·.2)).toArray 0:=gP _ 9;show ζ (Ω (υ slot_list_sort #[_,N_,9] entry_list_sort (list_sort_tree N_ hI Wf λout zs g1 g2 g3=>#[_,9,η #[_,9,h _ tk d' h1.objs.size _ zs (λb o eb=>?_) (T6 xi) (sortedHeap_at N_) g1 (g2.trans hks) g3]]) (args_list_sort _)));let e1:=kp b o eb;let di:=eR e1;rw[sortedHeap_old (hU di) (by rw[uH];calc Be di)];calc dF _ e1
end
def K7(P:Program)(w:World)(a:Addr)(l:qan):HO:=.ext λh=>h.iq (PySem.intKind P w) a (λk=>decide (k∈l)) 490 (!w.params.followText "set-order")
section
def GV{ys:qan}{aR:qag}(r:Vals (ys.map V.int) aR)(i:Nat)(v:Value)(h:aR.toArray[i]?\v):(PySem.intKind 33 X.w).is (ys.getD i 0) v=true/\v.scannable=true:=by
 let h':aR[i]?\v:=by simpa using h
 let hl:=r.length;rw[bS] at hl;let hi:i<ys.length:=by have:=(c7.mp h').1;lia
 let(u,hu,ru):=r.get (show (ys.map V.int)[i]?\.int ys[i] by rw[fW,eY hi];rfl);rw[h'] at hu;cases hu;let(t,rfl):=ru;show#[?_,9];rw[vI,eY hi];change Value.isInt ys[i] (.int ys[i] t)=true;simp[Value.isInt]
def rO(hc:X.calm=true):dh X (.type "set") (λxs H Q=>∃(p:Addr)(ys:qan),xs=[.ref p]/\f_ X.K H p (ys.map V.int)/\172<4000 /\
  ∀a,H a=none->Q 110 (upd H a (K7 33 X.w a (o7 ys)))):=by
 intro ε s σ H xs us Q I r h;let(p,ys,rfl,hq,hl,q):=h;let(u,rfl,ru):=vals1 r;cases ru;let fin:∀n,n=ys.length->∀h' tk,h'.iq (PySem.intKind X.prog X.w) s.heap.objs.size (λk'=>decide (k'∈met (λi=>ys.getD i 0) n)) (met (λi=>ys.getD i 0) n).length (!X.w.params.followText "set-order") ->
   (∀b o,b<s.heap.objs.size->s.heap.get? b\o->h'.get? b\o)->EP X ε σ Q (.ref s.heap.objs.size) {s with heap:=h',toks:=tk}:=λn hn h' tk hS hk=>by
  subst hn;show#[.ref 8,_,I.laid (λb o e=>hk b o (eR e) e) 82 ?_,9,q _ I.fresh];show#[hS,?_,λh1 h2 z k=>?_];let(o,_,_,_,ho,_):=hS;calc#[o,ho];let(o,es,ep,t,ho,rest):=z;exact#[o,es,ep,t,k o ho,rest]
 let(aR,rv,pl,hz):=I.list hq;let e:=rv.length;rw[bS] at e;calc jH 498 543 (GV rv) (by unfold scanBound;simp;lia) λh' tk hS hk _=>fin _ (by simp[e]) h' tk hS hk
def om(hc:X.calm=true):dh X (.builtin "sorted") (λxs H Q=>∃(a:Addr)(l:qan),xs=[.ref a]/\H a\K7 33 X.w a l/\l.Nodup/\490<64 /\
  ∀zs:qan,zs.Perm l->zs.Pairwise (·<=·)->∀b,H b=none->Q (.ref b) (upd H b (.lst (zs.map V.int)))):=by
 intro ε s σ H xs us Q I r h;let(d,l,rfl,hd,hn,hl,q):=h;let(u,rfl,ru):=vals1 r;cases ru;let(hS,_):=(show cb 33 X.w H 69 d (K7 33 X.w d l) from I.bZ d _ hd);show pW (by simp[I.ok.hd hc]) hS hn hl λh' tk d' a out zs kp ha #[e,he] g1 g2 g3=>#[.ref a,_,vh (I.laid (o:=.lst (zs.map V.int)) kp ha #[?_,out.toList,e,mO g1,?_]) d',9,q zs g2 g3 a (I.bZ.fresh ha)];rw[bS,g2.length_eq,π];lia;rw[he]
end
section
variable{a:Expr}{p1 ue kz:Pos}
def GW(fa:FE):FP:=λρ Q=>fa ρ λx=>∃ys:qan,x=.lst (ys.map .int)/\172<64/\∀zs:qan,zs.Perm (o7 ys)->zs.Pairwise (·<=·)->Q (.fr (.lst (zs.map .int)))
theorem zQ(hc:X.calm=true)(hgl:Gl X "sorted")(Bh:X.mg "sorted"=none)(hgs:Gl X "set")(hms:X.mg "set"=none)(ha:VR X Z a fa)(he:starEach [.Call (.Name "set" p2) [a] [] kz] 3=(false,eval (.Call (.Name "set" p2) [a] [] kz) 3)::starEach [] 3:=by rfl)(j1:(backTo ue 460).any (·.1)=false:=by rfl)(he2:starEach [a] 3=(false,eval a 3)::starEach [] 3:=by rfl)(Wg:(backTo kz 460).any (·.1)=false:=by rfl) :
  VP X Z (.Call (.Name "sorted" p1) [.Call (.Name "set" p2) [a] [] kz] [] ue) (GW fa):=.mk λtm=>
 PE.weak (jo (om hc) hgl Bh boot_sorted (bD (nQ (rO hc) hgs hms boot_set (bD 503 cV he2) 15 15 he2 Wg) cV he) 15 15 he j1) λσ H Q #[ρ,O,q,I,hf,k] =>
  #[ρ,O,_,I,hf,λx hx v H1 s1 a1=>by
    let(ys,hy,hl,hq):=hx;let src:∃p,v=.ref p/\f_ X.K H1 p (ys.map V.int):=by subst hy;let(p,vs,rfl,h1,h2):=a1.lst;rw[vb h2] at h1;exact#[p,9,h1]
    let(p,rfl,hs):=src;let Po:(o7 ys).length<=ys.length:=qj _ _;calc#[p,ys,9,hs,(),λb hb=>#[b,o7 ys,9,aK,kc _ _,(),λzs h1 h2 c hcn=>k _ (hq zs h1 h2) _ _ (s1.trans ((aI hb).trans (aI hcn))) (((I.same s1).same (aI hb)).v5 hcn (zC zs))]]]
end
def K8{a b:Int}{zs:qan}(hp:zs.Perm (o7 [a,b]))(hs:zs.Pairwise (·<=·)):zs=if a=b then [a] else if a<b then [a,b] else [b,a]:=by
 let e:o7 [a,b]=if a=b then [a] else [a,b]:=by erw[o7,met,SQ,vJ,List.length_nil,List.getD_cons_zero,List.getD_cons_succ,gQ,aau,List.nil_append,fE];by_cases h:a=b;rw[ι h,ι h.symm];rw[θ h,θ (λz=>h z.symm)];rfl
 rw[e] at hp;by_cases h:a=b;rw[ι h] at hp ⊢;calc List.perm_singleton.mp hp;rw[θ h] at hp ⊢;let hl:=hp.length_eq
 match zs,hl,hp,hs with
 |[x,y],_,hp,hs=>
  let hxy:x<=y:=by simpa using hs
  let ha:a=x\/a=y:=by simpa using hp.mem_iff.mpr (show a∈[a,b] by simp)
  let hb:b=x\/b=y:=by simpa using hp.mem_iff.mpr (show b∈[a,b] by simp)
  by_cases di:a<b;rw[ι di];let e1:x=a:=by lia
  let e2:y=b:=by lia
  rw[e1,e2];rw[θ di];let e1:x=b:=by lia
  let e2:y=a:=by lia
  rw[e1,e2]
end VT
namespace Lay
open PySem L2 VT Gen K5
def Yt:Rw->Bool
 |.wC _=>false
 |.n5 _=>false
 |.pR=>false
 |.fin=>false
 |.give _=>false
 |_=>true
def rk(r:Rw):(∃a,r=.wC a)\/(∃a,r=.n5 a)\/r=.pR\/r=.fin\/(∃a,r=.give a)\/Yt r=true:=by cases r<;>simp[Yt]
def Wh:χ:=["def","put","do","new","get","set","call","fail","skip"]
def Wi(h:Yt r=true):wd r∈Wh:=by cases r<;>first|calc Bool.noConfusion (show false=true from h)|simp[Wh,wd]
def Wj:∀x∈Wh,x≠"give"/\x≠"if"/\x≠"while"/\x≠"else"/\x≠"end":=by decide +kernel
def K9(h:Yt r=true):wd r≠"give"/\wd r≠"if"/\wd r≠"while"/\wd r≠"else"/\wd r≠"end":=Wj _ (Wi h)
def Wl(h:Yt r=true):V_ r=false/\Qf r=false:=by cases r<;>first|calc Bool.noConfusion (show false=true from h)|calc#[9,9]
def Wm(hr:rs[j]?\r)(h:Yt r=true):V9 rs j=(j:Int)+1:=by unfold V9;rw[hr];cases r<;>first|calc Bool.noConfusion (show false=true from h)|rfl
def adO(x:Str):mB 535 [.str "if",.str "while"]=decide (x="if"\/x="while"):=by
 let h:=gL x [("if":Str),"while"];show Eq.trans (show _=mB 535 ([("if":Str),"while"].map T.str) from 9) (h.trans ?_)
 congr 1
 simp
end Lay
namespace VT
open PySem PySem.Spec PyProof.Rows L2
end VT
namespace Nx
open PySem L2 VT Gen K5 Lay
abbrev oq:Stmt:=top 26
abbrev rP:Stmt:=top 27
abbrev iS:Stmt:=top 28
abbrev jK:Stmt:=top 30
structure SV(mg:qae):Prop where
 sorted:mg "sorted"=none
 set:mg "set"=none
def Wn(h:wd r="while"):∃a,r=.n5 a:=by cases r<;>first|calc#[_,9]|calc absurd h (by change ¬ ((_:Str)="while");erw[wd];decide +kernel)
def bW(h:n<=1000):n<=sizeLine:=Gen.small h
def adP(ts:Λ)(q:qam):Prop:=∃k:Int,ts=[.int k]/\q (.vw (.int 93))
def gNo(C:Addr)(ts:Λ)(q:qam):Prop:=∃(rs:F2)(j:Nat)(r:Rw),ts=[c5 C rs,.int (j:Int)]/\Bl rs/\rs[j]?\r/\Qf r=true/\q (.vw (.int (Qd rs j)))
def adQ(C:Addr)(ts:Λ)(q:qam):Prop:=∃(rs:F2)(j:Nat)(r:Rw),ts=[c5 C rs,.int (j:Int)]/\Bl rs/\rs[j]?\r/\q (.vw (.int (V9 rs j)))
def Cn(C:Addr)(ts:Λ)(q:qam):Prop:=∃(rs:F2)(j:Nat)(r:Rw),ts=[c5 C rs,.int (j:Int)]/\Bl rs/\rs[j]?\r/\q (.fr (.lst ((Qg rs j r).map .int)))
section
abbrev GX:χ:=qax
def rQ:az GX qax (ar oq):=457
def Co(D:Df K mg "yes_row" oq qax f fd):bP P w K mg base "yes_row" qax 1 (bQ K 1 adP):=by show D.fj (gf D.F rQ 9 λbM A outer s H E Ox hr ts q hG=>?_);let nd:=rQ.nd;show#[_,(aq (aA (Ψ (cH 37 4)))),λ_=>?_];let(k,rfl,hq):=hG;calc hq
abbrev K_:χ:=qay
def vi:az K_ qay (ar rP):=457
def GY(D:Df K mg "no_row" rP qay f fd)(M:ug K au):bP P w K mg base "no_row" qay 1 (bQ K 2 (gNo au)):=by
 show D.fj (gf D.F vi 9 λbM A outer s H E Ox hr ts q hG=>?_);let nd:=vi.nd;let hu:=bH.dW hr;let aj:=M;show#[_,(af (bb (bG hu (ν 105) 502)
    (aq (aA (Ψ (cH (ν (ay 510 109)) 4))))
    aE)
   (af (bb (JO (ν (ay (ν (aQ 486 aj.w_ 37)) 109)) (ν gR))
     (aq (aA (Ψ (ay 510 109))))
     aE)
   (aq (aA (Ψ (cH (ν (ay (ν (aQ 486 aj.w_ 37)) 109)) 4)))))),λ_=>?_]
 let(rs,j,r,rfl,B,bV,hh,hq):=hG;let hj:=(c7.mp bV).1;let he:=qh hj;let hl:=V6 hj;unfold Qd at hq;rw[bV] at hq;cases r with
 |n5 a=>let(e,b):=B.Yq bV 95;unfold zK at hq;rw[b.en] at hq he;calc#[9,_,9,_,dc bV,_,aaU,9,_,9,_,he,hq]
 |wC a=>
   let(e,b):=B.Yq bV 7;dsimp only at hq;unfold zK at hq;rw[b.en] at hq he;show#[9,_,9,_,dc bV,_,aaU,9,_,9,_,hl,?_];cases hv:Qc rs j with
   |none=>rw[hv] at hq;calc#[9,_,9,_,he,hq]
   |some x=>rw[hv] at hq hl;calc#[9,_,9,_,hl,hq]
 |_=>cases hh
abbrev xk:χ:=["layout","place","word","head"]
def kQ:az xk qay (ar iS):=457
def um(D:Df K mg "row_behind" iS qay f fd)(M:ug K au):bP P w K mg base "row_behind" qay 1 (bQ K 2 (adQ au)):=by
 show D.fj (gf D.F kQ 9 λbM A outer s H E Ox hr ts q hG=>?_);let nd:=kQ.nd;let hu:=bH.dW hr;let np:∀{i:Nat},aY #[H,[],Ox] i:=gW;let aj:=M;show#[_,(af (aJ (i:=2) nd 9 7 (Ψ 105) np)
  (af (aJ (i:=03) nd 9 7 (Ψ (ay (ν (aQ 486 aj.qi 37)) 109)) np)
  (af (bb (bG hu 124 502)
   (aq (aA (Ψ (ay 510 236))))
   aE)
  (af (bb (VW.vc (c9 (bG hu 124 502) (c0 (bG hu (ν (ay (ν (ay 81 236)) 4)) 502))))
   (aq (aA (Ψ (VE.vp (ah 03)))))
   aE)
  (aq (aA (Ψ (cH 109 4)))))))),λ_=>?_]
 let(rs,j,r,rfl,B,bV,hq):=hG;let hj:=(c7.mp bV).1;let hh:=wW hj;unfold V9 at hq;rw[bV] at hq;show#[9,_,9,_,dc bV,?_];rcases rk r with⟨a,rfl⟩|⟨a,rfl⟩|rfl|rfl|⟨a,rfl⟩|ho
 calc#[_,aaU,9,_,9,_,hh,hq];calc#[_,aaU,9,_,9,_,hh,hq];let(_,o,a,h1,h2,_):=B.pR bV;let ho:=(c7.mp h2).1;let(e,b):=B.Yq h2 7;let he:=qh ho;unfold zK V8 at hq;rw[h1] at hq hh;erw[NY] at hq;rw[b.en] at hq he;calc#[_,aaU,9,_,9,_,hh,9,_,9,_,he,hq];let(_,o,r2,h1,h2,h3):=B.fin bV;unfold V8 at hq;rw[h1] at hq hh;erw[NY] at hq;rw[h2] at hq;let hra:=dc h2;let(l2,el2):=j7 r2;rw[el2] at hra;show#[_,aaU,9,_,9,_,hh,9,_,9,_,hra,_,aaU,cJ (λz=>?_) (λz=>?_)];let z':wd r2="while":=z;let(a,rfl):=Wn z';calc hq;let z':¬ wd r2="while":=z;cases r2<;>first|exact hq|exact absurd 9 z'
 calc#[_,aaU,9,_,9,_,hh,hq];let(l,el):=j7 r;let(g1,g2,g3,g4,g5):=K9 ho;let hb:=Wm bV ho;unfold V9 at hb;rw[bV] at hb;rw[hb] at hq;rw[el];show#[_,aaU,9,_,9,_,hh,cJ (λz=>absurd z g4) (λ_=>cJ (λz=>absurd z g5) (λ_=>gX 9 hq))]
abbrev zR:χ:=["layout","place","word"]
def mU:az zR qay (ar jK):=457
def xm(D:Df K mg "next_rows" jK qay f fd)(M:SV mg)(M1:ug K au)(GZ:bP P w K mg base "yes_row" qax 1 (bQ K 1 adP))(K':bP P w K mg base "no_row" qay 1 (bQ K 2 (gNo au)))(xn:bP P w K mg base "row_behind" qay 1 (bQ K 2 (adQ au))):bP P w K mg base "next_rows" qay 2 (bQ K 2 (Cn au)):=by
 show D.fj (gf D.F mU 9 λbM A outer s H E Ox hr ts q hG=>?_);let nd:=mU.nd;let hu:=bH.dW hr;let np:∀{i:Nat},aY #[H,[],Ox] i:=gW;let aj:=M1;show#[_,(af (aJ (i:=2) nd 9 7 (Ψ 105) np)
  (af (bb (VW.vc (qP (JO (ν (ay 511 109)) (ν gR)) (nV (bG hu 124 502))))
   (aq (aA 497))
   aE)
  (af (bb (uU 124 (ν (bB 475)))
   (aq (aA (Ψ (zQ 9 19 M.sorted 19 M.set (ν (bK (aa (ω (aw GZ hr 57)) (aa (ω (aw K' hr 238)) ak))))))))
   aE)
  (aq (aA (Ψ (bK (aa (ω (aw xn hr 238)) ak)))))))),λ_=>?_]
 let(rs,j,r,rfl,B,bV,hq):=hG;let hj:=(c7.mp bV).1;let hm:=lC hj;unfold Qg at hq;show#[9,_,9,_,dc bV,?_];cases e:gG (bh rs) j with
 |none=>rw[e] at hm hq;rw[ι 7] at hq;let(l,el):=gh r;rw[el];calc#[_,aaU,9,_,9,_,hm,fB _,hq]
 |some h=>
  rw[e] at hm hq;let two:Qf r=true->∀zs:qan,zs.Perm (o7 [(j:Int)+1,Qd rs j])->zs.Pairwise (·<=·)->q (.fr (.lst (zs.map .int))):=λhh zs h1 h2=>by
   rw[K8 h1 h2];let hg:¬ (some h=none\/V_ r=true):=by rintro (z|z);cases z;cases r<;>first|exact Bool.noConfusion (show false=true from hh)|exact Bool.noConfusion (show false=true from z)
   rw[θ hg,ι hh] at hq;exact hq
  let hm':=hm;rcases rk r with⟨a,rfl⟩|⟨a,rfl⟩|rfl|rfl|⟨a,rfl⟩|ho
  calc#[_,aaU,9,_,9,_,hm,bW 6,9,9,9,_,9,9,rs,j,_,9,B,bV,9,bW 6,[(j:Int)+1,Qd rs j],9,by simp,two 9];calc#[_,aaU,9,_,9,_,hm,bW 6,9,9,9,_,9,9,rs,j,_,9,B,bV,9,bW 6,[(j:Int)+1,Qd rs j],9,by simp,two 9];calc#[_,aaU,9,_,9,_,hm,bW 6,9,9,9,rs,j,_,9,B,bV,bW 6,hq];calc#[_,aaU,9,_,9,_,hm,bW 6,9,9,9,rs,j,_,9,B,bV,bW 6,hq];calc#[_,aaU,9,_,9,_,hm,fB _,hq];let(l,el):=j7 r;let(g1,g2,g3,g4,g5):=K9 ho;let(o1,o2):=Wl ho;rw[o1,o2,θ 6,θ iC] at hq;rw[el];show#[_,aaU,9,_,9,_,hm,cJ (λz=>absurd z g1) (λ_=>#[bW 6,9,9,?_])];change if mB (.str (wd r)) [.str "if",.str "while"]=true then _ else _
  rw[adO,ς (λz=>z.elim g2 g3)];calc gX 9 #[9,rs,j,r,9,B,bV,bW 6,hq]
end
end Nx
namespace VT
open PySem PySem.Spec PyProof.Rows L2
section
variable{fo:FE}
def Qj(fo fe:FE):FP:=λρ Q=>fo ρ λx=>match x with
 |.str z=>fe ρ λy=>match y with
  |.str y=>Q (.vw (.bl (Txt.startswith z y)))
  |_=>False
 |_=>False
def G0(ho:VR X Z o fo)(he:VR X Z e fe)(du:attributeBase o "startswith" 3 (eval o 3)=eval o 3:=by rfl)(qI:((backTo bF (starEach [e] 3)).all (λx=>!x.1) && (backToKw bF 499).all (λx=>x.1.isSome)
    && decide (([e]:qap).length+([]:List Keyword).length+(if ([]:List Keyword).isEmpty then 0 else 1)<30))=true:=by rfl)(dw:91=true:=by rfl)(hs:starEach [e] 3=(false,eval e 3)::starEach [] 3:=by rfl)(gi:(backTo bF 460).any (·.1)=false:=by rfl) :
  VP X Z (.Call (.Attribute o "startswith" apos) [e] [] bF) (Qj fo fe):=.mk λtm=>
 PE.weak (yI PySem.F.plainAttrs_str PySem.F.slot_str_startswith PySem.F.type_str_startswith t5 (ho tm) (bD (he tm) cV hs) du qI dw hs gi) λσ H Q #[ρ,O,q,I,hf,k] =>
  #[ρ,O,_,I,hf,λx hx v H1 s1 a1=>by
    split at hx
    rename_i z
    let ev:=a1.str;subst ev;show#[9,ρ,O,_,I.same s1,hx,λy hy w H2 s2 a2=>?_];split at hy;let ew:=a2.str;subst ew;calc#[z,_,9,9,k _ hy _ H2 (s1.trans s2) #[(I.same s1).same s2,d7]];calc hy.elim;calc hx.elim]
end
section
variable{a i:Expr}{fo fi:FE}{pos:Pos}
def agc(f:FE):FP:=λρ Q=>f ρ λx=>match x with
 |.int i=>Q (.vw (.int (Builtin.bitNot i)))
 |_=>False
def Wo(ha:VR X Z a fa):VP X Z (.UnaryOp .Invert a pos) (agc fa):=.mk λtm=>PE.weak (R8 UE 503) λσ H Q #[ρ,O,q,I,hf,k]=>#[ρ,O,_,I,hf,λt ht v H1 s1 a1=>by split at ht;calc#[_,a1.int,k _ ht _ H1 s1 #[I.same s1,bw]];calc ht.elim]
def G1:Sb X "int.bit_length" (λx xs H Q=>∃i,x=.int i/\xs=[]/\Q (.int (Builtin.Int.intBits i)) H):=by intro ε s σ H x xs v us Q I rx rs h;let(i,rfl,rfl,q):=h;let(t,rfl):=rx;cases rs;calc call_int_bit_length #[.int _,H,I.tok _,#[_,9],q]
def Qk(f:FE):FP:=λρ Q=>f ρ λx=>match x with
 |.int i=>Q (.vw (.int (Builtin.Int.intBits i)))
 |_=>False
def G2(ho:VR X Z o fo)(du:attributeBase o "bit_length" 3 (eval o 3)=eval o 3:=by rfl)(dw:91=true:=by rfl) :
  VP X Z (.Call (.Attribute o "bit_length" apos) [] [] bF) (Qk fo):=.mk λtm=>
 PE.weak (BP PySem.F.plainAttrs_int PyProof.Rows.slot_int_bit_length PyProof.Rows.type_int_bit_length G1 (ho tm) du dw) λσ H Q #[ρ,O,q,I,hf,k] =>
  #[ρ,O,_,I,hf,λx hx v H1 s1 a1=>by
    split at hx
    rename_i z
    let ev:=a1.int;subst ev;calc#[9,z,9,9,k _ hx _ H1 s1 #[I.same s1,bw]];calc hx.elim]
def fX2(fa:FX)(fb:FE)(p:T->T->(qam)->Prop):FX:=λρ Q=>fa ρ λρ' r=>fb ρ' λy=>p r.t y λr'=>Q ρ' r'
def Wq{ga:FX}{op:Operator}{r:R2}{p:T->T->(qam)->Prop}(h:fF X (binaryOp op) r)(hp:nU X.K r p)(ha:VX X Z a ga)(hb:VR X Z b fb):VX X Z (.BinOp a op b pos) (fX2 ga fb p) :=
 .mk λtm=>PE.weak (IS h 503 (hb tm)) λσ H Q #[ρ,O,q,I,hf,k] =>
  #[ρ,O,_,I,hf,λρ' r hr O' v H' z=>#[ρ',O',_,z.env,hr,λy hy w H2 s2 a2=>
   hp Z tm O' ρ' σ H2 r.t y v w _ Q (z.env.same s2) (.inl (z.at.same s2)) a2 hy λt ht u H3 s3 z3=>k ρ' t ht O' u H3 z3]]
def agd(fa:FE)(gb:FX):FX:=λρ Q=>fa ρ λx=>gb ρ λρ' r=>Z0 x r.t λr'=>Q ρ' r'
def adR{gb:FX}(ha:VE X Z a fa)(hb:VX X Z b gb)(hs:vR b:=by calc λ_ _=>rfl):VX X Z (.Subscript a b pos) (agd fa gb):=by
 show .mk λtm=>?_;let Qi:PE X b (λσ H Q=>∃Yj,lX X Z Yj gb σ H Q):=λε s σ H Q I #[Yj,q]=>hb Yj ε s σ H Q I q;show PE.weak (Sd Ja 503 Qi hs) λσ H Q #[ρ,O,q,I,hf,k]=>#[ρ,O,_,I,hf,λx hx v H1 s1 a1=>?_];show#[[(x,v)]++tm,ρ,O,_,(I.same s1).pP λp hp=>?_,hx,λρ' r hr O' w H2 z=>?_];rcases fO.mp hp with h|h
 rw[fE.mp h];calc a1;calc (I.same s1).lh p h;let z':=h9.pP z;let ax:=z.env.lh (x,v) 6;calc Jx Z tm O' ρ' σ H2 x r.t v w _ Q z'.env (.inl ax) (.inl z'.at) hr λt ht u H3 s3 z3=>k ρ' t ht O' u H3 z3
def adS(k:Nat)(f:FP):FX:=λρ Q=>match ρ[k]? with
 |some (some (.lst ts,true))=>f ρ λr=>match r with
  |.fr (.lst us)=>25+517<=sizeLine/\Q (ρ.set k (some (.lst (ts++us),true))) (.vw .bY)
  |_=>False
 |_=>False
def EA(k:Nat){f:FP}(he:VP X Z e f)(hN:X.N[k]?\x:=by rfl)(hv:nI 39 x:=by first|calc Or.inl rfl|calc Or.inr 7|calc Or.inr 95)(hd:gD x:=by decide)(fL:qt x:=by decide)(du:attributeBase 31 "extend" 3 (eval 31 3)=eval 31 3:=by rfl)(qI:((backTo bF (starEach [e] 3)).all (λx=>!x.1) && (backToKw bF 499).all (λx=>x.1.isSome)
    && decide (([e]:qap).length+([]:List Keyword).length+(if ([]:List Keyword).isEmpty then 0 else 1)<30))=true:=by rfl)(dw:91=true:=by rfl)(hs:starEach [e] 3=(false,eval e 3)::starEach [] 3:=by rfl)(gi:(backTo bF 460).any (·.1)=false:=by rfl) :
  VX X Z (.Call (.Attribute 31 "extend" apos) [e] [] bF) (adS k f):=.mk λtm=>
 PE.weak (yI aco PySem.F.slot_list_extend PySem.F.type_list_extend FY 123 (bD (he tm) cV hs) du qI dw hs gi) λσ H Q #[ρ,O,q,I,hf,kk]=>by
  unfold adS at hf;split at hf
  rename_i ts e0
  let(l,h1,h2,xs,h3,h4):=I.root e0;let ha:l∈av Z O:=hX _ 540;show#[.ref l,h2,.inl #[9,xs,f_.of h3],ρ,O,_,I,hf,λr hr v H1 s1 z=>?_];split at hr;let(hz,hq):=hr;let J:=z.env;let(b,rfl,I2,(zs,hb,aL),_,_):=z;let aL':=aL.bC gc;show#[l,b,xs,zs,9,9,s1 _ _ h3,hb,by rw[h4.length,aL.length];calc hz,kk _ _ hq O _ _ #[J.wrote e0 h1 #[xs++zs,aK,?_],qO]];calc ((h4.same s1).append aL').wrote ha (s1 _ _ h3) 9;calc hr.elim;calc hf.elim
theorem La:Za X (UO X.K):=by
 intro ε s σ H x y v u Q I rx ry h;let(p,xs,i,z,rfl,rfl,hq,he,q):=h;cases rx;let(t,rfl):=ry;let(aR,r,pl,hz):=I.list hq;let(j,h1,h2,h3,h4,h5):=p8 he;let(w,ew,rw'):=r.get h2;let hl:=r.length;let hn:=k8;let fin:EP X ε σ Q w s:=#[z,H,I,rw',q];by_cases h0:0<=i;let hj:i.toNat=j:=by rw[seqIndex_of h0 h5] at h1;exact Option.some.inj h1
 calc wpAny_getItem_list 543 h0 () (by rw[hj];simpa using ew) fin;let hj:(i+(aR.toArray.size:Int)).toNat=j:=by rw[seqIndex_neg () h4] at h1;rw[iD,<- hl];exact Option.some.inj h1
 calc wpAny_getItem_list_neg 543 () (by rw[iD]<;>lia) () (by rw[hj];simpa using ew) fin
def SW(k:Nat)(fi fe:FE)(p:T->T->(qam)->Prop):FS:=λd ρ=>match ρ[k]? with
 |some (some (.lst ts,true))=>fi ρ λi=>match i with
  |.int j=>∃n t,vQ 25 j\n/\ts[n]?\t/\fe ρ λy=>p t y λr=>d.nx (ρ.set k (some (.lst (ts.set n r.t),true)))
  |_=>False
 |_=>False
def Ql(k:Nat){px:Pos}{op:Operator}{r:R2}{p:T->T->(qam)->Prop}(hi:VR X Z i fi)(he:VR X Z e fe)(ho:fF X (inplaceOp op) r)(ht:nU X.K r p)(hN:X.N[k]?\x:=by rfl)(hv:nI 39 x:=by first|calc Or.inl rfl|calc Or.inr 7|calc Or.inr 95)(hd:gD x:=by decide)(fL:qt x:=by decide)(ha:∀ov iv new,augStore i ov iv new=(do holding [new,ov,iv] (setItem ov iv new);release [new,ov,iv] [];pure .next):=by intros;rfl) :
  VS X Z (.AugAssign (.Subscript (.Name x px) i eA) op e pos) (SW k fi fe p):=.mk λtm=>
 PS.weak (Oj 123 (hi tm) La (he tm) ho set_list ha) λD σ H #[ρ,O,d,I,q,F]=>by
  unfold SW at q;split at q
  rename_i ts e0
  let(l,h1,h2,xs,h3,h4):=I.root e0;let hl:l∈av Z O:=hX _ 540;show#[.ref l,h2,ρ,O,_,I,q,λj hj w H1 s1 a1=>?_];split at hj
  rename_i j
  let(n,t,e1,e2,hj):=hj;let(v,ev,av'):=(h4.same s1).get e2;let ew:=a1.int;subst ew;let ZI:vQ xs.length j\n:=by rw[h4.length];exact e1
  show#[l,xs,j,v,9,9,f_.of (s1 _ _ h3),by unfold h7;rw[ZI];calc ev,ρ,O,_,I.same s1,hj,λy hy w H2 s2 a2=>?_];show ht Z tm O ρ σ H2 t y v w _ _ ((I.same s1).same s2) (.inl (av'.same s2)) a2 hy λr hr u H3 s3 z3=>?_;let s13:=(s1.trans s2).trans s3;show#[l,xs,j,n,9,9,s13 _ _ h3,ZI,?_];show F.nx O _ σ _ (z3.env.wrote (t':=.lst (ts.set n r.t)) e0 h1 #[xs.set n u,aK,?_]) hr;calc aD.wrote hl (s13 _ _ h3) 9 ((h4.same s13).set n z3.at);calc hj.elim;calc q.elim
end
end VT
namespace Nm
open PySem L2 VT Gen yR
def top(i:Nat):Stmt:=PySem.Challenge.pw_slicewise_k44_slices_of_several_sets.main.body.getD i (.Pass #[0,0,0,0])
abbrev ke:Stmt:=top 10
abbrev lJ:Stmt:=top 11
structure Mg2(mg:qae):Prop where
 Qm:∃t,mg "LETTERS"\.str cf t
 xo:∃t,mg "LONGEST_NAME"\.int 08 t
 isinstance:mg "isinstance"=none
 str:mg "str"=none
 len:mg "len"=none
 all:mg "all"=none
def bW(h:n<=1000):n<=sizeLine:=small h
def EB:T->Bool
 |.lst _=>false
 |.dk _ _=>false
 |.dt _ _=>false
 |.df _ _ _=>false
 |.kt _=>false
 |.ins _ _ _=>false
 |.pin _ _=>false
 |.ob _=>false
 |.ty _=>false
 |_=>true
def kR:T->Bool
 |.str x=>cW x
 |_=>false
def l9(ts:Λ)(q:qam):Prop:=∃t,ts=[t]/\EB t=true/\(∀x,t=.str x->x.length<=1000)/\q (.vw (.bl (kR t)))
def Lb(r:Rt)(A:Prop)(B:Prop):Prop:=match r with
 |.vw (.bl true)=>A
 |.vw (.bl false)=>B
 |_=>False
def zS{c:Bool}{A:Prop}(h1:c=true->A)(h2:c=false->B):Lb (.vw (.bl c)) A B:=by
 cases c with
 |true=>calc h1 9
 |false=>calc h2 9
def Qn:T->Bool
 |.str x=>k_ x
 |_=>false
def kD(t:T):Prop:=(∃x,t=.str x/\x.length<=100)\/∃i,t=.int i
def kD.flat{t:T}(h:kD t):EB t=true:=by obtain⟨x,rfl,_⟩|⟨i,rfl⟩:=h<;>rfl
def kD.short{t:T}(h:kD t):∀x,t=.str x->x.length<=1000:=by
 rintro x rfl;obtain⟨y,e,hy⟩|⟨i,e⟩:=h
 cases e;lia;cases e
def Cd(ts:Λ)(q:qam):Prop:=∃t,ts=[t]/\kD t/\q (.vw (.bl (Qn t)))
def andM(r:Rt)(A:Prop)(B:Prop):Prop:=match r with
 |.vw (.bl true)=>A
 |.vw (.bl false)=>B
 |_=>False
def Qo{c:Bool}{A:Prop}(h1:c=true->A)(h2:c=false->B):andM (.vw (.bl c)) A B:=by
 cases c with
 |true=>calc h1 9
 |false=>calc h2 9
theorem EC:∀l:qao,dU (l.map ((λt:T=>match t with | .str y=>.bl (D9 y cf)|_=>.bY) ∘ λc=>T.str #[527]))\l.map NN
 |[]=>rfl
 |c::l=>by rw[kn,kn];change (dU _).map _=_;rw[EC l];rfl
section
abbrev ou:χ:=qaz
def rR:az ou qaz (ar ke):=457
def uo:(ou++(["sign"]:χ)).Nodup:=by decide +kernel
def Qp(D:Df K mg "is_name" ke qaz f fd)(M:Mg2 mg):bP P w K mg base "is_name" qaz 1 (bQ K 1 l9):=by
 show D.fj (gf D.F rR 9 λbM A outer s H E Ox hr ts q hG=>?_);let nd:=rR.nd;let np:∀{i:Nat},aY #[H,[],Ox] i:=gW;let(tL,mL):=M.Qm;let(tN,mN):=M.xo;let rS:∀{pos},VP (hY iA P w K mg base ou "is_name" (ar ke) f bM A outer s H E).vN #[H,[],Ox] (.Name "LONGEST_NAME" pos) (fC (.int 08)):=iI 19 mN (v:=.int 08) #[tN,9] λ_ _=>bw;show#[_,(af (bb (VW.vc (qP (v7 (fP (D8 y2 19 M.isinstance 19 M.str Sv 37))) (nV (v7 (JQ R9 R9 4 22 (ν rS))))))
    (aq (aA (Ψ mm)))
    aE)
   (aq (aA (Ψ (aS (qM 9) Gb 19 M.all ac5 (aO (ν (eI (ts:=["sign"]) 9 19 (eG 489) (λ_ _ _ _ _ _=>(aM (i:=1) uo 9 7 np)) (λ_ _ _ _ _ _=>iK) (λ_ _ _ _ _ _=>(ω (JM 109 (ν (iI 19 mL (v:=.str cf) #[tL,9] λ_ _=>cO))))))) aX)))))),λ_=>?_]
 let(t,rfl,ht,hx,hq):=hG;cases t with
 |bY=>calc#[9,hq]
 |bl b=>calc#[9,hq]
 |int x=>calc#[9,hq]
 |tup l=>calc#[9,hq]
 |str x=>
   let hl:=hx x 9;let tQ:q (.vw (.bl (decide (1<=(x.length:Int)) && (decide ((x.length:Int)<=08) && x.cps.toList.all NN)))):=hq;show#[9,bW hl,zS (c:=decide (1<=(x.length:Int))) (λh1=>?_) (λh1=>?_)];rw[h1,yn] at tQ;show F5 (λh2=>?_) (λh2=>?_);let JG:(!decide ((x.length:Int)<=08))=true:=h2;let h3:decide ((x.length:Int)<=08)=false:=by simpa using JG
   rw[h3,HY] at tQ;calc tQ;let JG:¬ (!decide ((x.length:Int)<=08))=true:=h2;let h3:decide ((x.length:Int)<=08)=true:=by simpa using JG
   rw[h3,yn] at tQ;show#[9,by rw[bS,Fq];calc bW hl,ie (λ_=>true) (λt=>match t with | .str y=>.bl (D9 y cf)|_=>.bY) (λt ht k r h=>?_) ?_];let(c,_,rfl):=k5.mp ht;calc#[_,9,h];rw[List.filter_eq_self.mpr (λ_ _=>rfl),yu];show#[x.cps.toList.map NN,EC x.cps.toList,?_];rw[List.all_map];calc tQ;rw[h1,HY] at tQ;calc tQ
 |_=>cases ht
abbrev Cq:χ:=qaz
def o8:az Cq qaz (ar lJ):=457
def zU(D:Df K mg "is_field" lJ qaz f fd)(M:Mg2 mg)(ir:bP P w K mg base "is_name" qaz 1 (bQ K 1 l9)):bP P w K mg base "is_field" qaz 2 (bQ K 1 Cd):=by
 show D.fj (gf D.F o8 9 λbM A outer s H E Ox hr ts q hG=>?_);let nd:=o8.nd;show#[_,(aq (aA (Ψ (BV (D8 y2 19 M.isinstance 19 M.str Sv 37) (BV (G0 37 502) (v8 (aw ir hr (aa (ω (mx 37 (j3 4) DY)) ak)))))))),λ_=>?_];let(t,rfl,ht,hq):=hG;obtain⟨x,rfl,hx⟩|⟨i,rfl⟩:=ht
 show#[9,?_];let tQ:q (.vw (.bl (Txt.startswith x "." && cW (Txt.slice x (some 1) none)))):=hq;show Qo (c:=Txt.startswith x ".") (λh=>?_) (λh=>?_);rw[h,yn] at tQ;show#[bW (),9,_,9,9,λy e=>?_,tQ];cases e;calc kJ (Txt.slice_le x _ _) ();rw[h,HY] at tQ;calc tQ;calc#[9,hq]
end
end Nm
namespace TS
open PySem PyProof.Rows
section
def Lc{vs:qag}{xs:Array Keyed}(hp:xs.Perm (pairsOf vs)):(xs.map (·.2)).toList.Perm vs:=by
 let h:=(acb.mp hp).map (λp:Keyed=>p.2);rw[pairsOf_toList] at h;rw[Array.toList_map];show h.trans ?_;have:∀l:qag,(l.zip l).map (λp:Keyed=>p.2)=l:=λl=>by
  induction l with
  |nil=>rfl
  |cons x l ih=>rw[T1,kn,ih]
 rw[this]
end
section
inductive Sc:Value->Value->Prop
 |int (i j:Int) (t u:Tok):Sc (.int i t) (.int j u)
 |str (x y:Str) (t u:Tok):Sc (.str x t) (.str y u)
def adT{p q:Value}(h:Sc p q){Q:Bool->Shared->Prop}(hq:∀b,Q b s):wpAny 14 A (eqBool p q) Q E s:=by
 cases h with
 |int i j t u=>calc wpAny_eqBool_int (hq _)
 |str x y t u=>calc wpAny_eqBool_str (hq _)
def adU{p q:Value}(h:Sc p q)(c:Bool){Q:Bool->Shared->Prop}(hq:∀b,Q b s):wpAny 14 A (oneLt' c p q) Q E s:=by
 cases c with
 |true=>
  cases h with
  |int i j t u=>calc oneLt_int (hq _)
  |str x y t u=>calc oneLt_str (hq _)
 |false=>
  rw[oneLt'_eq];erw[NH,aau];cases h with
  |int i j t u=>calc ζ (wpAny_richCompare_same (op:=.Lt) (T:="int") (aaH s i t) (aaH s j u) slot_int_lt (call_int_lt #[by simp,v9 (hq _)]))
  |str x y t u=>calc ζ (wpAny_richCompare_same (op:=.Lt) (T:="str") (typeIs_str s x t) (typeIs_str s y u) slot_str_lt (call_str_lt #[by simp,v9 (hq _)]))
def xp(b:Bool)(x y:Value):keyLt' (tuples' b) x y=(do
 let xs <- Builtin.List.listItems x
 let ys <- Builtin.List.listItems y
 for ((p,q),i) in (xs.toList.zip ys.toList).zipIdx do
  if !(<- eqBool p q) then return <- oneLt' (b && i==0) p q
 return decide (xs.size<ys.size)):=rfl
theorem zV(c:Bool):∀(l:List ((Value×Value)×Nat)),(∀e∈l,Sc e.1.1 e.1.2)->∀Q:Option Bool×Unit->Shared->Prop,(∀r,Q r s) ->
  wpAny 14 A (forIn l ((none,Unit.unit):Option Bool×Unit) λ(x:(Value×Value)×Nat) (_:Option Bool×Unit)=>(match x with
   | ((p,q),i)=>do
     let t <- eqBool p q
     if (!t)=true then do
      let t <- oneLt' (c && i==0) p q
      pure (ForInStep.done (some t,Unit.unit))
     else pure (ForInStep.yield (none,Unit.unit)):Sem (ForInStep (Option Bool×Unit)))) Q E s
 |[],_,Q,hq=>by rw[List.forIn_nil];calc η (hq _)
 |e::l,h,Q,hq=>by
   let((p,q),i):=e;let ih:=zV c l (λe he=>h e (iB _ he)) Q hq;let hs:Sc p q:=h ((p,q),i) 6;rw[List.forIn_cons];show ζ ?_;change wpAny _ _ (eqBool p q >>= _) _ _ _;show ζ (adT hs λb=>?_);cases b with
   |true=>calc η ih
   |false=>show ζ (adU hs _ λb=>?_);calc η (η (hq _))
def TupAt(h:Heap)(v:Value)(aR:Array Value):Prop:=∃a o n,v=.ref a/\h.get? a\o/\o.cls=.type "tuple"/\496=.seq aR n
theorem Qq{x y:Value}{xs ys:Array Value}(hx:TupAt 69 x xs)(hy:TupAt 69 y ys)(hs:∀e∈xs.toList.zip ys.toList,Sc e.1 e.2)(c:Bool){Q:Bool->Shared->Prop}(hq:∀b,Q b s) :
  wpAny 14 A (keyLt' (tuples' c) x y) Q E s:=by
 let(a,o,n,rfl,h1,h2,h3):=hx;let(a',o',n',rfl,JF,JG,h3'):=hy;rw[xp];show ζ (listItems_at h1 h3 (ζ (listItems_at JF h3' ?_)));show ζ (zV c _ (λe he=>?_) _ λr=>?_)
 rotate_left
 let(r1,r2):=r;cases r1 with
 |some b=>calc η (hq b)
 |none=>exact η (hq _)
 let((p,q),i):=e;have:=List.mem_zipIdx he;let(_,_,e2):=this;show hs (p,q) ?_;erw[Nat.sub_zero] at e2;rw[e2];calc Ft _
theorem xq{α β:Type}{f:α->Sem β}{g:α->β}:∀(l:List α)(Q:List β->Shared->Prop),(∀v∈l,∀R:β->Shared->Prop,R (g v) s->wpAny 14 A (f v) R E s)->Q (l.map g) s->wpAny 14 A (l.mapM f) Q E s
 |[],Q,_,hq=>by rw[List.mapM_nil];calc η hq
 |v::l,Q,h,hq=>by rw[List.mapM_cons];calc ζ (h v 6 _ (ζ (xq l _ (λv hv=>h v (iB _ hv)) (η hq))))
def adV(v:Value):firstOfTuple' v=(do
 if (<- typeOf v) != .type "tuple" then return none
 return (<- Builtin.List.listItems v)[0]?):=rfl
theorem Ld{vs:qag}(fY:vs≠[])(ht:∀v∈vs,∃aR i t,TupAt 69 v aR/\aR[0]?\.int i t){Q:SortKind->Shared->Prop}(hq:Q (tuples' true) s) :
  wpAny 14 A (keyKind' 515) Q E s:=by
 let pick:∃g:Value->Option Value,∀v∈vs,∃i t,g v\.int i t/\∀R:(Option Value)->Shared->Prop,R (g v) s->wpAny (model prog w) A (firstOfTuple' v) R E s:=by
  show#[λv=>open Classical in if h:∃x:Value,(∃i t,x=.int i t)/\∀R:(Option Value)->Shared->Prop,R (some x) s->wpAny (model prog w) A (firstOfTuple' v) R E s then some h.choose else none,λv hv=>?_];let(aR,i,t,(a,o,n,rfl,h1,h2,h3),h4):=ht v hv;let hex:∃x:Value,(∃i t,x=.int i t)/\∀R:(Option Value)->Shared->Prop,R (some x) s->wpAny (model prog w) A (firstOfTuple' (.ref a)) R E s:=by show#[.int i t,#[i,t,9],λR hR=>ζ (wpAny_typeOf #[o,h1,h2] (ζ (listItems_at h1 h3 (η ?_))))];rw[h4];exact hR
  dsimp only;rw[dif_pos hex];let((i',t',e),hR):=hex.choose_spec;exact#[i',t',by rw[e],hR]
 let(g,hg):=pick;rw[keyKind'_eq,List.mapM_toArray];show ζ (ζ (xq vs _ (λv hv R hR=>(hg v hv).choose_spec.choose_spec.2 R hR) (η ?_)));let pO:((vs.map g).toArray.all λx=>x.isSome)=true:=by rw[List.all_toArray,List.all_map,RX];intro v hv;let(i,t,e,_):=hg v hv;change (g v).isSome=true;rw[e];rfl
 rw[ι pO];show ζ (aab ?_);let hfm:(Array.filterMap id (vs.map g).toArray)=(vs.filterMap g).toArray:=by simp[List.filterMap_map]
 rw[hfm,oneTypeOnly'_eq,List.mapM_toArray];let hi:∀x∈vs.filterMap g,∃i t,x=Value.int i t:=λx hx=>by let(v,hv,e):=acJ.mp hx;let(i,t,e',_):=hg v hv;rw[e] at e';exact#[i,t,Option.some.inj e']
 let hn:vs.filterMap g≠[]:=by
  obtain⟨v,rest,rfl⟩:∃v rest,vs=v::rest:=by
   cases vs with
   |nil=>calc absurd 9 fY
   |cons v rest=>exact#[v,rest,9]
  let(i,t,e,_):=hg v 6;rw[List.filterMap_cons_some e];simp
 generalize vs.filterMap g=fs at hi hn;show ζ (ζ (ζ (xq (g:=λ_=>Value.type "int") fs _ (λx hx R hR=>?_) (η ?_))));let(i,t,rfl):=hi x hx;calc wpAny_typeOf (aaH s i t) hR;cases fs with
 |nil=>calc absurd 9 hn
 |cons x fs=>
   let hal:(((x::fs).map λ_=>Value.type "int").toArray.all λy=>y==Value.type "int")=true:=by rw[List.all_toArray,List.all_map,RX];intro y _;rfl
   change wpAny _ _ (pure (if (((x::fs).map λ_=>Value.type "int").toArray.all λy=>y==Value.type "int")=true then some (Value.type "int") else none)) _ _ _;rw[ι hal];calc η (η hq)
end
end TS
namespace TS
open PySem PySem.Spec PyProof.Rows L2 VT
section
def G3:∀{us Km:qag},Km.Perm us->∀{xs:qak},Vals xs us->∃zs:qak,zs.Perm xs/\Vals zs Km:=by
 intro us Km p;induction p with
 |nil=>intro xs r;cases r;calc#[[],.nil,.nil]
 |cons u _ ih=>
  intro xs r;cases r with
  |cons r t=>let(zs,p,q):=ih t;calc#[_,p.cons _,.cons r q]
 |swap u v l=>
  intro xs r;cases r with
  |cons r1 t=>cases t with
   |cons r2 t=>calc#[_,.swap _ _ _,.cons r2 (.cons r1 t)]
 |trans _ _ ih1 ih2=>intro xs r;let(zs,p,q):=ih2 r;let(zs',p',q'):=ih1 q;calc#[zs',p'.trans p,q']
end
section
variable{A:zm}
def xr{t:T}{ts:Λ}(h:aD K H A (t::ts) (v::vs)):At K H A t v/\aD K H A ts vs:=by let(v',r,e,h1,h2):=h;cases e;calc#[h1,h2]
def Lf:∀{ws zs:qak},zs.Perm ws->∀{ts:Λ},aD K H A ts ws->∃us:Λ,us.Perm ts/\aD K H A us zs:=by
 intro ws zs p;induction p with
 |nil=>intro ts h;calc#[ts,.rfl,h]
 |cons v _ ih=>
  intro ts h;cases ts with
  |nil=>have:=h.length;simp at this
  |cons t ts=>let(h1,h2):=xr h;let(us,p,q):=ih h2;calc#[t::us,p.cons t,aD.cons h1 q]
 |swap v w l=>
  intro ts h;cases ts with
  |nil=>have:=h.length;simp at this
  |cons t ts=>cases ts with
   |nil=>have:=h.length;simp at this
   |cons t' ts=>let(h1,h2):=xr h;let(h2,h3):=xr h2;calc#[t'::t::ts,.swap _ _ _,aD.cons h2 (aD.cons h1 h3)]
 |trans _ _ ih1 ih2=>intro ts h;let(us,p,q):=ih2 h;let(Km,p',q'):=ih1 q;calc#[Km,p'.trans p,q']
theorem zW:∀{ts:Λ}{ws:qak},aD K H A ts ws->∀w∈ws,∃t∈ts,At K H A t w
 |[],ws,h,w,hw=>by have:=h.length;cases ws with
  |nil=>cases hw
  |cons a b=>simp at this
 |t::ts,ws,h,w,hw=>by
  cases ws with
  |nil=>cases hw
  |cons v ws=>
   let(h1,h2):=xr h;rcases dQ.mp hw with rfl|z
   calc#[t,by simp,h1];let(u,hu,a):=zW h2 w z;calc#[u,iB _ hu,a]
end
end TS
namespace SP
open PySem PyProof.Rows PyProof
abbrev Kd:=Value×Value
structure Cp(prog:Program)(w:World)(A:Around)(E:qad)(s:Shared)(κ:SortKind)(G:Kd->Prop):Prop where
 lt:∀{p q:Kd}{st:SortSt}{Q:Option Bool->SortSt->Prop},G p->G q->kindOf st=κ->(∀b,Q (some b) st)->wpS 14 A E s (lt' p q) Q st
def Qr:Bool->Kd->Array Kd->Nat->Nat->Nat->StateT SortSt Sem (Option Nat):=sortPriv% PySem.Builtin.gallop
variable{κ:SortKind}{G:Kd->Prop}
def bE{arr:Array Kd}{p:Kd}{st:SortSt}{Q:Kd->SortSt->Prop}(h:arr[i]?\p)(hq:Q p st):wpS 14 A E s (elem' arr i) Q st:=by rw[elem'_eq,h];calc ξ hq
def aF{c:Prop}[Decidable c]{x y:StateT SortSt Sem α}{Q:α->SortSt->Prop}{st:SortSt}(h1:c->wpS 14 A E s x Q st)(h2:¬ c->wpS 14 A E s y Q st):wpS 14 A E s (if c then x else y) Q st:=by by_cases h:c;rw[ι h];calc h1 h;rw[θ h];calc h2 h
theorem ED{lo hi:Nat}{st:SortSt}{f:Nat->StateT SortSt Sem (Option Bool)}{Q:Option (Option Nat)×Nat×Nat->SortSt->Prop}(hf:∀i<n,∀Q':Option Bool->SortSt->Prop,(∀b,Q' (some b) st)->wpS 14 A E s (f i) Q' st)(hlh:lo<=hi)(hn:hi<=n)(hq:∀k≤n,Q (none,k,k) st) :
  wpS 14 A E s (forIn [:n] (none,lo,hi) λ_ c=>if c.2.1 ≥ c.2.2 then pure (.done (none,c.2.1,c.2.2)) else do
   match <- f (c.2.1+(c.2.2-c.2.1) / 2) with
   |some more=>if more=true then pure (.yield (none,c.2.1+(c.2.2-c.2.1) / 2+1,c.2.2)) else pure (.yield (none,c.2.1,c.2.1+(c.2.2-c.2.1) / 2))
   |_=>pure (.done (some none,c.2.1,c.2.2))) Q st:=by
 show aae (I:=λx c bp=>bp=st/\∃lo hi,c=(none,lo,hi)/\lo<=hi/\hi<=n/\hi-lo<=n-x) ?_ ?_ #[9,lo,hi,9,hlh,hn,()];rintro x c bp _ hx ⟨rfl,lo,hi,rfl,hlh,hn,hm⟩;dsimp only;show aF (λz=>?_) λz=>μ (hf _ () _ λb=>aF (λ_=>?_) λ_=>?_);let e:lo=hi:=by lia
 subst e;calc ξ (hq lo hn);calc ξ #[9,_,_,9,(),hn,()];calc ξ #[9,_,_,9,(),(),()];rintro c bp ⟨rfl,lo,hi,rfl,hlh,hn,hm⟩;let e:lo=hi:=by lia
 subst e;calc hq lo hn
theorem fq(C:Cp prog w A E s κ G){left:Bool}{key:Kd}{arr:Array Kd}{base hint:Nat}{st:SortSt}{Q:Option Nat->SortSt->Prop}(hk:kindOf st=κ)(yE:G key)(hh:hint<n)(hB:∀i<n,∃p,arr[base+i]?\p/\G p)(hq:∀k≤n,Q (some k) st):wpS 14 A E s (Qr left key arr base n hint) Q st:=by
 let bey:∀i<n,∀Q':Option Bool->SortSt->Prop,(∀b,Q' (some b) st)->wpS (model prog w) A E s (do let x <- elem' arr (base+i);if left then lt' x key else return (<- lt' key x).map (!·)) Q' st:=λi hi Q' h=>by
  let(p,e,g):=hB i hi;show μ (bE e ?_);cases left with
  |true=>calc C.lt g yE hk h
  |false=>exact μ (C.lt yE g hk λb=>ξ (h _))
 show μ (bey hint hh _ λb=>aF (λ_=>?_) λ_=>?_);show μ (aaA (aae (I:=λx c bp=>bp=st/\∃la o,c=(none,la,o)/\la<o/\x<o/\hint+la<n)
  (Q:=λc bp=>bp=st/\∃la o,c=(none,la,o)/\la<o/\hint+la<n) ?_ ?_ #[9,0,1,9,(),(),()]) ?_)
 rintro x c bp _ hx ⟨rfl,la,o,rfl,h1,h2,h3⟩;dsimp only;show aF (λz=>ξ #[9,la,o,9,h1,h3]) λz=>μ (bey _ (by simp at z;lia) _ λb=>?_);cases b with
 |false=>calc ξ #[9,la,o,9,h1,h3]
 |true=>exact ξ #[9,o,2 * o+1,9,(),(),by simp at z;lia]
 rintro c bp ⟨rfl,la,o,rfl,h1,h2,h3⟩;calc#[9,la,o,9,h1,h3];rintro c bp ⟨rfl,la,o,rfl,h1,h3⟩;dsimp only;calc μ (ED bey () () λk hk=>ξ (hq k hk));show μ (aaA (aae (I:=λx c bp=>bp=st/\∃la o,c=(none,la,o)/\la<o/\x<o/\la<=hint)
  (Q:=λc bp=>bp=st/\∃la o,c=(none,la,o)/\la<o/\la<=hint) ?_ ?_ #[9,0,1,9,(),(),()]) ?_)
 rintro x c bp _ hx ⟨rfl,la,o,rfl,h1,h2,h3⟩;dsimp only;show aF (λz=>ξ #[9,la,o,9,h1,h3]) λz=>μ (bey _ () _ λb=>?_);cases b with
 |true=>calc ξ #[9,la,o,9,h1,h3]
 |false=>exact ξ #[9,o,2 * o+1,9,(),(),by simp at z;lia]
 rintro c bp ⟨rfl,la,o,rfl,h1,h2,h3⟩;calc#[9,la,o,9,h1,h3];rintro c bp ⟨rfl,la,o,rfl,h1,h3⟩;dsimp only;calc μ (ED bey () () λk hk=>ξ (hq k hk))
def Qs(a:Array Kd)(i:Nat):Kd:=a[i]?.getD (.none,.none)
def at_{a:Array Kd}(h:i<a.size):a[i]?\Qs a i:=by unfold Qs;rw[getElem?_pos a i h];rfl
def eX{a:Array Kd}(h:i<a.size):Qs a i∈a.toList:=by have:=at_ h;rw[<- DD] at this;calc fM this
theorem dE{a:Array Kd}{k:Nat}(h:i<=k):a.toList.drop i=(a.extract i k).toList++a.toList.drop k:=by
 rw[YO,List.extract_eq_drop_take]
 conv=>lhs;rw[<- X2 (k-i) (a.toList.drop i),List.drop_drop]
 congr 2;lia
theorem tE{a:Array Kd}{k:Nat}(h:k<=n):a.toList.take n=a.toList.take k++(a.extract k n).toList:=by
 rw[YO,List.extract_eq_drop_take]
 conv=>lhs;rw[show n=k+(n-k) by lia,List.take_add]
def eE{a:Array Kd}:(a.extract i).toList=a.toList.drop i:=by rw[YO,List.extract_eq_drop_take,X0 6]
def eT{a:Array Kd}:(a.extract 0 n).toList=a.toList.take n:=by simp[List.extract_eq_drop_take]
def Lg:Array Kd->Array Kd->StateT SortSt Sem (Array Kd):=sortPriv% PySem.Builtin.mergeLo
def Lh:Array Kd->Array Kd->StateT SortSt Sem (Array Kd):=sortPriv% PySem.Builtin.mergeHi
structure Sm(st bp:SortSt):Prop where
 k:kindOf bp=kindOf st
 a:arrOf bp=arrOf st
 p:pendingOf bp=pendingOf st
 f:failedOf bp=failedOf st
variable{κ:SortKind}{G:Kd->Prop}
section
variable{a b out:Array Kd}{ia ib k:Nat}
def ML(a b out:Array Kd)(ia ib:Nat):Prop:=(out.toList++(a.toList.drop ia++b.toList.drop ib)).Perm (a.toList++b.toList)
def MH(a b out:Array Kd)(na nb:Nat):Prop:=(out.toList++(a.toList.take na++b.toList.take nb)).Perm (a.toList++b.toList)
def OK(a b r:Array Kd):Prop:=r.toList.Perm (a.toList++b.toList)
def ML.pa(M:ML a b out ia ib)(h:ia<=k):ML a b (out++a.extract ia k) k ib:=by unfold ML at *;rw[dE h] at M;simpa using M
def ML.pb(M:ML a b out ia ib)(h:ib<=k):ML a b (out++b.extract ib k) ia k:=by unfold ML at *;rw[dE h,<- yt (a.toList.drop ia)] at M;rw[Fs,yt,<- yt (b.extract ib k).toList];calc ((TZ.append_right _).append_left _).trans M
def MH.pa(M:MH a b out ia ib)(h:k<=ia):MH a b (out++(a.extract k ia).reverse) k ib:=by unfold MH at *;rw[tE h] at M;rw[Fs,yt,<- yt (a.extract k ia).reverse.toList,acB];calc (((List.Perm.append_right _ (acR _)).trans TZ).append_right _ |>.append_left _).trans M
def MH.pb(M:MH a b out ia ib)(h:k<=ib):MH a b (out++(b.extract k ib).reverse) ia k:=by unfold MH at *;rw[tE h,<- yt (a.toList.take ia)] at M;rw[Fs,yt,acB];calc (((acR _).append_right _).trans TZ |>.append_left _).trans M
theorem ow(h:ia<a.size):out.push (Qs a ia)=out++a.extract ia (ia+1):=by
 apply Array.toList_inj.mp;let e:(a.extract ia (ia+1)).toList=[Qs a ia]:=by rw[YO,List.extract_eq_drop_take,show ia+1-ia=1 by lia];unfold Qs;rw[getElem?_pos a ia h,YF (by simpa using h)];simp
 rw[Fs,e,acQ]
theorem mV(h:ia-1<a.size)(h0:0<ia):out.push (Qs a (ia-1))=out++(a.extract (ia-1) ia).reverse:=by have:=ow (out:=83) h;rw[show ia-1+1=ia by lia,Array.empty_append] at this;rw[<- this];rfl
def ML.fin(M:ML a b out ia ib):OK a b (out++a.extract ia++b.extract ib):=by unfold OK;rw[Fs,Fs,eE,eE,yt];calc M
def ML.last(M:ML a b out ia ib):OK a b (out++b.extract ib++a.extract ia):=by unfold OK;rw[Fs,Fs,eE,eE,yt];calc (TZ.append_left _).trans M
def MH.fin(M:MH a b out ia ib):OK a b (a.extract 0 ia++b.extract 0 ib++out.reverse):=by unfold OK;rw[Fs,Fs,eT,eT,acB];calc (TZ.trans ((acR _).append_right _)).trans M
def MH.last(M:MH a b out ia ib):OK a b (b.extract 0 ib++a.extract 0 ia++out.reverse):=by unfold OK;rw[Fs,Fs,eT,eT,acB];calc ((TZ.append_right _).trans (TZ.trans ((acR _).append_right _))).trans M
end
structure In(G:Kd->Prop)(a b:Array Kd):Prop where
 ga:∀x∈a.toList,G x
 gb:∀x∈b.toList,G x
 a0:0<a.size
 b0:0<b.size
def Sm.of{st bp:SortSt}(h:Sm st bp){g:Nat}:Sm st (SortSt.mk' (kindOf bp) (arrOf bp) (pendingOf bp) g (failedOf bp)):=#[h.k,h.a,h.p,h.f]
def EF{γ:Type}(jp:β->γ->StateT SortSt Sem α){x:StateT SortSt Sem α}{Q:α->SortSt->Prop}{st:SortSt}(h1:∀r m,wpS 14 A E s (jp r m) Q st)(h2:(∀r m,wpS 14 A E s (jp r m) Q st)->wpS 14 A E s x Q st):wpS 14 A E s x Q st:=h2 h1
def mW{γ δ:Type}(jp:β->γ->δ->StateT SortSt Sem α)(P:γ->δ->Prop){x:StateT SortSt Sem α}{Q:α->SortSt->Prop}{st:SortSt}(h1:∀r o i,P o i->wpS 14 A E s (jp r o i) Q st)(h2:(∀r o i,P o i->wpS 14 A E s (jp r o i) Q st)->wpS 14 A E s x Q st):wpS 14 A E s x Q st:=h2 h1
def Li{Y0 Y1 Y2 Y3 τ:Type}(st:SortSt)(D:Y0->Prop)(P P':Y1->Y2->Y3->Prop)(u6:ForInStep (Option Y0×Y1×Y2×Y3×τ))(bp:SortSt):Prop:=Sm st bp/\match u6 with
 |.done (some u6,_)=>D u6
 |.done (none,u1,u2,w,_)=>P' u1 u2 w
 |.yield (none,u1,u2,w,_)=>P u1 u2 w
 |.yield (some _,_)=>False
section
variable{Y0 Y1 Y2 Y3 τ:Type}{st bp:SortSt}{D:Y0->Prop}{P P':Y1->Y2->Y3->Prop}{u1:Y1}{u2:Y2}{u3:Y3}{u5:τ}
def Li.dn(hs:Sm st bp){u6:Y0}(h:D u6):Li (τ:=τ) st D P P' (.done (some u6,u1,u2,u3,u5)) bp:=#[hs,h]
def Li.ot(hs:Sm st bp)(h:P' u1 u2 u3):Li (τ:=τ) st D P P' (.done (none,u1,u2,u3,u5)) bp:=#[hs,h]
def Li.go(hs:Sm st bp)(h:P u1 u2 u3):Li (τ:=τ) st D P P' (.yield (none,u1,u2,u3,u5)) bp:=#[hs,h]
end
def kf{Y0 Y1 Y2 Y3 τ:Type}{f:Nat->Option Y0×Y1×Y2×Y3×τ->StateT SortSt Sem (ForInStep (Option Y0×Y1×Y2×Y3×τ))}{Q:Option Y0×Y1×Y2×Y3×τ->SortSt->Prop}{st0 st:SortSt}{u1:Y1}{u2:Y2}{u3:Y3}{u4:τ}(D:Y0->Prop)(P:Nat->Y1->Y2->Y3->Prop)(P':Y1->Y2->Y3->Prop)(hs:Sm st st0)(h0:P 0 u1 u2 u3)(step:∀u5 u1 u2 u3 (u4:τ) bp,u5<n->Sm st bp->P u5 u1 u2 u3->wpS 14 A E s (f u5 (none,u1,u2,u3,u4)) (Li st D (P (u5+1)) P') bp)(fin:∀u1 u2 u3,P n u1 u2 u3->False)(q1:∀u6 d bp,Sm st bp->D u6->Q (some u6,d) bp)(q2:∀u1 u2 u3 u4 bp,Sm st bp->P' u1 u2 u3->Q (none,u1,u2,u3,u4) bp):wpS 14 A E s (forIn [:n] (none,u1,u2,u3,u4) f) Q st0:=by
 show aaA (aae (I:=λu5 c bp=>Sm st bp/\∃u1 u2 u3 u4,c=(none,u1,u2,u3,u4)/\P u5 u1 u2 u3) (Q:=λc bp=>Sm st bp/\((∃u6 d,c=(some u6,d)/\D u6)\/∃u1 u2 u3 u4,c=(none,u1,u2,u3,u4)/\P' u1 u2 u3)) ?_ ?_ #[hs,_,_,_,_,9,h0]) ?_
 . rintro u5 c pX _ hx ⟨hs,u1,u2,u3,u4,rfl,h⟩;show aaA (step u5 u1 u2 u3 u4 pX hx hs h) λu6 vP h=>?_;let(h1,h2):=h
   match u6,h2 with
   |.done (some u6,_),h2=>calc#[h1,.inl #[_,_,9,h2]]
   |.done (none,_,_,_,_),h2=>calc#[h1,.inr #[_,_,_,_,9,h2]]
   |.yield (none,_,_,_,_),h2=>exact#[h1,_,_,_,_,9,h2]
 rintro c pX ⟨hs,u1,u2,u3,u4,rfl,h⟩;calc (fin u1 u2 u3 (by simpa using h)).elim;rintro c pX ⟨hs,⟨u6,d,rfl,h⟩|⟨u1,u2,u3,u4,rfl,h⟩⟩;calc q1 u6 d pX hs h;calc q2 u1 u2 u3 u4 pX hs h
structure JL(a b:Array Kd)(c:Nat)(o:Array Kd)(i j:Nat):Prop where
 M:ML a b o i j
 h1:i+1<a.size
 h2:j<b.size
 h3:c<=i+j
theorem Wr(C:Cp prog w A E s κ G){a b:Array Kd}{st:SortSt}{Q:Array Kd->SortSt->Prop}(hk:kindOf st=κ)(I:In G a b)(hq:∀out bp,OK a b out->Sm st bp->Q out bp):wpS 14 A E s (Lg a b) Q st:=by
 let a0:=I.a0;let b0:=I.b0;let s0:Sm st st:=#[9,9,9,9];let M0:ML a b ([Qs b 0].toArray) 0 1:=by
  let M:ML a b ([].toArray) 0 0:=by unfold ML;simp
  have:=M.pb (k:=0+1) ();rw[<- ow b0] at this;exact this
 show μ (wpS_lift (aab #[9,?_]));show μ (bE (at_ b0) (aF (λc1=>?_) λc1=>aF (λc2=>?_) λc2=>μ (wpS_get ?_)));calc ξ (hq _ _ (M0.fin) s0);calc ξ (hq _ _ (M0.last) s0);let c1:1<b.size:=by simp at c1;lia
 let c2:0+1<a.size:=by simp at c2;lia
 show μ (kf (OK a b) (λx=>JL a b x) (λ_ _ _=>False) s0 #[M0,c2,c1,fB _] ?_ (λo i j J=>?_) (λr d bp hs hr=>ξ (hq r bp hr hs)) λ_ _ _ _ _ _ h=>482)
 rotate_left
 let h1:=J.h1;let h2:=J.h2;let h3:=J.h3
 lia
 clear c1 c2 M0 s0 a0 b0;intro x out ia ib mg pX hx hs J;show μ (kf (OK a b) (λy=>JL a b (x+y)) (JL a b (x+1)) hs J ?_ (λo i j J=>?_) (λr d bp hs hr=>ξ (Li.dn hs hr)) ?_)
 . clear J hs;intro y out ia ib t pX hy hs J;let M:=J.M;let h1:=J.h1;let h2:=J.h2;let h3:=J.h3;dsimp only;show μ (bE (at_ h2) (μ (bE (at_ ()) (μ (C.lt (I.gb _ (eX h2)) (I.ga _ (eX ())) (hs.k.trans hk) λ_=>?_)))));show aF (λhw=>μ (bE (at_ h2) ?_)) λhw=>μ (bE (at_ ()) ?_)
   . let M1:=M.pb (k:=ib+1) ();rw[<- ow h2] at M1;show aF (λz=>?_) λz=>aF (λ_=>?_) λ_=>?_;exact ξ (.dn hs (M1.fin))
     all_goals let z:ib+1<b.size:=by simp at z;lia
     calc ξ (.ot hs #[M1,h1,z,()]);exact ξ (.go hs #[M1,h1,z,()])
   . let M1:=M.pa (k:=ia+1) ();rw[<- ow (show ia<a.size by lia)] at M1;show aF (λz=>?_) λz=>aF (λ_=>?_) λ_=>?_;exact ξ (.dn hs (M1.last))
     all_goals let z:ia+1+1<a.size:=by simp at z;lia
     calc ξ (.ot hs #[M1,z,h2,()]);exact ξ (.go hs #[M1,z,h2,()])
 let h1:=J.h1;let h2:=J.h2;let h3:=J.h3
 lia
 clear J hs;intro out ia ib t pX hs J;show μ (wpS_lift (aab #[9,?_]));show μ (kf (OK a b) (λy=>JL a b (x+1+y)) (JL a b (x+1)) hs J ?_ (λo i j J=>?_) (λr d bp hs hr=>ξ (Li.dn hs hr)) λo i j t bp hs J=>μ (aap (ξ (.go hs.of J))))
 rotate_left
 let h1:=J.h1;let h2:=J.h2;let h3:=J.h3
 lia
 clear J hs;intro y out ia ib t pX hy hs J;let h1:=J.h1;let h2:=J.h2;let h3:=J.h3;dsimp -zeta -zetaHave -zetaUnused only
 extract_lets -underBinder -merge +onlyGivenNames s0 o s1 i s2 j s3 m s4 p q jp
 subst s0 o s1 i s2 j s3 m s4 p q;show EF jp (λ_ mg=>?_) λhj=>?_
 rotate_left
 clear_value jp
 calc aF (λ_=>hj _ _) λ_=>hj _ _;show μ (aap (μ (bE (at_ h2) (μ (fq C (base:=ia) (n:=a.size-ia) (hint:=0) (hs.k.trans hk) (I.gb _ (eX h2)) () (λi hi=>#[_,at_ (),I.ga _ (eX ())]) λk yo=>?_)))));clear jp;dsimp -zeta -zetaHave -zetaUnused only
 extract_lets -underBinder -merge +onlyGivenNames ac jp
 show mW jp (λo i=>JL a b (x+1+y) o i ib) ?_ λhj=>?_
 rotate_left
 clear_value jp
 let M1:=J.M.pa (k:=ia+k) ();show aF (λzk=>aF (λz1=>?_) λz1=>aF (λz2=>?_) λz2=>hj _ _ _ #[M1,by simp at z1 z2;lia,h2,()]) λzk=>hj _ _ _ J;calc ξ (.dn hs.of (M1.last));calc ξ (.dn hs.of (M1.fin));clear h1 h3 yo J;intro _ out ia J;let h1:=J.h1;let h3:=J.h3;let M2:=J.M.pb (k:=ib+1) ();rw[<- ow h2] at M2;show μ (bE (at_ h2) (aF (λz=>?_) λz=>?_));calc ξ (.dn hs.of (M2.fin));clear jp
 clear_value ac
 let z:ib+1<b.size:=by simp at z;lia
 show μ (bE (at_ ()) (μ (fq C (base:=ib+1) (n:=b.size-(ib+1)) (hint:=0) (hs.k.trans hk) (I.ga _ (eX ())) () (λi hi=>#[_,at_ (),I.gb _ (eX ())]) λk yo=>?_)));dsimp -zeta -zetaHave -zetaUnused only
 extract_lets -underBinder -merge +onlyGivenNames bc jp
 show mW jp (λo i=>JL a b (x+1+y+1) o ia i) ?_ λhj=>?_
 rotate_left
 clear_value jp
 let M3:=M2.pb (k:=ib+1+k) ();show aF (λzk=>aF (λz1=>?_) λz1=>hj _ _ _ #[M3,h1,by simp at z1;lia,()]) λzk=>hj _ _ _ #[M2,h1,z,()];calc ξ (.dn hs.of (M3.fin));clear h1 h2 h3 yo M2 z J;intro _ out ib J;let h1:=J.h1;let h2:=J.h2;let h3:=J.h3;let M4:=J.M.pa (k:=ia+1) ();rw[<- ow (show ia<a.size by lia)] at M4;show μ (bE (at_ ()) (aF (λz=>?_) λz=>aF (λ_=>?_) λ_=>?_));exact ξ (.dn hs.of (M4.last))
 all_goals let z:ia+1+1<a.size:=by simp at z;lia
 calc ξ (.ot hs.of #[M4,z,h2,()]);calc ξ (.go hs.of #[M4,z,h2,()])
structure JH(a b:Array Kd)(c:Nat)(na nb:Nat)(o:Array Kd):Prop where
 M:MH a b o na nb
 h1:0<na
 EG:na<a.size
 h2:1<nb
 Ip:nb<=b.size
 h3:c+na+nb<a.size+b.size
theorem Ws(C:Cp prog w A E s κ G){a b:Array Kd}{st:SortSt}{Q:Array Kd->SortSt->Prop}(hk:kindOf st=κ)(I:In G a b)(hq:∀out bp,OK a b out->Sm st bp->Q out bp):wpS 14 A E s (Lh a b) Q st:=by
 let a0:=I.a0;let b0:=I.b0;let s0:Sm st st:=#[9,9,9,9];let M0:MH a b ([Qs a (a.size-1)].toArray) (a.size-1) b.size:=by
  let M:MH a b ([].toArray) a.size b.size:=by let e1:a.toList.take a.size=a.toList:=X0 6;let e2:b.toList.take b.size=b.toList:=X0 6;unfold MH;rw[e1,e2];simp
  have:=M.pa (k:=a.size-1) ();rw[<- mV () a0] at this;exact this
 show μ (wpS_lift (aab #[9,?_]));show μ (bE (at_ (show a.size-1<a.size by lia)) (aF (λc1=>?_) λc1=>aF (λc2=>?_) λc2=>μ (wpS_get ?_)));calc ξ (hq _ _ (M0.fin) s0);calc ξ (hq _ _ (M0.last) s0);let c1:0<a.size-1:=by simp at c1;lia
 let c2:1<b.size:=by simp at c2;lia
 show μ (kf (OK a b) (λx=>JH a b x) (λ_ _ _=>False) s0 #[M0,c1,(),c2,(),()] ?_ (λi j o J=>?_) (λr d bp hs hr=>ξ (hq r bp hr hs)) λ_ _ _ _ _ _ h=>482)
 rotate_left
 let h3:=J.h3
 lia
 clear c1 c2 M0 s0 a0 b0;intro x na nb out mg pX hx hs J;show μ (kf (OK a b) (λy=>JH a b (x+y)) (JH a b (x+1)) hs J ?_ (λi j o J=>?_) (λr d bp hs hr=>ξ (Li.dn hs hr)) ?_)
 . clear J hs;intro y na nb out t pX hy hs J;let M:=J.M;let h1:=J.h1;let EG:=J.EG;let h2:=J.h2;let Ip:=J.Ip;let h3:=J.h3;dsimp only;show μ (bE (at_ ()) (μ (bE (at_ ()) (μ (C.lt (I.gb _ (eX ())) (I.ga _ (eX ())) (hs.k.trans hk) λ_=>?_)))));show aF (λhw=>μ (bE (at_ ()) ?_)) λhw=>μ (bE (at_ ()) ?_)
   . let M1:=M.pa (k:=na-1) ();rw[<- mV () h1] at M1;show aF (λz=>?_) λz=>aF (λ_=>?_) λ_=>?_;exact ξ (.dn hs (M1.fin))
     all_goals let z:0<na-1:=by simp at z;lia
     calc ξ (.ot hs #[M1,z,(),h2,Ip,()]);exact ξ (.go hs #[M1,z,(),h2,Ip,()])
   . let M1:=M.pb (k:=nb-1) ();rw[<- mV () ()] at M1;show aF (λz=>?_) λz=>aF (λ_=>?_) λ_=>?_;exact ξ (.dn hs (M1.last))
     all_goals let z:1<nb-1:=by simp at z;lia
     calc ξ (.ot hs #[M1,h1,EG,z,(),()]);exact ξ (.go hs #[M1,h1,EG,z,(),()])
 let h3:=J.h3
 lia
 clear J hs;intro na nb out t pX hs J;show μ (wpS_lift (aab #[9,?_]));show μ (kf (OK a b) (λy=>JH a b (x+1+y)) (JH a b (x+1)) hs J ?_ (λi j o J=>?_) (λr d bp hs hr=>ξ (Li.dn hs hr)) λo i j t bp hs J=>μ (aap (ξ (.go hs.of J))))
 rotate_left
 let h3:=J.h3
 lia
 clear J hs;intro y na nb out t pX hy hs J;let h1:=J.h1;let EG:=J.EG;let h2:=J.h2;let Ip:=J.Ip;let h3:=J.h3;dsimp -zeta -zetaHave -zetaUnused only
 extract_lets -underBinder -merge +onlyGivenNames s0 o s1 i s2 j s3 m s4 p q jp
 subst s0 o s1 i s2 j s3 m s4 p q;show EF jp (λ_ mg=>?_) λhj=>?_
 rotate_left
 clear_value jp
 calc aF (λ_=>hj _ _) λ_=>hj _ _;show μ (aap (μ (bE (at_ (by change nb-1<b.size;lia)) (μ (fq C (base:=0) (n:=na) (hint:=na-1) (hs.k.trans hk) (I.gb _ (eX (i:=nb-1) ())) () (λi hi=>#[_,by rw[Nat.zero_add];calc at_ (),I.ga _ (eX ())]) λk yo=>?_)))));clear jp;dsimp -zeta -zetaHave -zetaUnused only
 extract_lets -underBinder -merge +onlyGivenNames kk ac jp
 show mW jp (λi o=>JH a b (x+1+y) i nb o) ?_ λhj=>?_
 rotate_left
 clear_value jp
 subst kk;let M1:=J.M.pa (k:=k) ();show aF (λzk=>aF (λz1=>?_) λz1=>hj _ _ _ #[M1,by simp at z1;lia,(),h2,Ip,()]) λzk=>hj _ _ _ J;calc ξ (.dn hs.of (M1.fin));clear h1 EG h3 yo J;intro _ na out J;let h1:=J.h1;let EG:=J.EG;let h3:=J.h3;let M2:=J.M.pb (k:=nb-1) ();rw[<- mV () ()] at M2;show μ (bE (at_ (by change nb-1<b.size;lia)) (aF (λz=>?_) λz=>?_));calc ξ (.dn hs.of (M2.last));clear jp
 clear_value ac
 let z:1<nb-1:=by simp at z;lia
 show μ (bE (at_ (by change na-1<a.size;lia)) (μ (fq C (base:=0) (n:=nb-1) (hint:=nb-1-1) (hs.k.trans hk) (I.ga _ (eX (i:=na-1) ())) () (λi hi=>#[_,by rw[Nat.zero_add];calc at_ (),I.gb _ (eX ())]) λk yo=>?_)));dsimp -zeta -zetaHave -zetaUnused only
 extract_lets -underBinder -merge +onlyGivenNames kk bc jp
 show mW jp (λj o=>JH a b (x+1+y+1) na j o) ?_ λhj=>?_
 rotate_left
 clear_value jp
 subst kk;let M3:=M2.pb (k:=k) ();show aF (λzk=>aF (λz1=>?_) λz1=>aF (λz2=>?_) λz2=>hj _ _ _ #[M3,h1,EG,by simp at z1 z2;lia,(),()]) λzk=>hj _ _ _ #[M2,h1,EG,z,(),()];calc ξ (.dn hs.of (M3.last));calc ξ (.dn hs.of (M3.fin));clear h1 EG h2 Ip h3 yo M2 z J;intro _ nb out J;let h1:=J.h1;let EG:=J.EG;let h2:=J.h2;let Ip:=J.Ip;let h3:=J.h3;let M4:=J.M.pa (k:=na-1) ();rw[<- mV () h1] at M4;show μ (bE (at_ (by change na-1<a.size;lia)) (aF (λz=>?_) λz=>aF (λ_=>?_) λ_=>?_));exact ξ (.dn hs.of (M4.fin))
 all_goals let z:0<na-1:=by simp at z;lia
 calc ξ (.ot hs.of #[M4,z,(),h2,Ip,()]);calc ξ (.go hs.of #[M4,z,(),h2,Ip,()])
variable{κ:SortKind}{G:Kd->Prop}
structure Kp(st bp:SortSt):Prop where
 k:kindOf bp=kindOf st
 p:pendingOf bp=pendingOf st
 f:failedOf bp=failedOf st
 m:(arrOf bp).Perm (arrOf st)
def Kp.refl(st:SortSt):Kp st st:=#[9,9,9,.refl _]
def Kp.trans{a b c:SortSt}(h:Kp a b)(g:Kp b c):Kp a c:=#[g.k.trans h.k,g.p.trans h.p,g.f.trans h.f,g.m.trans h.m]
def Kp.mir{st:SortSt}:Kp st (setArr st (mirror (arrOf st) i j ((j-i) / 2))):=#[9,9,9,mirror_perm _ _ _ _]
structure Gd(κ:SortKind)(G:Kd->Prop)(st:SortSt):Prop where
 k:kindOf st=κ
 g:∀x∈(arrOf st).toList,G x
def Kp.gd{st bp:SortSt}(h:Kp st bp)(g:Gd κ G st):Gd κ G bp:=#[h.k.trans g.k,λx hx=>g.g x ((acb.mp h.m).mem_iff.mp hx)]
def rT(C:Cp prog w A E s κ G){st:SortSt}{Q:Option Bool->SortSt->Prop}(g:Gd κ G st)(hi:i<(arrOf st).size)(hj:j<(arrOf st).size)(h:∀b,Q (some b) st):wpS 14 A E s (ltAt' i j) Q st:=μ (wpS_get (μ (bE (at_ hi) (μ (bE (at_ hj) (C.lt (g.g _ (eX hi)) (g.g _ (eX hj)) g.k h))))))
def mX{st:SortSt}{Q:Unit->SortSt->Prop}(h:Q Unit.unit (setArr st (mirror (arrOf st) i j ((j-i) / 2)))):wpS 14 A E s (reverseSlice' i j) Q st:=by rw[reverseSlice'_eq];calc aap h
theorem EH(C:Cp prog w A E s κ G){st:SortSt}{lo a mY:Nat}{Q:Option (Option Nat)×Nat->SortSt->Prop}(g:Gd κ G st)(hn:lo+mY<=(arrOf st).size)(ha:1<=a)(han:a<=mY)(h:∀n,a<=n->n<=mY->Q (none,n) st) :
  wpS 14 A E s (forIn [a:mY] (none,a) λ_ c=>do
   match <- ltAt' (lo+c.2) (lo+c.2-1) with
   |some z=>if z=true then pure (.done (none,c.2)) else pure (.yield (none,c.2+1))
   |_=>pure (.done (some none,c.2))) Q st:=by
 show aae (I:=λx c bp=>bp=st/\c=(none,x)) ?_ ?_ #[9,9];rintro x c bp hax hxn ⟨rfl,rfl⟩;calc μ (rT C g () () λb=>aF (λ_=>ξ (h x hax ())) λ_=>ξ #[9,9]);rintro c bp ⟨rfl,rfl⟩;rw[show max a mY=mY by lia];calc h mY han 82
theorem G4(C:Cp prog w A E s κ G){st:SortSt}{lo mY:Nat}{Q:Option Nat->SortSt->Prop}(g:Gd κ G st)(hn:lo+mY<=(arrOf st).size)(h1:1<=mY)(h:∀m bp,Kp st bp->1<=m->m<=mY->Q (some m) bp):wpS 14 A E s (countRun' lo mY) Q st:=by
 show μ (EH C g hn (cM 1) h1 λn Wu R'=>aF (λz=>ξ (h n st (Kp.refl _) Wu R')) λz=>?_);let z:n≠mY:=by simpa using z
 show aF (λz2=>μ (rT C g () () λb=>aF (λhc=>ξ (h n st (Kp.refl _) Wu R')) λhc=>μ (mX ?_))) λz2=>?_
 case' _=>
  let K1:Kp st (setArr st (mirror (arrOf st) lo (lo+n) ((lo+n-lo) / 2))):=Kp.mir
 rotate_left
 case' _=>
  obtain⟨pX,e,K1⟩:∃pX,pX=st/\Kp st pX:=#[st,9,Kp.refl _];rw[<- e]
 all_goals
  show μ (wpS_lift (aab #[9,?_]));show μ (aaA (aae (I:=λx c bp=>∃NS,c=(none,x,NS)/\Kp st bp)
   (Q:=λc bp=>∃m NS,c=(none,m,NS)/\1<=m/\m<=mY/\Kp st bp) ?_ ?_ #[0,9,K1]) ?_)
  rintro x c bp hax hxn ⟨NS,rfl,K2⟩;dsimp only;let sz:=K2.m.size_eq;show μ (rT C (K2.gd g) () () λb=>aF (λhc=>?_) λhc=>μ (rT C (K2.gd g) () () λb=>aF (λhd=>?_) λhd=>?_));calc aF (λ_=>μ (mX (ξ #[0,9,K2.trans Kp.mir]))) λ_=>ξ #[0,9,K2];calc ξ #[x,NS,9,(),(),K2];calc ξ #[NS+1,9,K2];rintro c bp ⟨NS,rfl,K2⟩;calc#[_,NS,9,(),(),K2];rintro c vP ⟨m,NS,rfl,NT,hm2,K2⟩;dsimp only;show aF (λ_=>μ (mX (μ (mX ?_)))) λ_=>μ (mX ?_)
  case' _=>let K4:=(K2.trans (Kp.mir (i:=lo+m-(NS+1)) (j:=lo+m))).trans (Kp.mir (i:=lo) (j:=lo+m))
  rotate_left
  case' _=>let K4:=K2.trans (Kp.mir (i:=lo) (j:=lo+m))
  all_goals calc μ (EH C (K4.gd g) (by rw[K4.m.size_eq];calc hn) NT hm2 λk yo wg=>ξ (h k _ K4 () wg))
theorem Qt(C:Cp prog w A E s κ G){st:SortSt}{lo ok:Nat}{Q:Bool->SortSt->Prop}(g:Gd κ G st)(hn:lo+n<=(arrOf st).size)(h:∀bp,Kp st bp->Q true bp):wpS 14 A E s (binarySort' lo n ok) Q st:=by
 show μ (aaA (aae (I:=λk c bp=>c=(none,Unit.unit)/\Kp st bp) ?step (λ_ _ h=>h) #[9,Kp.refl _]) ?post)
 case post=>
  rintro c bp ⟨rfl,K⟩;exact ξ (h bp K)
 case step=>
  rintro k c bp hak Ew ⟨rfl,K⟩;let sz:=K.m.size_eq;show μ (aaA (aae (I:=λx c G5=>G5=bp/\∃l r,c=(none,l,r)/\l<=r/\r<=k)
   (Q:=λc G5=>G5=bp/\∃l r,c=(none,l,r)) ?_ ?_ #[9,0,k,9,(),()]) ?_)
  rintro x c G5 _ hxk ⟨rfl,l,r,rfl,hlr,hrk⟩;dsimp only;show aF (λz=>ξ #[9,l,r,9]) λz=>μ (rT C (K.gd g) () () λb=>aF (λhc=>ξ #[9,l,(l+r) / 2,9,(),()]) λhc=>ξ #[9,(l+r) / 2+1,r,9,(),()]);rintro c G5 ⟨rfl,l,r,rfl,hlr,hrk⟩;calc#[9,l,r,9];rintro c G5 ⟨rfl,l,r,rfl⟩;calc μ (aap (ξ #[9,K.trans #[9,9,9,bubble_perm _ _ _]]))
def putL(a:Array Kd)(sa:Nat)(l:List Kd)(c:Nat):Array Kd:=(l.zipIdx c).foldl (λa (x:Kd×Nat)=>match x with|(p,j)=>a.setIfInBounds (sa+j) p) a
theorem rV:∀(l:List Kd)(a:Array Kd)(sa c:Nat),sa+c+490<=a.size->(putL a sa l c).toList=a.toList.take (sa+c)++(l++a.toList.drop (sa+c+490))
 |[],a,sa,c,_=>by simp[putL]
 |p::l,a,sa,c,h=>by
  rw[vJ] at h;let hl:sa+c<a.toList.length:=by simp;lia
  change (putL (a.setIfInBounds (sa+c) p) sa l (c+1)).toList=_;rw[rV l _ sa (c+1) (by simp;lia),Array.toList_setIfInBounds,List.set_eq_take_append_cons_drop,ι hl,show sa+(c+1)=sa+c+1 by lia,vJ];let e1:(a.toList.take (sa+c)).length=sa+c:=by rw[NW];lia
  rw[List.take_append,List.drop_append,e1,show sa+c+1-(sa+c)=1 by lia,show sa+c+1+l.length-(sa+c)=l.length+1 by lia,List.drop_succ_cons,List.drop_drop,List.take_succ_cons,List.take_zero,X0 (),List.drop_of_length_le (),show sa+c+1+l.length=sa+c+(l.length+1) by lia];simp
def put(a:Array Kd)(sa:Nat)(b:Array Kd):Array Kd:=putL a sa b.toList 0
def Lj{a b:Array Kd}{sa:Nat}(h:sa+b.size<=a.size):(put a sa b).toList=a.toList.take sa++(b.toList++a.toList.drop (sa+b.size)):=rV b.toList a sa 0 h
theorem Ll{xs m:Array Kd}{k sb e:Nat}(hkb:k<=sb)(Ia:sb<=e)(kq:e<=xs.size)(hm:OK (xs.extract k sb) (xs.extract sb e) m):(put xs k m).Perm xs:=by
 let sm:m.size=e-k:=by
  have:=hm.length_eq;simp at this
  lia
 rw[acb,Lj ()];let e0:xs.toList=xs.toList.take k++(((xs.extract k sb).toList++(xs.extract sb e).toList)++xs.toList.drop e):=by rw[yt,<- dE Ia,<- dE hkb,X2]
 rw[show k+m.size=e by lia]
 conv=>rhs;rw[e0]
 calc List.Perm.append_left _ (List.Perm.append_right _ hm)
def Qu{f:SortSt}{Q:PUnit->SortSt->Prop}{st:SortSt}(h:Q #[] f):wpS 14 A E s (set f:StateT SortSt Sem PUnit) Q st:=by unfold wpS;rw[StateT.run_set];calc η #[9,h]
def Lm{xs:Array Kd}{x:Kd}(h:x∈(xs.extract i j).toList):x∈xs.toList:=by rw[YO,List.extract_eq_drop_take] at h;calc acC (List.mem_of_mem_take h)
theorem zX(C:Cp prog w A E s κ G){st:SortSt}{sa na pa sb nb pb:Nat}{Q:Bool->SortSt->Prop}(g:Gd κ G st)(e1:(pendingOf st)[i]?\(sa,na,pa))(e2:(pendingOf st)[i+1]?\(sb,nb,pb))(hab:sb=sa+na)(kq:sb+nb<=(arrOf st).size)(na0:0<na)(nb0:0<nb)(hf:failedOf st=none)(h:∀bp,kindOf bp=kindOf st->failedOf bp=none->pendingOf bp=((pendingOf st).setIfInBounds i (sa,na+nb,pa)).eraseIdxIfInBounds 525->(arrOf bp).Perm (arrOf st)->Q true bp):wpS 14 A E s (mergeAt' i) Q st:=by
 show μ (wpS_get ?_);rw[e1,e2];show μ (Qu (μ (bE (at_ (show sb<(arrOf st).size by lia)) (μ (fq C (arr:=arrOf st) g.k (g.g _ (eX ())) na0 (λi hi=>#[_,at_ (),g.g _ (eX ())]) λk hk=>aF (λz=>ξ (h _ 9 hf 9 (.refl _))) λz=>?_)))));let zk:k<na:=by simp at z;lia
 show μ (bE (at_ (show sa+k+(na-k)-1<(arrOf st).size by lia)) (μ (fq C (arr:=arrOf st) g.k (g.g _ (eX ())) (show nb-1<nb by lia) (λi hi=>#[_,at_ (),g.g _ (eX ())]) λe he=>aF (λz=>ξ (h _ 9 hf 9 (.refl _))) λz=>?_)));let ze:0<e:=by simp at z;lia
 let I:In G ((arrOf st).extract (sa+k) sb) ((arrOf st).extract sb (sb+e)):=#[λx hx=>g.g _ (Lm hx),λx hx=>g.g _ (Lm hx),by simp;lia,by simp;lia];let fin:∀out bp,OK ((arrOf st).extract (sa+k) sb) ((arrOf st).extract sb (sb+e)) out->Sm (setPending st (((pendingOf st).setIfInBounds i (sa,na+nb,pa)).eraseIdxIfInBounds (i+1))) bp->Q true (setArr bp (put (arrOf bp) (sa+k) out))/\failedOf bp=none:=λout bp ho hs=>by let ea:arrOf bp=arrOf st:=hs.a;rw[ea];exact#[h _ hs.k (hs.f.trans hf) hs.p (Ll () () () ho),hs.f.trans hf]
 show aF (λ_=>μ (Wr C g.k I λout bp ho hs=>?_)) λ_=>μ (Ws C g.k I λout bp ho hs=>?_)
 all_goals
  let(q,hn):=fin out bp ho hs;show μ (aap (μ (wpS_get (ξ ?_))));change Q (failedOf bp).isNone (setArr bp (put (arrOf bp) (sa+k) out));rw[hn];calc q
abbrev Pd:=Nat×Nat×Nat
def Rn:Nat->List Pd->Nat->Prop
 |a,[],b=>a=b
 |a,p::l,b=>p.1=a/\0<p.2.1/\Rn (a+p.2.1) l b
theorem Rn.app:∀{l l':List Pd}{a b:Nat},Rn a (l++l') b↔∃c,Rn a l c/\Rn c l' b
 |[],l',a,b=>#[λh=>#[a,9,h],λ#[c,e,h]=>by cases (show a=c from e);calc h]
 |p::l,l',a,b=>by constructor;rintro⟨h1,h2,h4⟩;let(c,h5,h6):=Rn.app.mp h4;calc#[c,#[h1,h2,h5],h6];rintro⟨c,⟨h1,h2,h5⟩,h6⟩;calc#[h1,h2,Rn.app.mpr #[c,h5,h6]]
theorem Rn.le:∀{l:List Pd}{a b:Nat},Rn a l b->a+490<=b
 |[],a,b,h=>by let h:a=b:=h;simp;lia
 |p::l,a,b,#[_,h1,h2]=>by have:=h2.le;simp;lia
structure St(κ:SortKind)(G:Kd->Prop)(a₀:Array Kd)(lo:Nat)(st:SortSt):Prop where
 gd:Gd κ G st
 fl:failedOf st=none
 pm:(arrOf st).Perm a₀
 rn:Rn 0 (pendingOf st).toList lo
theorem B8{l:List Pd}(h:i+1<490):∃l1 x y l2,l=l1++x::y::l2/\l1.length=i:=by show#[l.take i,l[i],l[i+1],l.drop (i+2),?_,by rw[NW];lia];rw[<- YF,<- YF,X2]
theorem adW{l1 l2:List Pd}{x y v:Pd}:((l1++x::y::l2).set l1.length v).eraseIdx (l1.length+1)=l1++v::l2:=by rw[List.set_append_right _ _ 82,Nat.sub_self,List.eraseIdx_append_of_length_le (),show l1.length+1-l1.length=1 by lia];rfl
theorem vj(C:Cp prog w A E s κ G){a₀:Array Kd}{lo:Nat}{st:SortSt}{Q:Bool->SortSt->Prop}(S:St κ G a₀ lo st)(hlo:lo<=a₀.size)(hi:i+1<(pendingOf st).size)(h:∀bp,St κ G a₀ lo bp->(pendingOf bp).size+1=(pendingOf st).size->Q true bp):wpS 14 A E s (mergeAt' i) Q st:=by
 let(l1,(sa,na,pa),(sb,nb,pb),l2,el,e1):=B8 (l:=(pendingOf st).toList) (by simpa using hi);subst e1;let R:=S.rn;rw[el] at R;let(c,R1,e2,h2,e4,h5,R2):=Rn.app.mp R;simp only at e2 h2 e4 h5 R2;subst e2 e4;let hl:=R2.le;let sz:=S.pm.size_eq;let g1:(pendingOf st)[l1.length]?\(sa,na,pa):=by rw[<- DD,el,uF 82,Nat.sub_self];rfl
 let g2:(pendingOf st)[l1.length+1]?\(sa+na,nb,pb):=by rw[<- DD,el,uF (),show l1.length+1-l1.length=1 by lia];rfl
 show zX C S.gd g1 g2 9 () h2 h5 S.fl λbp k1 k2 k3 k4=>?_;let ep:(pendingOf bp).toList=l1++(sa,na+nb,pa)::l2:=by rw[k3,Array.toList_eraseIdxIfInBounds,Array.toList_setIfInBounds,el,adW]
 show h bp #[#[k1.trans S.gd.k,λx hx=>S.gd.g x ((acb.mp k4).mem_iff.mp hx)],k2,k4.trans S.pm,?_] ?_;rw[ep];calc Rn.app.mpr #[sa,R1,9,Nat.add_pos_left h2 _,by rw[<- Nat.add_assoc];calc R2];let e1:(pendingOf bp).size=(pendingOf bp).toList.length:=by simp
 let e2:(pendingOf st).size=(pendingOf st).toList.length:=by simp
 rw[e1,e2,ep,el];simp
 lia
theorem Rn.md{f:Pd->Pd}(h1:∀p,(f p).1=p.1)(h2:∀p,(f p).2.1=p.2.1):∀{l:List Pd}{i a b:Nat},Rn a l b->Rn a (l.modify i f) b
 |[],i,a,b,h=>by rw[List.modify_nil];calc h
 |p::l,0,a,b,#[e1,e2,e4]=>#[(h1 p).trans e1,by rw[h2];calc e2,by rw[h2];calc e4]
 |p::l,i+1,a,b,#[e1,e2,e4]=>#[e1,e2,e4.md h1 h2]
theorem Ln(C:Cp prog w A E s κ G){a₀:Array Kd}{st:SortSt}{Q:Unit->SortSt->Prop}(S:St κ G a₀ 0 st)(h2:2<=a₀.size)(h:∀bp,(arrOf bp).Perm a₀->failedOf bp=none->Q Unit.unit bp):wpS 14 A E s sortRuns' Q st:=by
 show μ (wpS_get ?_);dsimp only;rw[show (arrOf st).size=a₀.size from S.pm.size_eq];show μ (aaA (aae (I:=λx c bp=>∃lo,c=(none,lo)/\x<=lo/\lo<=a₀.size/\St κ G a₀ lo bp) (Q:=λc bp=>∃lo,c=(none,lo)/\St κ G a₀ a₀.size bp) ?step ?fin #[0,9,cM _,fB _,S]) ?post)
 case fin=>
  rintro c bp ⟨lo,rfl,h3,h4,S'⟩;let e:lo=a₀.size:=by lia
  subst e;exact#[_,9,S']
 case post=>
  rintro c bp ⟨lo,rfl,S'⟩;show μ (aaA (aae (I:=λx c bp=>c=(none,Unit.unit)/\St κ G a₀ a₀.size bp) ?_ (λ_ _ h=>h) #[9,S']) ?_);rintro x c pX _ hx ⟨rfl,S1⟩;show μ (wpS_get (aF (λz=>ξ #[9,S1]) λz=>?_));let hi:∀c [Decidable c],(if c then (pendingOf pX).size-2-1 else (pendingOf pX).size-2)+1<(pendingOf pX).size:=λc _=>by let z:¬ (pendingOf pX).size<=1:=z;split<;>lia
  calc μ (vj C S1 82 (hi _) λvP S2 p2=>aF (λz=>by simp at z) λ_=>ξ #[9,S2]);rintro c pX ⟨rfl,S1⟩;exact ξ (h pX S1.pm S1.fl)
 case step=>
  rintro x c pX _ hx ⟨lo,rfl,h3,h4,S1⟩;let sz:=S1.pm.size_eq;show aF (λz=>?_) λz=>μ (G4 C S1.gd () () λm vP K2 m1 m2=>?_);let e:lo=a₀.size:=by lia
  subst e;calc ξ #[_,9,S1];let S2:St κ G a₀ lo vP:=#[K2.gd S1.gd,K2.f.trans S1.fl,K2.m.trans S1.pm,by rw[K2.p];calc S1.rn];let sz2:=S2.pm.size_eq;show aF (λzm=>μ (wpS_lift (aab #[9,μ (Qt C S2.gd () λUt K3=>?_)]))) λzm=>?_
  case' _=>
   let S3:St κ G a₀ lo Ut:=#[K3.gd S2.gd,K3.f.trans S2.fl,K3.m.trans S2.pm,by rw[K3.p];calc S2.rn];let n0:0<min (a₀.size-lo) ((sortPriv% PySem.Builtin.minRun) a₀.size a₀.size 0):=by lia
   let n1:lo+min (a₀.size-lo) ((sortPriv% PySem.Builtin.minRun) a₀.size a₀.size 0)<=a₀.size:=by lia
  rotate_left
  case' _=>
   let S3:=S2;let n0:=m1;let n1:lo+m<=a₀.size:=by lia
  all_goals
   let push:∀{n bp},0<n->St κ G a₀ lo bp->St κ G a₀ (lo+n) (setPending bp ((pendingOf bp).push (lo,n,0))):=λ{n bp} n0 S'=>#[#[S'.gd.k,S'.gd.g],S'.fl,S'.pm,by
    rw[acQ];calc Rn.app.mpr #[lo,S'.rn,9,n0,9]]
   show μ (wpS_get ?_);split;show μ (aaA (aae (I:=λ_ c bp=>c=(none,Unit.unit)/\St κ G a₀ lo bp) ?_ (λ_ _ hh=>hh) #[9,S3]) ?_);rintro y c Wv _ _ ⟨rfl,S4⟩;show μ (wpS_get ?_);by_cases zp:(pendingOf Wv).size > 1;rw[ι zp,getElem?_pos (pendingOf Wv) _ (show (pendingOf Wv).size-2<(pendingOf Wv).size by lia)];calc aF (λ_=>ξ #[9,S4]) λ_=>μ (vj C S4 h4 (show (pendingOf Wv).size-2+1<(pendingOf Wv).size by lia) λR7 S5 _=>aF (λz=>by simp at z) λ_=>ξ #[9,S5]);rw[θ zp];calc ξ #[9,S4];rintro c Wv ⟨rfl,S4⟩;show μ (aap (μ (aap (ξ #[_,9,(),n1,push n0 #[#[S4.gd.k,S4.gd.g],S4.fl,S4.pm,?_]]))));rw[Array.toList_modify];calc S4.rn.md (by calc λ_=>rfl) (by calc λ_=>rfl);calc μ (aap (ξ #[_,9,(),n1,push n0 S3]))
end SP
namespace TP
open PySem PySem.Spec PyProof.Rows L2 VT TS
section
def Th(b:Bool)(z:Value):Prop:=if b=true then ∃y t,z=.str y t else ∃k t,z=.int k t
def Tri(b:Bool)(h:Heap)(v:Value):Prop:=∃i x t1 t2 z,TupAt h v ([.int i t1,.str x t2,z].toArray)/\Th b z
def adX{b:Bool}{y z:Value}(h1:Th b y)(h2:Th b z):Sc y z:=by
 cases b with
 |true=>let(_,_,rfl):=h1;let(_,_,rfl):=h2;calc .str _ _ _ _
 |false=>let(_,_,rfl):=h1;let(_,_,rfl):=h2;calc .int _ _ _ _
def adY{l:Addr}{vs:qag}{P:Fin->Shared->Prop}(b:Bool)(hl:s.heap.get? l\seqObj "list" 515 ep)(Ys:87<=100000)(ht:∀g:Heap,(∀b o,b≠l->s.heap.get? b\o->g.get? b\o)->∀v∈vs,Tri b g v)(h:∀out:Array Value,out.toList.Perm vs->P (.done (.ret .none)) {s with heap:=sortedHeap 69 l vs out}) :
  wpAny 14 A (Builtin.«list.sort» #[[.ref l],[]]) P E s:=by
 let di:l<s.heap.objs.size:=eR hl;let n64:vs.length<=sizeLine:=by rw[π];lia
 rw[list_sort_plain];show ζ (listItems_at hl 9 (ζ (listUpdate_at hl 9 ?_)));obtain⟨e1,g1⟩:∃e1,(s.heap.update l (Obj.mapSeq λ_=>([].toArray))).get? l\seqObj "list" ([].toArray) e1:=#[_,get?_update_seq hl _];show ζ (seqEpoch_at g1 9 (ζ (aaJ (ζ (aaR (Ω ?_))) (by simpa using n64))));change wpAny 14 A _ P E {s with heap:=((s.heap.update l (Obj.mapSeq λ_=>83)).push (seqObj "tuple" 515 0)).push (seqObj "list" 83 0)};generalize hg:((s.heap.update l (Obj.mapSeq λ_=>([].toArray))).push (seqObj "tuple" vs.toArray 0)).push (seqObj "list" ([].toArray) 0)=g;let g2:g.get? l\seqObj "list" ([].toArray) e1:=by subst hg;exact dF _ (dF _ g1)
 let old:∀b o,b≠l->s.heap.get? b\o->g.get? b\o:=λb o hb e=>by subst hg;show dF _ (dF _ ?_);rw[acD _ _ _ _ hb];exact e
 let Cr:=ht g old;let out:∀xs:Array Keyed,xs.Perm (pairsOf vs)->P (.done (.ret .none)) {s with heap:=g.update l (Obj.mapSeq λ_=>xs.map (·.2))}:=λxs hp=>by have:=h (xs.map (·.2)) (Lc hp);unfold sortedHeap at this;rw[hg] at this;exact this
 let osz:∀xs:Array Keyed,xs.Perm (pairsOf vs)->(xs.map (·.2)).size<=sizeLine:=λxs hp=>by rw[Array.size_map,hp.size_eq,pairsOf_size];exact n64
 dsimp only;by_cases h2:vs.toArray.size<2;rw[ι h2,ι h2];show ζ (η ?_);rw[StateT.run_pure];show ζ (η ?_);show ζ (seqEpoch_at g2 9 (ζ (listUpdate_at g2 9 ?_ (hsz2:=Nat.le_succ_of_le (osz (pairsOf vs) (Array.Perm.refl _))))));erw[aaN,NH,aau];calc η (out (pairsOf vs) (Array.Perm.refl _));rw[θ h2,θ h2];let JG:2<=vs.length:=by rw[iD] at h2;lia
 let kd:∀Q:SortKind->Shared->Prop,Q (tuples' true) {s with heap:=g}->wpAny (model prog w) A (keyKind' vs.toArray) Q E {s with heap:=g}:=λQ hq=>by show Ld (by rintro rfl;simp at JG) (λv hv=>?_) hq;let(i,x,t1,t2,z,ta,_):=Cr v hv;exact#[_,_,_,ta,9]
 let cm:SP.Cp prog w A E {s with heap:=g} (tuples' true) (λp=>p.1∈vs):=#[λ{p q st Q} hp hq hk h=>by
  rw[lt'_eq];show μ (wpS_get ?_);rw[hk];let(i,x,t1,t2,z,ta,tz):=Cr _ hp;let(i',x',u1,u2,z',tb,tz'):=Cr _ hq;show μ (wpS_lift (aai (Qq (s:={s with heap:=g}) ta tb (λe he=>?_) true λb=>#[9,ξ (h b)])));erw[T1,List.zip_nil_right,dQ,gQ,aah] at he;obtain rfl|rfl|rfl:=he
  calc .int _ _ _ _;calc .str _ _ _ _;calc adX tz tz']
 show ζ (kd _ ?_);show ζ (F1 (SP.Ln (a₀:=pairsOf vs) (st:=SortSt.mk' (tuples' true) (vs.toArray.zip 515) 83 07 none) (Q:=λ_ bp=>(arrOf bp).Perm (pairsOf vs)/\failedOf bp=none) cm #[#[9,λp hp=>?_],9,Array.Perm.refl _,9] (by rw[pairsOf_size];calc JG) λbp p1 p2=>#[p1,p2]) ?_ λ_ _ z=>z);let hp:p∈(pairsOf vs).toList:=hp;rw[pairsOf_toList] at hp;calc (mem_zip_self hp).2;rintro⟨⟨⟩,bp⟩ s' ⟨rfl,hp,hf⟩;dsimp only;show ζ (seqEpoch_at g2 9 (ζ (listUpdate_at g2 9 ?_ (hsz2:=Nat.le_succ_of_le (osz _ hp)))));rw[hf];erw[aaN,NH,aau];calc η (out _ hp)
def Cs(b:Bool){l:Addr}{vs:qag}(hl:s.heap.IsList l 515)(Ys:87<=100000)(ht:∀v∈vs,Tri b 69 v)(h:∀out:Array Value,out.toList.Perm vs->Q (.ref 77) {s with heap:=sortedAll 69 vs out}) :
  wpAny 14 A (call (.builtin "sorted") [.ref l]) Q E s:=by
 let n64:vs.length<=sizeLine:=by rw[π];lia
 show acG kind_sorted plain_sorted entry_sorted (args_sorted1 _) ?_;unfold Builtin.«sorted»;show ζ (m:=checkCount "sorted" 1 1 _) (η ?_);show ζ (collect_list hl ?_ n64);let hz:((s.heap.push (seqObj "list" ([].toArray) 0)).update s.heap.objs.size (Obj.mapSeq (·++vs.toArray))).objs.size=s.heap.objs.size+1:=by rw[Heap.size_update,size_push']
 let old:∀b o,s.heap.get? b\o->(((s.heap.push (seqObj "list" ([].toArray) 0)).update s.heap.objs.size (Obj.mapSeq (·++vs.toArray))).push (seqObj "list" vs.toArray 0)).get? b\o:=λb o e=>by show dF _ ?_;rw[acD _ _ _ _ (hU (eR e))];exact dF _ e
 show ζ (aaR ?_ n64);let ho:(((s.heap.push (seqObj "list" ([].toArray) 0)).update s.heap.objs.size (Obj.mapSeq (·++vs.toArray))).push (seqObj "list" vs.toArray 0)).get? (s.heap.objs.size+1)\seqObj "list" vs.toArray 0:=by rw[<- hz];exact gP _ 9
 change wpAny _ _ _ _ _ {s with heap:=((s.heap.push (seqObj "list" 83 0)).update 8 (Obj.mapSeq (·++515))).push (seqObj "list" 515 0)};rw[hz];let age:∀g:Heap,(∀b o,b≠s.heap.objs.size+1->(((s.heap.push (seqObj "list" ([].toArray) 0)).update s.heap.objs.size (Obj.mapSeq (·++vs.toArray))).push (seqObj "list" vs.toArray 0)).get? b\o->g.get? b\o)->∀v∈vs,Tri b g v:=λg hg v hv=>by let(i,x,t1,t2,z,(a,o,n,rfl,e,c,d),tz):=ht v hv;exact#[i,x,t1,t2,z,#[a,o,n,9,hg a o (hU (Be (eR e))) (old a o e),c,d],tz]
 calc ζ (Ω (υ slot_list_sort #[_,ho,9] entry_list_sort (adY b ho Ys (λg hg=>age g hg) λout hp=>#[_,9,η #[_,9,h out hp]]) (args_list_sort _)))
end
def Tv(b:Bool)(v:V):Prop:=if b=true then ∃y,v=.str y else ∃k,v=.int k
def mZ(b:Bool):dh X (.builtin "sorted") (λxs H Q=>∃(p:Addr)(ws:qak),xs=[.ref p]/\f_ X.K H p ws/\ws.length<=100000/\(∀w∈ws,∃a i x z,w=.ref a/\eZ X.K H a [.int i,.str x,z]/\Tv b z)/\∀zs:qak,zs.Perm ws->∀a,H a=none->Q 110 (upd H a (.lst zs))):=by
 intro ε s σ H xs us Q I r h;let(p,ws,rfl,hq,hl,ht,q):=h;let(u,rfl,ru):=vals1 r;cases ru;let(aR,rv,pl,hz):=I.list hq;let e:=rv.length;show Cs b 543 () (λv hv=>?_) λout hp=>?_;let(i,hi,rfl):=YM.mp hv;let hw:ws[i]?\ws[i]'():=eY _;let(u,hu,ru):=rv.get hw;rw[eY hi] at hu;cases hu;let(a,j,x,z,eb,hb,hz'):=ht _ (Ft (by lia:i<ws.length));rw[eb] at ru;let eu:aR[i]=.ref a:=ru;rw[eu];let(ps,pv,(o,ho,hc,n,hd),_):=I.tuple hb;cases pv with
 |cons r1 pv=>cases pv with
  |cons r2 pv=>cases pv with
   |cons r3 pv=>
    cases pv;let(t1,rfl):=r1;let(t2,rfl):=r2;show#[j,x,t1,t2,_,#[a,o,n,9,ho,hc,hd],?_];cases b with
    |true=>let(y,rfl):=hz';let(t3,rfl):=r3;calc#[_,_,9]
    |false=>let(y,rfl):=hz';let(t3,rfl):=r3;exact#[_,_,9]
 let(zs,p1,p2):=G3 hp rv;show zz I p2 ?_ (q zs p1);rw[p1.length_eq];calc hz
def Tt(b:Bool)(t:T):Prop:=if b=true then ∃y,t=.str y else ∃k,t=.int k
def agf(b:Bool)(t:T):Prop:=∃i x z,t=.tup [.int i,.str x,z]/\Tt b z
def Lo(b:Bool)(ts:Λ)(q:qam):Prop:=∃rows:Λ,ts=[.lst rows]/\rows.length<=100000/\(∀t∈rows,agf b t)/\∀zs:Λ,zs.Perm rows->q (.fr (.lst zs))
def o9(b:Bool):my K (λxs H Q=>∃(p:Addr)(ws:qak),xs=[.ref p]/\f_ K H p ws/\ws.length<=100000/\(∀w∈ws,∃a i x z,w=.ref a/\eZ K H a [.int i,.str x,z]/\Tv b z)/\∀zs:qak,zs.Perm ws->∀a,H a=none->Q 110 (upd H a (.lst zs))) (Lo b):=by
 intro Z tm O ρ σ H ts vs q Q I h hp k;let(rows,rfl,hl,hr,hq):=hp;let(v,rfl,a):=dH h;let(p,ws,rfl,hs,hv):=a.lst;let e:=hv.length;show#[p,ws,9,hs,(),λw hw=>?_,λzs h1 b hb=>?_];let(t,ht,at'):=zW hv w hw;let(i,x,z,rfl,hz):=hr t ht;let(a,us,rfl,h2,h3):=hV.tup (.inl at');erw[aD,At] at h3;let(_,_,rfl,rfl,_,_,rfl,rfl,v3,_,rfl,h4,rfl):=h3;show#[a,i,x,v3,9,h2,?_];cases b with
 |_=>let(y,rfl):=hz;erw[At] at h4;exact#[y,h4]
 let(us,p1,p2):=Lf h1 hv;calc k _ (hq us p1) _ _ (aI hb) (I.v5 hb p2)
end TP
namespace PySem
open Sem (wp)
end PySem
namespace VT
open PySem PySem.Spec PyProof.Rows L2
def G6(o:Obj)(i:Nat):Addr:=match 496 with
 |.dict es _=>match es[i]? with
  |some e=>match e.key with
   |.ref b=>b
   |_=>0
  |none=>0
 |_=>0
def SX(H:Hp)(a:Addr)(o:Obj)(ks:List (List Key)):Prop:=∃vs:qak,173=87/\H a\.k6 o 504
def SX.known{o:Obj}(ok:kL P w H h)(z:SX H a o ks):h.get? a\o/\495=false/\o.cls=.type "dict"/\∃es ep,496=.dict es ep/\107=173 /\
  ∀(i:Nat)(k:List Key),ks[i]?\k->H (G6 o i)\.tup (k.map kV)/\∃e,es[i]?\e/\e.key=.ref (G6 o i):=by
 let(vs,hl,ha):=z;let(ho,_,hm,xs,hx,o',es,ep,h1,h2,h3,h4,h5):=(show cb P w H h a (.k6 o 504) from ok a _ ha);rw[ho] at h1;cases h1;let hz:es.size=ks.length:=by let e1:=RY hx;rw[NI,hl,RZ] at e1;rw[<- Fq,h4,bS,hl];exact e1.symm
 show#[ho,hm,h2.1,es,ep,h3,hz,λi k hk=>?_];let hi:=(c7.mp hk).1;let hv:vs[i]?\vs[i]'():=eY _;let hp:(ks.zip vs)[i]?\(k,vs[i]'()):=by rw[acH];exact#[hk,hv]
 let(q,hq,e1,e2,e3):=fJ hx hp;let he:es[i]?\entryOfKey (tupleKind (bN P w)) q:=by rw[<- DD,h4,fW,hq];rfl
 let ek:G6 o i=q.2.1:=by unfold G6;rw[h3];dsimp only;rw[he];rfl
 rw[ek];calc#[e2,_,he,9]
def kT:Key->T
 |.inl i=>.int i
 |.inr x=>.str x
def ktT(k:List Key):T:=.tup (k.map kT)
def adZ{A:zm}(k:Key):At K H A (kT k) (kV k):=by cases k<;>erw[kT,kV,At]
theorem Lp{K:qaf}{H:Hp}{A:zm}:∀k:List Key,aD K H A (k.map kT) (k.map kV)
 |[]=>451
 |k::ks=>aD.cons (adZ k) (Lp ks)
def Ww{A:zm}{b:Addr}{k:List Key}(h:H b\.tup (k.map kV)):At K H A (ktT k) (.ref b):=cj (eZ.of h) (Lp k)
def SY{A:zm}{o:Obj}{ts:Λ}(h:At K H A (.df o ks ts) 110):SX H a o ks:=by let(b,vs,e,hl,hd,_):=h;cases e;calc#[vs,hl,hd.1]
section
def xt{rest:qaq}{t:TS}(h:ko X rest t):ko X rest (λD σ H=>∃a bj,H a\.dT bj/\∀o,t D σ (upd H a (.k6 o (.dT bj)))):=by
 intro ε s σ H D I hq;let(a,bj,ha,k):=hq;let(z,y,xs,r,o,es,ep,h1,h2,h3,h4,h5):=(show cb 33 X.w H 69 a (.dT bj) from I.bZ a _ ha);let new:cb X.prog X.w (upd H a (.k6 o (.dT bj))) s.heap a (.k6 o (.dT bj)):=by show#[h1,z,y,xs,Paired.pL r λp q #[e1,e2,e3]=>#[e1,?_,e3],o,es,ep,h1,h2,h3,h4,h5];rw[aG];calc e2;intro e;rw[e,ha] at e2;cases e2
 let I':Inv X ε σ (upd H a (.k6 o (.dT bj))) {s with heap:=s.heap,toks:=s.toks}:=I.write (by rw[ha];trivial) 7 (λb u _ q=>q) #[o,h1] new;calc h ε s σ _ D I' (k o)
def aB.ice{tm:qab}(I:aB K Z tm O ρ σ H){ts:Λ}(hp:aY Z i)(hi:ρ[i]?\some (.dt ks ts,true)) :
  ∃a vs,H a\.dT 175/\∀o,aB K Z tm (O.set i none) (ρ.set i (some (.df o ks ts,false))) σ (upd H a (.k6 o 504)):=by
 let(o',s,h1,h2,a,rfl,rfl,vs,hl,e0,q0):=I.sl i _ hi;let ha:=aH.mpr (fM h1);let Ik:a∈av Z O:=hX _ ha;let(hP,hx,_):=I.own a ha;show#[a,vs,e0,λo=>?_];let apart:∀b,b∈roots (O.set i none)->b≠a:=λb hb e=>by
  subst e;let(j,hj):=TY.mp (aH.mp hb);rcases get_set hj with⟨_,z,_⟩|⟨ne,z⟩
  cases z;exact ne (yZ I z h1)
 let nav:a∉av Z (O.set i none):=λz=>by
  rcases fO.mp z with z|z
  calc apart a z 9;exact hx z
 let fw:∀{t:T}{v:V},At K H (av Z O) t v->At K (upd H a (.k6 o (.dT (ks.zip vs)))) (av Z (O.set i none)) t v:=λq=>(At.wrote Ik e0 9 q).bC (cu i);let fwL:∀{t:Λ}{v:qak},aD K H (av Z O) t v->aD K (upd H a (.k6 o (.dT (ks.zip vs)))) (av Z (O.set i none)) t v:=λq=>(aD.wrote Ik e0 9 q).bC (cu i);show#[by simp[I.lσ],by simp[I.lO],λj e h=>?_,fH _ _ I.nd,λb h=>?_,λp q=>?_,λb h=>?_,λb u e n=>?_,λp q=>fw (I.lh p q)];rcases get_set h with⟨rfl,rfl,N9⟩|⟨ne,h⟩
 show#[none,some 110,by rw[DC (by rw[I.lO];calc N9)],h2,9,.ref a,9,?_];calc#[a,vs,9,hl,#[aK,nav],fwL q0];let(o2,s,g1,g2,g3):=I.sl j e h;show#[o2,s,by rw[uG (Ne.symm ne)];calc g1,g2,g3.map (λ_ _ q=>fw q) λb t eb q=>?_];subst eb;show q.map (aG ?_) λ_ _ q=>fwL q;intro e;subst e;calc ne (yZ I g1 h1);let(g1,g2,u,g3,g4):=I.own b (cq i b h);calc#[g1,g2,u,by rw[aG (apart b h)];calc g3,g4];rw[uG (Ne.symm (hp p q))];calc I.par p q;by_cases e:b=a;subst e;calc absurd h hx;rw[aG e];calc I.ox b h;rw[aG];calc I.keep b u e n;intro eb;subst eb;obtain z|z:=hP
 calc n z;rw[z] at e;cases e
def ad0(i:Nat)(g:FS):FS:=λd ρ=>match ρ[i]? with
 |some (some (.dt ks ts,true))=>∀o,g d (ρ.set i (some (.df o ks ts,false)))
 |_=>False
def Qv{rest:qaq}{g:FS}(i:Nat)(hp:aY Z i)(h:kx X Z rest g):kx X Z rest (ad0 i g):=.mk λtm=>ko.mj (xt 513) λD σ H #[ρ,O,d,I,q,F]=>by
 unfold ad0 at q;split at q
 rename_i ks ts e
 let(a,vs,e1,k):=I.ice hp e;calc#[a,_,e1,λo=>#[_,_,d,k o,q o,F]];calc q.elim
end
def zY:Λ->Option (List Key)
 |[]=>some []
 |t::ts=>match PQ t,zY ts with
  |some k,some ks=>some (k::ks)
  |_,_=>none
theorem rW{K:qaf}{H:Hp}{A:zm}:∀{ts:Λ}{vs:qak}{k:List Key},aD K H A ts vs->zY ts\k->vs=k.map kV
 |[],vs,k,h,e=>by cases e;calc h
 |t::ts,vs,k,h,e=>by
  let(v,r,rfl,h1,h2):=h;erw[zY] at e;split at e
  rename_i k' ks e1 e2
  cases e;rw[wR (.inl h1) e1,rW h2 e2];rfl;cases e
section
variable{κ:Type}[DecidableEq κ]
def eB:List κ->List α->κ->Option α
 |k::ks,t::ts,x=>if k=x then some t else eB ks ts x
 |_,_,_=>none
def jL(ks:List κ)(x:κ):Bool:=ks.any λk=>decide (k=x)
def G7(ks:List κ)(x:κ):List κ:=if jL ks x=true then ks else ks++[x]
def zZ(ks:List κ)(ts:List α)(x:κ)(u:α):List α:=if jL ks x=true then List.zipWith (λk t=>if k=x then u else t) ks ts else ts++[u]
def Lq(ts:List α)(x:κ):eB [] ts x=none:=by cases ts<;>rfl
theorem rX:∀(ks:List κ)(vs:qak)(x:κ),jj 175 x=eB ks vs x
 |[],vs,x=>by rw[Lq];rfl
 |k::ks,[],x=>rfl
 |k::ks,v::vs,x=>by erw[eB,T1];by_cases e:k=x;rw[ι e,jz e];rw[θ e,jA e];calc rX ks vs x
theorem qk{K:qaf}{H:Hp}{A:zm}:∀{ks:List κ}{ts:Λ}{vs:qak}{x:κ},aD K H A ts vs->(∀t,eB ks ts x\t->∃v,eB ks vs x\v/\At K H A t v)/\(eB ks ts x=none->eB ks vs x=none)
 |[],ts,vs,x,h=>by show#[λt e=>?_,λ_=>rfl];cases e
 |k::ks,[],vs,x,h=>by subst h;calc#[λt e=>(by cases e),λ_=>rfl]
 |k::ks,t::ts,vs,x,h=>by let(v,r,rfl,h1,h2):=h;erw[eB];by_cases e:k=x;rw[ι e,ι e];calc#[λt e=>by cases e;calc#[v,9,h1],λq=>by cases q];rw[θ e,θ e];calc qk h2
def Lr(ks:List κ)(vs:qak)(x:κ)(hl:173=87):((ks.zip vs).any λkv=>decide (kv.1=x))=jL ks x:=by
 unfold jL;induction ks generalizing vs with
 |nil=>rfl
 |cons k ks ih=>
  cases vs with
  |nil=>simp at hl
  |cons v vs=>rw[T1,Fv,Fv,ih vs (by simpa using hl)]
def ad1(ks:List κ)(vs:qak)(x:κ)(v:V):(ks.zip vs).map (λkv=>if kv.1=x then (kv.1,v) else kv)=ks.zip (List.zipWith (λk t=>if k=x then v else t) ks vs):=by
 induction ks generalizing vs with
 |nil=>rfl
 |cons k ks ih=>
  cases vs with
  |nil=>rfl
  |cons u vs=>erw[T1,kn,acV];rw[ih vs];by_cases e:k=x;rw[ι e,ι e];rw[θ e,θ e]
def Lu(ks:List κ)(vs:qak)(x:κ)(v:V)(hl:173=87):L2.putK 175 x v=(G7 ks x).zip (zZ ks vs x v)/\(G7 ks x).length=(zZ ks vs x v).length:=by unfold L2.putK G7 zZ;rw[Lr ks vs x hl];by_cases e:jL ks x=true;rw[ι e,ι e,ι e];calc#[ad1 ks vs x v,by simp[hl]];rw[θ e,θ e,θ e];show#[?_,by simp[hl]];rw[List.zip_append hl];rfl
def Ct{A:zm}{ks:List κ}{ts:Λ}{x:κ}{t:T}(h:aD K H A ts vs)(ht:At K H A t v):aD K H A (zZ ks ts x t) (zZ ks vs x v):=by
 unfold zZ;by_cases e:jL ks x=true;rw[ι e,ι e];clear e;induction ks generalizing ts vs with
 |nil=>erw[List.zipWith_nil_left];calc 451
 |cons k ks ih=>
  cases ts with
  |nil=>subst h;calc 451
  |cons t0 ts=>let(v0,r,rfl,h1,h2):=h;erw[acV];show aD.cons ?_ (ih h2);by_cases q:k=x;rw[ι q,ι q];calc ht;rw[θ q,θ q];exact h1
 rw[θ e,θ e];calc h.append (aD.cons ht 451)
def Qw{A:zm}{ks:List κ}{ts:Λ}{k:κ}{z:T}{w:V}(h:aD K H A ts vs)(hz:At K H A z w):At K H A ((eB ks ts k).getD z) ((eB ks vs k).getD w):=by
 cases e:eB ks ts k with
 |none=>rw[(qk h).2 e];calc hz
 |some t=>let(v,e1,e2):=(qk h).1 t e;rw[e1];calc e2
end
section
variable{a:Expr}{fc:FE}{pos:Pos}
def Wx:FP:=λ_ Q=>Q (.fr (.dt [] []))
def Lv:VP X Z (.Dict [] [] pos) Wx:=.mk λtm=>PE.weak rq λσ H Q #[ρ,O,q,I,hf,k] p hp=>by show k _ hf _ _ (aI hp) ?_;let(n1,n2,n3):=I.fresh hp;calc#[p,9,I.new hp 9,#[[],9,aK,451],n3,n2]
def Lw(n:Nat)(f:FE)(g:FA):FS:=λd ρ=>match ρ[n]? with
 |some (some (.dt ks ts,true))=>f ρ λv=>g ρ λys=>match zY ys with
  |some k=>(172<=sizeLine/\25<16777216)/\d.nx (ρ.set n (some (.dt (G7 ks k) (zZ ks ts k v),true)))
  |none=>False
 |_=>False
theorem Lx(n:Nat){f:FE}{x1}{Oy:Pos}(hu:537+1<cLine)(he:VE X Z e f)(hi:VA X Z es g)(hN:X.N[n]?\x:=by rfl)(hv:nI 39 x:=by first|calc Or.inl rfl|calc Or.inr 7|calc Or.inr 95)(hd:gD x:=by decide)(fL:qt x:=by decide)(hs:swapsWith e (some (.Subscript 31 (.Tuple es x1 Oy) eA)) pos.line 3=pure false:=by rfl) :
  VS X Z (.Assign [.Subscript 31 (.Tuple es x1 Oy) eA] e pos) (Lw n f g):=.mk λtm=>
 PS.weak (wQ hu 123 (qF (hi tm)) (he tm) hs) λD σ H #[ρ,O,d,I,q,F]=>by
  unfold Lw at q;split at q
  rename_i ks ts e0
  let(l,h1,h2,xs,hl,h3,h4):=I.root e0;let ha:l∈av Z O:=hX _ 540;show#[ρ,O,_,I,q,λt ht v H1 s1 a1=>#[.ref l,h2,ρ,O,_,I.same s1,ht,λys hy ws H2 s2 a2=>?_]];split at hy
  rename_i kk ek
  let((kq,hlen),hj):=hy;show#[by rw[a2.length];calc kq,λp0 hp0=>?_];let s3:aW H2 (upd H2 p0 (.tup ws)):=aI hp0;let h3':=s3 _ _ (s2 _ _ (s1 _ _ h3));let q:=Lu ks xs kk v hl;let hz:(ks.zip xs).length<sizeLine:=by
   rw[π,NI,hl,RZ,h4.length]
   lia
  let hb:upd H2 p0 (.tup ws) p0\.tup (kk.map kV):=by rw[rW a2 ek];exact aK
  show#[l,_,9,wK.t h3' hb hz,?_];rw[q.1];show F.nx O _ σ _ ((((I.same s1).same s2).same s3).wrote (t':=.dt (G7 ks kk) (zZ ks ts kk t)) e0 h1 #[zZ ks xs kk v,q.2,aK,?_]) hj;calc aD.wrote ha h3' 9 (Ct (((h4.same s1).same s2).same s3) ((a1.same s2).same s3));calc hy.elim;calc q.elim
end
end VT
namespace PySem
open Sem (wp)
section
variable{o:Obj}{es:Array DictEntry}{ok ov:Value}
def kG{v:Addr}(hv:s.heap.IsItemsView v d)(ho:s.heap.get? d\o)(hd:496=.dict es ep)(hQ:Q 59 {s with heap:=s.heap.push {cls:=.type "dict_itemiterator",data:=.fields ([.none,.bool false,.ref d,.int 0 0,.int 107 0,.int ep 0,.none,.none].toArray)} }):wpAny 14 A (pyIter (.ref v)) Q E s:=by
 let(o2,hov,hcv,hdv):=id hv;show aaz hv.typeIs F.slot_dict_items_iter (υ F.slot_dict_items_iter hv.typeIs F.entry_dict_items_iter (ζ (η (ζ (ζ (Φ hov hdv 9 (η (ζ (ζ (wpAny_dictEntries ho hd (ζ (wpAny_dictEpoch ho hd ?_))))))))))) (F.args_dict_items_iter_1 _));let own:Builtin.Dict_items.ownsTuple "dict_itemiterator"=true:=by decide
 erw[own,aaT];show Δ (η #[_,9,"dict_itemiterator",_,#[_,gP _ 9,9],YE.lookup,?_]) (by simp[sizeOk,Builtin.Dict_items.ownedTupleFields,π]);simpa[rawInt,Builtin.Dict_items.ownedTupleFields] using hQ
theorem kH{Q:474->Shared->Prop}{e:DictEntry}(hit:IsItemIter 69 it d i 107 ep ok ov)(ho:s.heap.get? d\o)(hd:496=.dict es ep)(he:es[i]?\e)(hQ:∀h',IsItemIterOut h' it d 525 107 ep e.key e.val 8->h'.get? 8=some {cls:=.type "tuple",data:=.seq ([e.key,e.val].toArray)}->h'.objs.size=8+1 ->
    (∀b u,b≠it->s.heap.get? b\u->h'.get? b\u)->Q (some 59) {s with heap:=h'}):wpAny 14 A 516 Q E s:=by
 let(hp,g,dr,tk,os):=s;let hT:Shared.TypeIs #[hp,g,dr,tk,os] (.ref it) "dict_itemiterator":=#[_,hit,9];show ζ (aai (ψ hT YE
  (υ YE hT F.entry_dict_itemiterator_next ?_ (F.args_dict_itemiterator_next_1 _))))
 show ζ (η (ζ (ζ ?_)))
 first|show ζ (aac hT (η ?_))|show ζ (aal hT (η ?_))
 show ζ (aas hit 9 ?_);let own:Builtin.Dict_items.ownsTuple "dict_itemiterator"=true:=by decide
 show ζ (η (ζ (wpAny_dictEntries ho hd ?_)));rw[θ 6];show ζ (η (ζ (wpAny_dictEpoch ho hd ?_)));rw[θ 6];show η ?_;erw[show ¬ (i<0) from by lia,aau,i9,he];show ζ ?_
 first|show ζ (aac hT (η ?_))|show ζ (aal hT (η ?_))
 show ζ (aaB hT ?_);change wpAny _ _ (setField 476 03 (rawInt 525) >>= _) _ _ #[hp,g,dr,tk,os];show ζ (Ξ hit 6 λh₁ he₁ B1=>?_);let hT₁:Shared.TypeIs #[h₁,g,dr,tk,os] (.ref it) "dict_itemiterator":=#[_,he₁,9];show ζ (Ω (ζ (aaB hT₁ (ζ (aaB hT₁ (ζ (aaJ ?_)))))));let U2:IsItemIter (h₁.push {cls:=.type "tuple",data:=.seq ([e.key,e.val].toArray)}) it d (i+1) es.size ep ok ov:=dF _ he₁;generalize hh₂:h₁.push {cls:=.type "tuple",data:=.seq ([e.key,e.val].toArray)}=h₂ at U2;let Jk:=B1.1;let hil:=eR hit;let ht₂:h₂.get? hp.objs.size=some {cls:=.type "tuple",data:=.seq ([e.key,e.val].toArray)}:=by rw[<- hh₂,<- Jk];exact gP _ 9
 let Ym:h₂.objs.size=hp.objs.size+1:=by rw[<- hh₂,uH,Jk]
 let hk₂:∀b u,b≠it->hp.get? b\u->h₂.get? b\u:=λb u hb e=>by rw[<- hh₂];exact dF _ (B1.extBut b u hb e)
 change wpAny _ _ (Builtin.Dict_items.ownedTupleIsFree 476 >>= _) _ _ #[h₂,g,dr,tk,os];rw[Jk];show ζ (ζ (Φ U2 9 9 (η (ζ (Φ U2 9 9 (ζ (Φ U2 9 9 (ζ (Ξ U2 6 λh₃ he₃ Bg=>ζ (Ξ he₃ 6 λh₄ he₄ Il=>ζ (Ξ he₄ 6 λh₅ he₅ Im=>ζ (Ξ he₅ 6 λh₆ he₆ hs₆=>?_))))))))))));let N8:=Fw hil;show ζ (wpAny_letGo (η (η #[_,9,η (hQ h₆ he₆ ?_ ?_ ?_)])));calc hs₆.extBut _ _ N8 (Im.extBut _ _ N8 (Il.extBut _ _ N8 (Bg.extBut _ _ N8 ht₂)));rw[hs₆.1,Im.1,Il.1,Bg.1,Ym];calc λb u hb e=>hs₆.extBut b u hb (Im.extBut b u hb (Il.extBut b u hb (Bg.extBut b u hb (hk₂ b u hb e))))
theorem iT{Q:474->Shared->Prop}(hh:538=none)(hit:IsItemIter 69 it d i 107 ep ok ov)(ho:s.heap.get? d\o)(hd:496=.dict es ep)(he:es[i]?=none)(hQ:∀h',Heap.ExtBut it 69 h'->Q none {s with heap:=h'}):wpAny 14 A 516 Q E s:=by
 let hT:s.TypeIs (.ref it) "dict_itemiterator":=#[_,hit,9];show ζ (aai (ψ hT YE
  (υ YE hT F.entry_dict_itemiterator_next ?_ (F.args_dict_itemiterator_next_1 _))))
 show ζ (η (ζ (ζ ?_)))
 first|show ζ (aac hT (η ?_))|show ζ (aal hT (η ?_))
 show ζ (aas hit 9 ?_);let own:Builtin.Dict_items.ownsTuple "dict_itemiterator"=true:=by decide
 show ζ (η (ζ (wpAny_dictEntries ho hd ?_)));rw[θ 6];show ζ (η (ζ (wpAny_dictEpoch ho hd ?_)));rw[θ 6];show η ?_;erw[show ¬ (i<0) from by lia,aau,i9,he];show ζ ?_
 first|show ζ (aac hT (η ?_))|show ζ (aal hT (η ?_))
 change wpAny _ _ (setField 476 2 .none >>= _) _ _ s;show ζ (aaf hit 9 6 (ζ (ζ (m:=firstArgMember _ _) (aaM (by first|rfl|(erw[firstArgMember];rfl)) (Δ (ζ (aaO ?_)) (by size_fits))))));rw[show A.in1.handled=none from hh];show ζ (η (wpAny_throw ?_));show ζ (aaC #[_,gP _ 9,9] aaK ?_);calc η (hQ _ (((IA ..).extBut.push _).push _))
end
end PySem
namespace VT
open PySem PySem.Spec PyProof.Rows L2
def Ly(a d:Addr):HO:=.ext λh=>h.get? a=some {cls:=.type "dict_items",data:=.fields ([.ref d].toArray)}
def Iti(a:Addr)(o:Obj)(ks:List (List Key)):It :=
 #[λi H=>SX H a o ks/\i<173,λi H x H'=>∃k v p vs,ks[i]?\k/\173=87/\H a\.k6 o 504/\vs[i]?\v/\H (G6 o i)\.tup (k.map kV)/\H p=none/\x=.ref p/\H'=upd H p (.tup [.ref (G6 o i),v]),λi H=>SX H a o ks/\173=i]
def SX.entry{o:Obj}{es:Array DictEntry}(ok:kL P w H h)(z:SX H a o ks)(hd:496=.dict es ep)(hi:i<173) :
  ∃k v vs e,ks[i]?\k/\173=87/\H a\.k6 o 504/\vs[i]?\v/\H (G6 o i)\.tup (k.map kV)/\es[i]?\e/\e.key=.ref (G6 o i)/\RelV v e.val:=by
 let(vs,hl,ha):=z;let(ho,_,hm,xs,hx,o',uJ,YY,h1,h2,h3,h4,h5):=(show cb P w H h a (.k6 o 504) from ok a _ ha);rw[ho] at h1;cases h1;rw[hd] at h3;cases h3;let hv:vs[i]?\vs[i]'():=eY _;let hk:=eY hi;let hp:(ks.zip vs)[i]?\(ks[i],vs[i]'()):=by rw[acH];exact#[hk,hv]
 let(q,hq,e1,e2,e3):=fJ hx hp;let he:es[i]?\entryOfKey (tupleKind (bN P w)) q:=by rw[<- DD,h4,fW,hq];rfl
 let ek:G6 o i=q.2.1:=by unfold G6;rw[hd];dsimp only;rw[he];rfl
 calc#[ks[i],vs[i]'(),vs,_,hk,hl,ha,hv,by rw[ek];calc e2,he,by rw[ek];rfl,e3]
def Cu{x1}{o:Obj}{es:Array DictEntry}(ks:List (List Key))(a it:Addr)(hd:496=.dict es ep) :
  Turn P w K 480 (Iti a o ks) [it] it (λi h=>∃ok ov,IsItemIter h it a i 107 ep ok ov) where
 mem:=by simp
 obj:=λi h st b hb=>by
  let e:b=it:=by simpa using hb
  subst e;let(ok,ov,st):=st;exact#[_,st,λv z=>by cases z]
 keep:=λi h h' #[ok,ov,st] k=>#[ok,ov,k it 6 _ st]
 item:=by
  intro X hP hw hK hc i ε s σ H E I hf st hg;let(ok,ov,st):=st;let(ha,hi):=hg;let(ho,_,_,_):=ha.known I.bZ;let(k,v,vs,e,hk,hl,hH,hv,hb,he,ek,rv):=ha.entry I.bZ hd hi;show kH st ho hd he λh' bp tup sz old=>#[_,9,wpAny_letOwnedTupleGo_items bp λh2 vP sb=>?_];let sb':=sb;let di:=eR st;let N8:=Fw di;let kk:∀b ob,b∉[it]->s.heap.get? b\ob->h2.get? b\ob:=λb ob hb q=>by let ZS:b≠it:=λz=>hb (by simp[z]);exact (sb'.2 b ZS).trans (old b ob ZS q)
  let new:cb X.prog X.w (upd H s.heap.objs.size (.tup [.ref (G6 o i),v])) h2 s.heap.objs.size (.tup [.ref (G6 o i),v]) :=
   #[by change 2<=sizeLine;rw[π];decide,[e.key,e.val],.cons (by rw[ek];rfl) (.cons rv .nil),#[_,(sb'.2 _ N8).trans tup,9,_,9]]
  show#[.ref 8,_,I.grown kk hf 82 new,9,#[k,v,_,vs,hk,hl,hH,hv,hb,I.fresh,9,9],#[_,_,vP],λb hb=>?_];let e:b=it:=by simpa using hb
  subst e;rw[aG (hU di)];exact (hf b hb).1
 done:=by intro X hP hw hK hc i ε s σ H E I hf st hg;let(ok,ov,st):=st;let(ha,hi):=hg;let(ho,_,_,uJ,YY,h3,hz,hk):=ha.known I.bZ;rw[hd] at h3;cases h3;let(f0,f1,f2,f3,f4,f5):=hf it 6;exact iT 498 st ho hd (acU ()) λh' eb=>#[9,I.turned (λb o hb e=>eb b o hb e) f0 f1 f3 f4 f5]
 self:=λA i s Q E #[ok,ov,st] h=>W.kcp_self st h
def Wy(tl:TE):TI:=λσ H R=>tl σ H λx H1=>∃a o ks,x=.ref a/\SX H1 a o ks/\∀p,H1 p=none->R (Iti a o ks) (upd H1 p (Ly p a))
def Lz{x1}{l:Expr}{tl:TE}(hl:PE X l tl)(du:attributeBase l "items" 3 (eval l 3)=eval l 3:=by rfl)(dw:91=true:=by rfl) :
  PI X 480 (.Call (.Attribute l "items" apos) [] [] bF) (Wy tl):=by
 intro ε s σ H R I h;show wpAny_Call_method0_late du dw (cT (hl ε s σ H _ I h) λv s1 #[x,H1,I1,r1,d,o,ks,e,hz,q1]=>?_);subst e;obtain rfl:=r1;let(ho,hm,hc,es,ep,h3,hz',hk):=hz.known I1.bZ;let hD:IsD H1 d:=.inr (let #[vs,_,e]:=hz;#[_,.inr #[o,e]]);let(t1,t2,_):=Kw I1 hD;show#["dict","dict.items",YI,PySem.F.slot_dict_items,PySem.F.type_dict_items,t1,t2,YJ 9 (PySem.evalArgs_none (υ PySem.F.slot_dict_items t1 PySem.F.entry_dict_items (ζ (ζ (wpAny_notOrdered_dict t1 (η ?_)))) (PySem.F.args_dict_items_1 _)))];unfold Builtin.Dict.showsAll;rw[θ (by rw[hm];calc iC)];show ζ (η (ζ (Δ (η #[_,9,?_]))));let I2:Inv X ε σ (upd H1 s1.heap.objs.size (Ly s1.heap.objs.size d)) {s1 with heap:=s1.heap.push {cls:=.type "dict_items",data:=.fields ([.ref d].toArray)} } :=
  I1.laid (λb o e=>dF _ e) 82 #[gP _ 9,#[_,gP _ 9],λh1 h2 z k=>k _ z]
 show kG #[_,gP _ 9,9,9] (dF _ ho) h3 ?_;show#[_,[(s1.heap.push {cls:=.type "dict_items",data:=.fields ([.ref d].toArray)}).objs.size],_,_,_,9,I2.kept λb o e=>dF _ e,Cu ks d _ h3,#[.none,.none,gP _ 9],λb hb=>?_,q1 _ I1.fresh];let e:b=(s1.heap.push {cls:=.type "dict_items",data:=.fields ([.ref d].toArray)}).objs.size:=by simpa using hb
 subst e;calc I2.qC 82 (I2.bZ.fresh 82)
def Wz(p:List Key×T):T:=.tup [ktT p.1,p.2]
def LA{o:Obj}{ts:Λ}(hl:173=25):Wk K (Iti a o ks) [(.df o ks ts,.ref a)] ((ks.zip ts).map Wz):=λH A hA h i=>by
 let hs:=h _ iz;let z:=SY hs;let ez:((ks.zip ts).map Wz).length=ks.length:=by rw[bS,NI,hl,RZ]
 rw[ez];show#[λhi=>#[z,hi],λhi=>#[z,hi],λt ht x H' y=>?_];let(k,v,p,vs,hk,hv,hH,hvi,hb,hp,rfl,rfl):=y;let(b,lr,e,N9,hd,hq):=hs;cases e;let e1:=hd.1;rw[hH] at e1;let e2:ks.zip vs=ks.zip lr:=by injection e1 with e1;injection e1 with _ e1;injection e1
 let e3:lr=vs:=by have:=aaa (List.map Prod.snd) e2;rw[List.map_snd_zip (),List.map_snd_zip ()] at this;exact this.symm
 subst e3;let hi:=(c7.mp hk).1;let hti:ts[i]?\ts[i]'():=eY _;rw[fW,show (ks.zip ts)[i]?\(k,ts[i]'()) from by rw[acH];calc#[hk,hti]] at ht;cases ht;let(v',g1,g2):=hq.get hti;rw[hvi] at g1;cases g1;let s:aW H (upd H p (.tup [.ref (G6 o i),v])):=aI hp;calc#[s,cj (eZ.of aK) (aD.cons ((Ww hb).same s) (aD.cons (g2.same s) 451))]
section
variable{l:Expr}
def WA(f:FE):FI:=λρ Q=>f ρ λt=>match t with
 |.df _ ks ts=>173=25/\Q ((ks.zip ts).map Wz)
 |_=>False
def z0{f:FE}{x1}(h:VE X Z l f)(du:attributeBase l "items" 3 (eval l 3)=eval l 3:=by rfl)(dw:91=true:=by rfl) :
  VI X Z 480 (.Call (.Attribute l "items" apos) [] [] bF) (WA f):=.mk λtm=>PI.weak (Lz 513 du dw) λσ H R #[ρ,O,q,I,hf,k]=>#[ρ,O,_,I,hf,λt ht v H' s a=>by
 cases t with
 |df o ks ts=>
   obtain⟨b,rfl⟩:∃b,v=.ref b:=by erw[At] at a;let(b,_,e,_):=a;exact#[b,e]
   show#[b,o,ks,9,SY a,λp hp=>?_];let s2:aW H' (upd H' p (Ly p b)):=aI hp;calc k _ ht.2 _ _ [(.df o ks ts,.ref b)] (s.trans s2) (λp hp=>by rw[fE.mp hp];calc a.same s2) (LA ht.1)
 |_=>calc ht.elim]
end
structure MG where
 a:Addr
 dx:Addr
 a1:Addr
 a2:Addr
 C:Addr
 H0:Hp
 n1:a≠a1
 n2:a≠a2
 n3:a1≠a2
 hb:Bool
def MG.Ox(M:MG):zm:=if M.hb=true then [M.a,M.a1,M.a2] else [M.a1,M.a2]
def MG.m1(M:MG):M.a1∈M.Ox:=by unfold MG.Ox;split<;>simp
def MG.m2(M:MG):M.a2∈M.Ox:=by unfold MG.Ox;split<;>simp
def MG.mem(M:MG){b:Addr}(h:b∈M.Ox):(M.hb=true/\b=M.a)\/b=M.a1\/b=M.a2:=by
 unfold MG.Ox at h;split at h
 rename_i z
 erw[dQ,gQ,aah] at h;calc h.elim (λe=>.inl #[z,e]) .inr;erw[dQ,gQ,aah] at h;calc .inr h
structure S2 where
 k1:List (List Key)
 t1:Λ
 k2:List (List Key)
 t2:Λ
abbrev fN:χ:=["names","cells"]
def WB(K:qaf)(H:Hp)(A:zm)(a:Addr)(ks:List (List Key))(ts:Λ):Prop:=∃vs,173=87/\H a\.dT 175/\aD K H A ts vs
structure SD(K:qaf)(M:MG)(s:S2)(H:Hp):Prop where
 ins:M.hb=true->H M.a\.ins M.C M.dx (fN.zip [.ref M.a1,.ref M.a2])
 d1:WB K H M.Ox M.a1 s.k1 s.t1
 d2:WB K H M.Ox M.a2 s.k2 s.t2
 fr:∀b o,M.H0 b\o->b∉M.Ox->H b\o
structure SG(K:qaf)(M:MG)(tm:qab)(ρ:En)(s:S2)(σ:St)(H:Hp):Prop where
 env:∃O,roots O=[]/\aB K #[H,[],M.Ox] tm O ρ σ H
 sd:SD K M s H
section
variable{M:MG}{tm:qab}{s:S2}
def WB.same{A:zm}{ts:Λ}(h:WB K H A a ks ts)(sm:aW H H'):WB K H' A a ks ts:=let #[vs,l,e,q]:=h;#[vs,l,sm _ _ e,q.same sm]
def SD.same(h:SD K M s H)(sm:aW H H'):SD K M s H':=#[λz=>sm _ _ (h.ins z),h.d1.same sm,h.d2.same sm,λb o e n=>sm _ _ (h.fr b o e n)]
def SD.here(h:SD K M s H):∀b∈M.Ox,∃u,H b\u/\nS u=true:=λb hb=>by
 let(v1,_,e1,_):=h.d1;let(v2,_,e2,_):=h.d2;rcases M.mem hb with⟨z,rfl⟩|rfl|rfl
 calc#[_,h.ins z,9];calc#[_,e1,9];calc#[_,e2,9]
def jd(h:roots O=[]):av Z O=Z.Ox:=by unfold av;rw[h];rfl
def lK(ρ:En):Bool:=ρ.all λe=>match e with
 |some (_,true)=>false
 |_=>true
def xu(I:aB K Z tm O ρ σ H)(h:lK ρ=true):roots O=[]:=by
 cases q:roots O with
 |nil=>rfl
 |cons a l=>
  exfalso;let ha:=aH.mp (by rw[q];calc iz);let(i,hi):=TY.mp ha;let hl:i<ρ.length:=by rw[<- I.lO];exact (c7.mp hi).1
  let he:=eY hl;let(o,s,h1,h2,h3):=I.sl i _ he;rw[hi] at h1;cases h1;let hv:=RX.mp h ρ[i] (Ft hl);revert h3 hv
  match ρ[i] with
  |none=>intro h3 _;cases h3
  |some (t,false)=>intro h3 _;calc nomatch h3.1
  |some (t,true)=>intro _ hv;cases hv
def aB.now(I:aB K Z tm O ρ σ H)(h:roots O=[]):aB K #[H,[],Z.Ox] tm O ρ σ H:=#[I.lσ,I.lO,I.sl,I.nd,λa ha=>(by rw[h] at ha;calc absurd ha gQ),λp hp=>absurd hp gQ,I.ox,λb o e _=>e,I.lh]
def SG.of(hZ:Z=#[H,[],M.Ox]){ρ':En}{σ':St}(d:SD K M s H)(I:aB K Z tm O ρ' σ' H')(hv:lK ρ'=true):SG K M tm ρ' s σ' H':=by subst hZ;calc#[#[O,xu I hv,I.now (xu I hv)],d.same λb o e=>I.keep b o e (λz=>absurd z gQ)]
def o_(M:MG)(s:S2):Option (T×Bool)->Option (T×Bool)
 |some (.ob x,false)=>if x=M.a1 then some (.dt s.k1 s.t1,false) else if x=M.a2 then some (.dt s.k2 s.t2,false) else if x=M.a/\M.hb=true then some (.ins M.C fN [.pin M.a1 (.dt s.k1 s.t1),.pin M.a2 (.dt s.k2 s.t2)],false) else some (.ob x,false)
 |e=>e
def agg(M:MG)(s:S2)(z:M.hb=true):o_ M s (some (.ob M.a,false))\(.ins M.C fN [.pin M.a1 (.dt s.k1 s.t1),.pin M.a2 (.dt s.k2 s.t2)],false):=by change (if M.a=M.a1 then _ else _)=_;rw[θ M.n1,θ M.n2,ι #[9,z]]
def agh(M:MG)(s:S2):o_ M s (some (.ob M.a1,false))\(.dt s.k1 s.t1,false):=by change (if M.a1=M.a1 then _ else _)=_;rw[ι 9]
def pd(b:Option T):Option (T×Bool):=b.map λt=>(t,false)
def rY:lK []=true:=rfl
def Cv(b:Option T)(ρ:En):lK (pd b::ρ)=lK ρ:=by cases b<;>rfl
def Cw(t:T)(ρ:En):lK (some (t,false)::ρ)=lK ρ:=rfl
def WB.at{A:zm}{ts:Λ}(h:WB K H A a ks ts):At K H [] (.dt ks ts) 110:=by let(vs,l,e,q):=h;calc#[a,vs,9,l,#[e,λz=>nomatch z],q.bC λb hb=>nomatch hb]
def SD.at(h:SD K M s H)(z:M.hb=true):At K H [] (.ins M.C fN [.pin M.a1 (.dt s.k1 s.t1),.pin M.a2 (.dt s.k2 s.t2)]) (.ref M.a):=by show#[M.a,M.dx,[.ref M.a1,.ref M.a2],9,9,#[h.ins z,λz=>nomatch z],aD.cons ?_ (aD.cons ?_ 451)];unfold At;calc#[9,h.d1.at];unfold At;calc#[9,h.d2.at]
def SG.up(g:SG K M tm ρ s σ H):∃O,roots O=[]/\aB K #[H,[],[]] tm O 190 σ H:=by
 let(O,hr,I):=g.env;show#[O,hr,#[by rw[bS];calc I.lσ,by rw[bS];calc I.lO,λi e he=>?_,I.nd,λa ha=>(by rw[hr] at ha;calc absurd ha gQ),λp hp=>absurd hp gQ,λa ha=>absurd ha gQ,λb o e _=>e,λp hp=>?_]];let e0:av #[H,[],[]] O=[]:=jd hr;rw[fW] at he;cases q:ρ[i]? with
 |none=>rw[q] at he;cases he
 |some e1=>
  rw[q] at he;cases he;let(o,sv,h1,h2,h3):=I.sl i e1 q;show#[o,sv,h1,h2,?_];rw[e0];let plain:lg K H [] e1 o sv:=by show h3.map (λt v z=>z.bC λb hb=>nomatch hb) λa t eo _=>?_;subst eo;have:=aH.mpr (fM h1);rw[hr] at this;exact nomatch this
  match e1,h3,plain with
  |some (.ob x,false),#[eo,v,es,av'],plain=>subst av';change lg K H [] (if x=M.a1 then _ else _) o sv;by_cases c1:x=M.a1;rw[ι c1];subst c1;calc#[eo,_,es,g.sd.d1.at];rw[θ c1];by_cases c2:x=M.a2;rw[ι c2];subst c2;calc#[eo,_,es,g.sd.d2.at];rw[θ c2];by_cases c3:x=M.a/\M.hb=true;rw[ι c3];let(rfl,c4):=c3;calc#[eo,_,es,g.sd.at c4];rw[θ c3];calc plain
  |none,_,plain=>calc plain
  |some (t,true),_,plain=>
   have:o_ M s (some (t,true))\(t,true):=by cases t<;>rfl
   rw[this];calc plain
  |some (.bY,false),_,plain=>calc plain
  |some (.bl _,false),_,plain=>calc plain
  |some (.int _,false),_,plain=>calc plain
  |some (.str _,false),_,plain=>calc plain
  |some (.tup _,false),_,plain=>calc plain
  |some (.lst _,false),_,plain=>calc plain
  |some (.dk _ _,false),_,plain=>calc plain
  |some (.dt _ _,false),_,plain=>calc plain
  |some (.df _ _ _,false),_,plain=>calc plain
  |some (.kt _,false),_,plain=>calc plain
  |some (.ins _ _ _,false),_,plain=>calc plain
  |some (.pin _ _,false),_,plain=>calc plain
  |some (.ty _,false),_,plain=>exact plain
 rw[jd hr];calc (I.lh p hp).bC λb hb=>nomatch hb
end
structure LB where
 nx:En->S2->Prop
 rt:S2->T->Prop
 bk:En->S2->Prop:=λ_ _=>False
 ct:En->S2->Prop:=λ_ _=>False
structure LC(K:qaf)(M:MG)(tm:qab)(d:LB)(D:Ends):Prop where
 nx:∀ρ s σ H,SG K M tm ρ s σ H->d.nx ρ s->D.nx σ H
 rt:∀s H t v,SD K M s H->At K H M.Ox t v->d.rt s t->D.rt v H
 bk:∀ρ s σ H,SG K M tm ρ s σ H->d.bk ρ s->D.bk σ H
 ct:∀ρ s σ H,SG K M tm ρ s σ H->d.ct ρ s->D.ct σ H
abbrev rZ:=LB->En->S2->Prop
def lGS(X:Cx)(M:MG)(tm:qab)(g:rZ):TS:=λD σ H=>∃ρ s d,SG X.K M tm ρ s σ H/\g d ρ s/\LC X.K M tm d D
def GS(X:Cx)(M:MG)(st:Stmt)(g:rZ):Prop:=Bx λtm=>PS X st (lGS X M tm g)
def Qx(X:Cx)(M:MG)(st:qaq)(g:rZ):Prop:=Bx λtm=>ko X st (lGS X M tm g)
section
variable{M:MG}{st:Stmt}{rest:qaq}{g u:rZ}{pos:Pos}
def ad2:rZ:=λd ρ s=>d.nx ρ s
def agi(g u:rZ):rZ:=λd ρ s=>g {d with nx:=u d} ρ s
def Qy:Qx X M [] ad2:=.mk λtm=>ko.mj DJ λD σ H #[ρ,s,d,I,h,F]=>F.nx ρ s σ H I h
def m3(h1:GS X M st g)(h2:Qx X M rest u):Qx X M (st::rest) (agi g u):=.mk λtm=>ko.mj (jl (h1.h tm) (h2.h tm)) λD σ H #[ρ,s,d,I,h,F] =>
 #[ρ,s,{d with nx:=u d},I,h,#[λρ' s' σ' H' I' h'=>#[ρ',s',d,I',h',F],F.rt,F.bk,F.ct]]
def ql(h1:GS X M st g):Qx X M [st] g:=.mk λtm=>l8 (h1.h tm)
def ad3(d:LB)(s:S2):So:={nx:=λρ'=>lK ρ'=true/\d.nx ρ' s,rt:=λρ' r=>lK ρ'=true/\d.rt s r.t,bk:=λρ'=>lK ρ'=true/\d.bk ρ' s,ct:=λρ'=>lK ρ'=true/\d.ct ρ' s}
def wPl(g:FS):rZ:=λd ρ s=>g (ad3 d s) ρ
def ad4{tm:qab}{d:LB}{D:Ends}{s:S2}(F:LC K M tm d D)(sd:SD K M s H):Fin K #[H,[],M.Ox] tm (ad3 d s) D :=
 #[λO ρ σ H' I h=>F.nx ρ s σ H' (SG.of 9 sd I h.1) h.2,λO ρ σ H' r v z h=>by let I:=z.env;let hr:=xu I h.1;let a:=z.at;rw[jd hr] at a;calc F.rt s H' r.t v (sd.same λb o e=>I.keep b o e (λq=>absurd q gQ)) a h.2,λO ρ σ H' I h=>F.bk ρ s σ H' (SG.of 9 sd I h.1) h.2,λO ρ σ H' I h=>F.ct ρ s σ H' (SG.of 9 sd I h.1) h.2]
def z6{g:FS}(h:∀H0 Ox,VS X #[H0,[],Ox] st g):GS X M st (wPl g):=.mk λtm ε s' σ H D J #[ρ,s,d,S,hg,F]=>by let(O,hr,I):=S.env;calc h H M.Ox tm ε s' σ H D J #[ρ,O,_,I,hg,ad4 F S.sd]
def wIf(c:FB)(g u:rZ):rZ:=λd ρ s=>c ρ λb=>if b=true then g d ρ s else u d ρ s
def SG.jM{tm:qab}{s:S2}(S:SG K M tm ρ s σ H)(sm:aW H H'):SG K M tm ρ s σ H':=by let(O,hr,I):=S.env;calc#[#[O,hr,(I.same sm).now hr],S.sd.same sm]
theorem ad5{fc:FB}{a b:qaq}(hc:∀H0 Ox,VC X #[H0,[],Ox] c fc)(ha:Qx X M a g)(hb:Qx X M b u):GS X M (.If c a b pos) (wIf fc g u):=.mk λtm ε s' σ H D J #[ρ,s,d,S,hg,F]=>by
 let(O,hr,I):=S.env;show R6 (hc H M.Ox tm) (ha.h tm) (hb.h tm) ε s' σ H D J #[ρ,O,_,I,hg,λb hb H' sm=>?_];cases b with
 |true=>rw[ι 9] at hb ⊢;calc#[ρ,s,d,S.jM sm,hb,F]
 |false=>rw[θ iC] at hb ⊢;calc#[ρ,s,d,S.jM sm,hb,F]
def pe(t:T):Prop:=(∃n,t=.int n)\/∃b,t=.bl b
def LD(M:MG)(i:Nat)(f:FE):rZ:=λd ρ s=>f 190 λt=>pe t/\d.nx (ρ.set i (some (t,false))) s
def r0{A A':zm}{t:T}(h:pe t)(a:At K H A t v):At K H' A' t v:=by
 obtain⟨n,rfl⟩|⟨b,rfl⟩:=h
 erw[At] at a ⊢;calc a;erw[At] at a ⊢;calc a
def LF{f:FE}(hN:X.N.Nodup)(hi:X.N[i]?\x)(hx:Loc 39 x)(he:∀H0 Ox,VE X #[H0,[],Ox] e f)(hs:swapsWith e (some (.Name x pos')) pos.line 3=pure false:=by rfl)(hf:X.fn x=true\/X.env.scope.names.lookup x\.local:=by first|calc .inl rfl|calc .inr rfl|assumption):GS X M (.Assign [.Name x pos'] e pos) (LD M i f):=.mk λtm ε s' σ H D J #[ρ,s,d,S,hg,F]=>by
 let(O2,pT,I2):=S.up;show vO hN hi hx (he H [] tm) hs hf ε s' σ H D J #[_,O2,_,I2,hg,λt ht v H' sm a=>?_];let S':=S.jM sm;let(O3,hr3,I3):=S'.env;show F.nx _ s _ H' #[#[O3.set i none,?_,?_],S'.sd] ht.2;cases q:roots (O3.set i none) with
 |nil=>rfl
 |cons b l=>have:=cq i b (by rw[q];calc iz);rw[hr3] at this;exact absurd this gQ
 calc I3.put (λp hp=>absurd hp gQ) (r0 ht.1 a)
def S2.G8(s:S2)(k:List Key)(t:T):S2:={s with k1:=G7 s.k1 k,t1:=zZ s.k1 s.t1 k t}
def S0(M:MG)(n m:Nat)(f:FE):rZ:=λd ρ s=>f 190 λt=>pe t/\ρ[n]?\some (.ob M.a1,false)/\s.t1.length<16777216/\∃k,ρ[m]?\some (.kt k,false)/\d.nx ρ (s.G8 k t)
theorem G9{tm:qab}{s:S2}{H1:Hp}{A:zm}{D:Ends}{d:LB}{t:T}{k:List Key}(S1:SG X.K M tm ρ s σ H1)(F:LC X.K M tm d D)(WC:pe t)(a:At X.K H' A t v)(hn:ρ[n]?\some (.ob M.a1,false))(hlen:s.t1.length<16777216)(hk:ρ[m]?\some (.kt k,false))(hq:d.nx ρ (s.G8 k t)) :
  FC n σ H1 λx H2=>FC m σ H2 λy H3=>∃a H4,x=.ref a/\wK H3 a y v H4/\D.nx σ H4:=by
 let(O1,EI,I1):=S1.env;let(_,_,_,z1,_,v1,rfl,b1):=I1.sl n _ hn;let(_,_,_,z2,_,v2,rfl,b2):=I1.sl m _ hk;subst b1;let(b,rfl,hb,_):=b2;let(vs,hl,h1,h2):=S1.sd.d1;let hz:(s.k1.zip vs).length<sizeLine:=by
  rw[π,NI,hl,RZ,h2.length]
  lia
 let pq:=Lu s.k1 vs k v hl;show#[.ref M.a1,z1,.ref b,z2,M.a1,_,9,wK.t h1 hb hz,?_];rw[pq.1];let NT:=M.m1;let wr:∀{t:T}{v':V},At X.K H1 M.Ox t v'->At X.K (upd H1 M.a1 (.dT ((G7 s.k1 k).zip (zZ s.k1 vs k v)))) M.Ox t v':=λq=>At.wrote NT h1 9 q;let wrL:∀{t:Λ}{v':qak},aD X.K H1 M.Ox t v'->aD X.K (upd H1 M.a1 (.dT ((G7 s.k1 k).zip (zZ s.k1 vs k v)))) M.Ox t v':=λq=>aD.wrote NT h1 9 q;let na:=M.n1;show F.nx ρ (s.G8 k t) σ _ #[#[O1,EI,I1.lσ,I1.lO,λi e he=>?_,I1.nd,λb hb=>(by rw[EI] at hb;calc absurd hb gQ),λp hp=>absurd hp gQ,λb hb=>?_,λb o e _=>e,λp hp=>?_],?_,?_,?_,λb o e n=>(by rw[aG (λz=>n (by rw[z];calc NT))];calc S1.sd.fr b o e n)] hq;let(o,sv,g1,g2,g3):=I1.sl i e he;show#[o,sv,g1,g2,?_];rw[jd EI] at g3 ⊢;show g3.map (λt v z=>wr z) λb t' eo _=>?_;subst eo;have:=aH.mpr (fM g1);rw[EI] at this;calc absurd this gQ;by_cases e:b=M.a1;rw[e,aK];simp;rw[aG e];let(u,eu,_):=S1.sd.here b hb;rw[eu];simp;have:=I1.lh p hp;rw[jd EI] at this ⊢;calc wr this;exact λz=>by rw[aG na];exact S1.sd.ins z
 calc#[_,pq.2,aK,wrL (Ct h2 (r0 WC a))];let(LG,l2,e2,q2):=S1.sd.d2;calc#[LG,l2,by rw[aG (Ne.symm M.n3)];calc e2,wrL q2]
def Qz(n m:Nat){y:Str}{f:FE}(hu:537+1<cLine)(he:∀H0 Ox,VE X #[H0,[],Ox] e f)(hN:X.N[n]?\x:=by rfl)(hv:nI 39 x:=by first|calc Or.inl rfl|calc Or.inr 7|calc Or.inr 95)(hd:gD x:=by decide)(fL:qt x:=by decide)(Yu:X.N[m]?\y:=by rfl)(Yv:nI 39 y:=by first|calc Or.inl rfl|calc Or.inr 7|calc Or.inr 95)(hd2:gD y:=by decide)(z7:qt y:=by decide)(hs:swapsWith e (some (.Subscript 31 (.Name y p2) eA)) pos.line 3=pure false:=by rfl):GS X M 470 (S0 M n m f):=.mk λtm ε s' σ H D J #[ρ,s,d,S,hg,F]=>by let(O2,pT,I2):=S.up;show wQ hu 123 (cF Yu Yv hd2 z7) (he H [] tm) hs ε s' σ H D J #[_,O2,_,I2,hg,λt ht v H1 sm a=>?_];let(WC,hn,hlen,k,hk,hq):=ht;calc G9 (S.jM sm) F WC a hn hlen hk hq
def LH(ts:Λ)(h:FG)(g:rZ):rZ:=λd ρ s=>∃Pv:Nat->En->S2->Prop,Pv 0 ρ s/\(∀(i:Nat) t ρ' s',ts[i]?\t->Pv i ρ' s'->h t ρ' λρ2=>lK ρ2=true/\g {nx:=Pv 525,ct:=Pv 525,bk:=d.nx,rt:=d.rt} ρ2 s')/\∀ρ' s',Pv 25 ρ' s'->d.nx ρ' s'
theorem vk{is:qao}{h:FG}{tm bu:qab}{s:S2}{d:LB}{D:Ends}{ts:Λ}{J:It}(hK:X.K=K)(S:SG K M 237 ρ s σ H)(wk:Wk K J bu ts)(F:LC K M tm d D)(hl:LH ts h g d ρ s) :
  ∃W:Nat->Nat->St->Hp->Prop,(∃m,W 0 m σ H)/\∀i m σ H,W i m σ H->(J.stop i H/\D.nx σ H)\/(J.go i H/\∃N:St->Hp->Prop,(∀σ' H',N σ' H'->∃m',m'<m/\W 525 m' σ' H') /\
   ∀x H',J.Yc i H x H'->(∃bu H0,lG X #[H0,[],M.Ox] 237 is h x σ H' λσ2 H2=>(∃bu,lGS X M 237 g {D with nx:=N,ct:=N,bk:=D.nx} σ2 H2))):=by
 subst hK;let(Pv,p0,step,fin):=hl;let un:∀{ρ:En}{s:S2}{σ:St}{H:Hp},SG X.K M (bu++tm) ρ s σ H->SG X.K M tm ρ s σ H:=λ#[#[O,hr,I],sd]=>#[#[O,hr,I.pP λp hp=>I.lh p (jY _ hp)],sd];show#[λi m σ H=>m=25-i/\i<=25/\∃ρ s,SG X.K M 237 ρ s σ H/\Pv i ρ s,#[25,by simp,fB _,ρ,s,S,p0],?_];rintro i m σ1 H1 ⟨rfl,hi,ρ1,s1,S1,p1⟩;let(O1,EI,I1):=S1.env;let(w1,w2,w3):=wk H1 M.Ox (λa ha=>by let(u,e,_):=S1.sd.here a ha;rw[e];simp) (λp hp=>by have:=I1.lh p (hX _ hp);rw[jd EI] at this;calc this) i;by_cases di:i<25;show .inr #[w1 di,λσ' H'=>∃ρ s,SG X.K M 237 ρ s σ' H'/\Pv 525 ρ s,λσ' H' #[ρ',s',S',p']=>#[25-525,(),9,di,ρ',s',S',p'],λx H2 y=>?_];let e:ts[i]?\ts[i]:=by simp[di]
 let(s2,a2):=w3 ts[i] e x H2 y;let S2':=S1.jM s2;let(O2,pT,I2):=S2'.env;calc#[bu,H2,ρ1,O2,ts[i],_,I2,by rw[jd pT];calc a2,step i _ ρ1 s1 e p1,λρ2 h2 O3 σ3 I3 _ _ _ _=>#[bu,ρ2,s1,_,SG.of 9 S2'.sd I3 h2.1,h2.2,#[λρ s σ H I p=>#[ρ,s,I,p],λs H t v sd a p=>F.rt s H t v sd a p,λρ s σ H I p=>F.nx ρ s σ H (un I) p,λρ s σ H I p=>#[ρ,s,I,p]]]];let e:i=ts.length:=by lia
 subst e;calc .inl #[w2 9,F.nx ρ1 s1 σ1 H1 (un S1) (fin ρ1 s1 p1)]
def agj(f:FI)(h:FG)(g:rZ):rZ:=λd ρ s=>f ρ λts=>LH ts h g d ρ s
def SG.temps{tm bu:qab}{s:S2}(S:SG K M tm ρ s σ H)(h:∀p∈bu,At K H M.Ox p.1 p.2):SG K M 237 ρ s σ H:=by
 let(O,hr,I):=S.env;show#[#[O,hr,I.pP λp hp=>?_],S.sd];rcases fO.mp hp with z|z
 rw[jd hr];calc h p z;calc I.lh p z
def WD{tg:Expr}{body:qaq}{f:FI}{is:qao}{h:FG}(hp:PassesOwn 17 X.A 3 X.xe)(hc:X.calm=true)(hi:∀H0 Ox,VI X #[H0,[],Ox] tg iter f)(hg:∀H0 Ox,VG X #[H0,[],Ox] tg is h)(hb:Qx X M body g)(hs:∀x,foldedSetIterable iter 3 x=pure x:=by intro _;rfl):GS X M (.For tg iter body [] pos) (agj f h g):=by show .mk λtm ε s' σ H D J #[ρ,s,d,S,hq,F]=>?_;let(O,hr,I):=S.env;show By (g:=λv σ H Q=>∃bu H0,lG X #[H0,[],M.Ox] 237 is h v σ H Q) (tb:=λD σ H=>∃bu,lGS X M 237 g D σ H) hp hc (hi H M.Ox tm) (λε s σ H v u Q I r #[bu,H0,z]=>hg H0 M.Ox 237 ε s σ H v u Q I r z) (λε s σ H D I #[bu,z]=>hb.h 237 ε s σ H D I z) hs ε s' σ H D J #[ρ,O,_,I,hq,λts hW J' H' bu sm a wk=>?_];rw[jd hr] at a;calc vk 9 ((S.jM sm).temps a) wk F hW
def opq:T->Option T
 |.tup [.pin a _,.kt k,.int w]=>some (.tup [.ob a,.kt k,.int w])
 |.kt k=>some (.kt k)
 |_=>none
def G_:Λ->Option (Λ)
 |[]=>some []
 |t::ts=>match opq t,G_ ts with
  |some u,some us=>some (u::us)
  |_,_=>none
def WE{A:zm}{t u:T}(hA:∀b∈A,∃o,H b\o/\nS o=true)(e:opq t\u)(a:At K H [] t v):At K H A u v:=by
 unfold opq at e;split at e
 rename_i a' t' k w
 cases e;let(b,us,rfl,h2,h3):=hV.tup (.inl a);let(_,_,rfl,(rfl,_),_,_,rfl,(kb,rfl,hk),_,_,rfl,rfl,rfl):=h3;show cj h2 (aD.cons (by erw[At]) (aD.cons #[kb,9,hk.1,λz=>?_] (aD.cons bw 451)));let(o,eo,mo):=hA kb z;rw[hk.1] at eo;cases eo;cases mo
 rename_i k
 cases e;let(kb,rfl,hk):=a;show#[kb,9,hk.1,λz=>?_];let(o,eo,mo):=hA kb z;rw[hk.1] at eo;cases eo;cases mo;cases e
theorem EJ{K:qaf}{H:Hp}{A:zm}(hA:∀b∈A,∃o,H b\o/\nS o=true):∀{ts us:Λ}{vs:qak},G_ ts\us->aD K H [] ts vs->aD K H A us vs
 |[],us,vs,e,a=>by cases e;calc a
 |t::ts,us,vs,e,a=>by
  erw[G_] at e;split at e
  rename_i u Km e1 e2
  cases e;let(v,r,rfl,h1,h2):=a;calc aD.cons (WE hA e1 h1) (EJ hA e2 h2);cases e
def LI(M:MG)(f:FE)(h:FG)(g:rZ):rZ:=λd ρ s=>f 190 λt=>match t with
 |.lst us=>∃ts,G_ us\ts/\LH ts h g d ρ s
 |_=>False
def QA{tg:Expr}{body:qaq}{f:FE}{is:qao}{h:FG}(hp:PassesOwn 17 X.A 3 X.xe)(hc:X.calm=true)(hi:∀H0 Ox,VE X #[H0,[],Ox] iter f)(hg:∀H0 Ox,VG X #[H0,[],Ox] tg is h)(hb:Qx X M body g)(hs:∀x,foldedSetIterable iter 3 x=pure x:=by intro _;rfl):GS X M (.For tg iter body [] pos) (LI M f h g):=by
 show .mk λtm ε s' σ H D J #[ρ,s,d,S,hq,F]=>?_;let(O2,pT,I2):=S.up;show By (g:=λv σ H Q=>∃bu H0,lG X #[H0,[],M.Ox] 237 is h v σ H Q) (tb:=λD σ H=>∃bu,lGS X M 237 g D σ H) hp hc (Jz (hi H [] tm)) (λε s σ H v u Q I r #[bu,H0,z]=>hg H0 M.Ox 237 ε s σ H v u Q I r z) (λε s σ H D I #[bu,z]=>hb.h 237 ε s σ H D I z) hs ε s' σ H D J #[_,O2,_,I2,hq,λt ht v H' sm a=>?_];split at ht
 rename_i us
 let(ts,et,hl):=ht;rw[jd pT] at a;let(l,vs,rfl,hls,hv):=a;let S':=S.jM sm;let at':At X.K H' M.Ox (.lst ts) (.ref l):=by
  show#[l,vs,9,?_,EJ S'.sd.here et hv];obtain z|z:=hls
  show .inl #[z.1,λm=>?_];let(o,eo,mo):=S'.sd.here l m;obtain q|⟨o',q⟩:=z.1
  rw[eo] at q;cases q;let(_,_,e1,_):=S'.sd.d1;let(_,_,e2,_):=S'.sd.d2;rcases M.mem m with⟨zb,rfl⟩|rfl|rfl
  rw[S'.sd.ins zb] at eo;cases eo;rw[e1] at eo;cases eo;rw[e2] at eo;cases eo;rw[eo] at q;cases q;cases mo;exact .inr z
 calc .inl #[l,9,#[vs,hls.sq],vk 9 (S'.temps λp hp=>by rw[fE.mp hp];calc at') D2 F hl];calc ht.elim
end
section
variable{a:Expr}{fc:FE}{pos:Pos}
def S6(g:FA):FP:=λρ Q=>g ρ λys=>match zY ys with
 |some k=>172<=sizeLine/\Q (.vw (.kt k))
 |none=>False
def dJ{x1}(h:VA X Z es g):VP X Z (.Tuple es x1 pos) (S6 g):=.mk λtm=>PE.weak (qF 513) λσ H Q #[ρ,O,q,I,hf,k]=>#[ρ,O,_,I,hf,λys hy vs H1 s1 a1=>by
 split at hy
 rename_i kk ek
 show#[by rw[a1.length];calc hy.1,λp hp=>?_];let s2:aW H1 (upd H1 p (.tup vs)):=aI hp;calc k _ hy.2 _ _ (s1.trans s2) #[(I.same s1).same s2,#[p,9,by rw[<- rW a1 ek];calc aK,λz=>(I.same s1).OT p z hp]];calc hy.elim]
def QB:T->Option (List (List Key)×Λ)
 |.dt ks ts=>some (ks,ts)
 |.pin _ (.dt ks ts)=>some (ks,ts)
 |.df _ ks ts=>some (ks,ts)
 |_=>none
def Dfz(H:Hp)(a:Addr)(u:List (List Key×V)):Prop:=H a=some (.dT u)\/∃o,H a\.k6 o (.dT u)
def Dfz.same{a:Addr}{u:List (List Key×V)}(h:Dfz H a u)(sm:aW H H'):Dfz H' a u:=h.elim (λz=>.inl (sm _ _ z)) λ#[o,z]=>.inr #[o,sm _ _ z]
def EK{A:zm}{t:T}{ts:Λ}(h:hV K H A t v)(e:QB t\(ks,ts)):∃a vs,v=.ref a/\173=87/\Dfz H a 175/\aD K H A ts vs:=by
 unfold QB at e;split at e;cases e;let(a,vs,h1,h2,h3,h4):=h.dt;calc#[a,vs,h1,h2,.inl h3,h4];cases e;obtain h|⟨_,_,r⟩:=h
 erw[At] at h;let(_,h):=h;let(a,vs,h1,h2,h3,h4):=hV.dt (.inl (by erw[At];calc h));calc#[a,vs,h1,h2,.inl h3,h4];calc r.elim;cases e;let(a,vs,h1,h2,h3,h4):=h.df;calc#[a,vs,h1,h2,.inr #[_,h3],h4];cases e
def WG(fa fb fc:FE):FP:=λρ Q=>fa ρ λx=>match QB x with
 |some (ks,ts)=>fb ρ λy=>fc ρ λz=>match y with
  |.kt k=>Q (.vw ((eB ks ts k).getD z))
  |_=>False
 |none=>False
def jN(hu:537+1<cLine)(ha:VR X Z a fa)(hb:VE X Z b fb)(hc:VE X Z c fc)(m:M2 X a "get" apos b c bF):VP X Z (.Call (.Attribute a "get" apos) [b,c] [] bF) (WG fa fb fc):=.mk λtm=>PE.weak (Kx hu 503 (hb tm) (hc tm) m) λσ H Q #[ρ,O,q,I,hf,k] =>
 #[ρ,O,_,I,hf,λx hx v H1 s1 a1=>by
  split at hx
  rename_i ks ts ed
  let(l,vs,rfl,hl,hd,hv):=EK a1 ed;show#[l,9,.inr #[_,hd],ρ,O,_,I.same s1,hx,λy hy w H2 s2 a2=>#[ρ,O,_,(I.same s1).same s2,hy,λz hz u H3 s3 a3=>?_]];split at hz
  rename_i kk
  let(b,rfl,hb,_):=a2;show#[_,.inr #[_,kk,b,(hd.same s2).same s3,9,s3 _ _ hb,9],?_];rw[rX];calc k _ hz _ H3 ((s1.trans s2).trans s3) #[((I.same s1).same s2).same s3,Qw ((hv.same s2).same s3) a3];calc hz.elim;calc hx.elim]
def LJ(fa fb:FE):FP:=λρ Q=>fa ρ λx=>fb ρ λy=>match QB x,y with
 |some (ks,ts),.kt k=>∃t,eB ks ts k\t/\Q (.vw t)
 |_,_=>False
def QC(hu:537+1<cLine)(ha:VR X Z a fa)(hb:VE X Z b fb)(hs:PM b:=by intro _ _;rfl):VP X Z (.Subscript a b pos) (LJ fa fb):=.mk λtm=>PE.weak (Eo hu 503 (hb tm) hs) λσ H Q #[ρ,O,q,I,hf,k] =>
 #[ρ,O,_,I,hf,λx hx v H1 s1 a1=>#[ρ,O,_,I.same s1,hx,λy hy w H2 s2 a2=>by
  split at hy
  rename_i ks ts kk ed
  let(t,e1,hq):=hy;let(l,vs,rfl,hl,hd,hv):=EK (a1.same s2) ed;let(u,e2,e3):=(qk hv).1 t e1;let(b,rfl,hb,_):=a2;calc#[l,u,9,.inr #[_,kk,b,hd,9,hb,by rw[rX,e2]],k _ hq _ H2 (s1.trans s2) #[(I.same s1).same s2,e3]];calc hy.elim]]
end
def spG(K:qaf)(C:Addr)(G:T->S2->(S2->T->Prop)->Prop):Sp:=λvs H Q _=>∃(M:MG)(s:S2)(l:T)(v0:V)(q:S2->T->Prop),(M.C=C/\M.hb=true)/\vs=[v0,.ref M.a]/\At K H M.Ox l v0/\SD K {M with H0:=H} s H/\G l s q /\
 ∀s' t,q s' t->∀v H',SD K {M with H0:=H} s' H'->At K H' M.Ox t v->Q v H'
section
def fnG{st:Stmt}{N:χ}{k:Nat}{G:T->S2->(S2->T->Prop)->Prop}(F:Ih K x qual st f fd)(S:az N ps 455)(hn:2=471)(hN:2<=N.length)(fG:∀(bM:Value) (A:Around) (outer:List Env) (s:Shared) (H:Hp) (E:XK) (M:MG),M.C=C->M.hb=true->bH k 44->∀l s0 q,G l s0 q ->
    ∃g,Qx (hY iA P w K mg base N qual 455 f bM A outer s H E).vN M (bJ st) g/\g {nx:=λ_ _=>False,rt:=q} (some (l,false)::some (.ob M.a,false)::List.replicate (N.length-2) none) s0) :
  eD P w K mg base iA 93 f fd ps (spG K C G):=by
 show F.ok S (λvs H Q E h=>?_) (λbM A outer s H vs Q E hr h=>?_);let(M,s,l,v0,q,_,rfl,_):=h;calc hn;let(M,s0,l,v0,q,(hC,hB),rfl,a0,sd,hG,kk):=h;let(g,hg,hq):=fG bM A outer s H E {M with H0:=H} hC hB hr l s0 q hG;show#[_,hg.h [],_,s0,_,#[#[List.replicate N.length none,iO _,?_],sd],hq,#[λ_ _ _ _ _ z=>z.elim,λs' H' t v sd' a z=>kk s' t z v H' sd' a,λ_ _ _ _ _ z=>z.elim,λ_ _ _ _ _ z=>z.elim]];have:=uZ (ts:=[l,.ob M.a]) (vs:=[v0,.ref M.a]) (by simpa using hN) (λb hb=>by let(u,e,_):=sd.here b hb;rw[e];simp) (aD.cons a0 (aD.cons (by erw[At]) 451));calc this
end
end VT
namespace BS
open PySem PySem.Builtin PyProof.Rows
def ib(x:Int)(k:Nat):Bool:=decide (x / 2 ^ k % 2=1)
def two_pos(k:Nat):(0:Int)<2 ^ k:=Int.pow_pos 15
def iu(k:Nat):((2 ^ k:Nat):Int)=2 ^ k:=by rw[Int.natCast_pow];rfl
def dg(n k:Nat):ib (n:Int) k=n.testBit k:=by
 unfold ib;rw[Nat.testBit_eq_decide_div_mod_eq,<- iu];have:(n / ((2 ^ k:Nat):Int) % 2=1)↔(n / 2 ^ k % 2=1):=by rw[<- Int.natCast_ediv];lia
 calc aad.mpr this
def fR(x:Int)(k:Nat):ib (bitNot x) k=!ib x k:=by
 unfold ib bitNot;let h:(-x-1) / 2 ^ k=-(x / 2 ^ k)-1:=by
  let hp:=two_pos k;let e1:=Int.mul_ediv_add_emod x (2 ^ k);show (Int.ediv_emod_unique hp (r:=2 ^ k-1-x % 2 ^ k)).mpr #[?_,?_,?_] |>.1
  have:2 ^ k * (-(x / 2 ^ k)-1)=-(2 ^ k * (x / 2 ^ k))-2 ^ k:=by rw[Int.mul_sub,Int.mul_neg,Int.mul_one]
  rw[this];lia;omega;omega
 by_cases q:x / 2 ^ k % 2=1;rw[ο q,ς ()];rfl;rw[ς q,ο ()];rfl
def g9{x:Int}(h:∀k,ib x k=ib y k):x=y:=by
 let pos:∀(m n:Nat),(∀k,ib m k=ib n k)->m=n:=λm n q=>Nat.eq_of_testBit_eq λk=>by rw[<- dg,<- dg];exact q k
 let mix:∀(m:Nat) y,¬ 0<=y->¬ ∀k,ib m k=ib y k:=by intro m y hy q;let hn:=aaj.mpr hy;let(n,hn):=qw hn;let h1:=q (m+n);rw[<- aav y,fR,hn,dg,dg] at h1;let a1:=Nat.testBit_lt_two_pow (Nat.lt_of_le_of_lt (Nat.le_add_right m n) Nat.lt_two_pow_self);let a2:=Nat.testBit_lt_two_pow (Nat.lt_of_le_of_lt (Nat.le_add_left n m) Nat.lt_two_pow_self);rw[a1,a2] at h1;cases h1
 by_cases hx:0<=x;let(m,rfl):=qw hx;by_cases hy:0<=y;let(n,rfl):=qw hy;calc aaa _ (pos m n h);calc (mix m y hy h).elim;by_cases hy:0<=y;let(n,rfl):=qw hy;calc (mix n x hx λk=>(h k).symm).elim;let a:=aaj.mpr hx;let b:=aaj.mpr hy;let(m,hm):=qw a;let(n,hn):=qw b;have:=pos m n λk=>by rw[<- hm,<- hn,fR,fR,h k]
 rw[<- aav x,<- aav y,hm,hn,this]
def z8(x m:Nat):x-(x &&& m)=x ^^^ (x &&& m):=by
 let h:=nat_or_add_and (x ^^^ (x &&& m)) (x &&& m);let e1:(x ^^^ (x &&& m)) ||| (x &&& m)=x:=Nat.eq_of_testBit_eq λk=>by erw[Nat.testBit_or,Nat.testBit_xor,Nat.testBit_and];cases x.testBit k<;>cases m.testBit k<;>rfl
 let e2:(x ^^^ (x &&& m)) &&& (x &&& m)=0:=Nat.eq_of_testBit_eq λk=>by erw[Nat.testBit_xor,Nat.testBit_and,Nat.zero_testBit];cases x.testBit k<;>cases m.testBit k<;>rfl
 lia
def lL(x y:Int)(k:Nat):ib (bitAnd x y) k=(ib x k && ib y k):=by
 let pn:∀(m:Nat) y,¬ 0<=y->ib (m-((m &&& (bitNot y).toNat:Nat):Int)) k=(ib m k && ib y k):=by
  intro m y hy;let(n,hn):=qw (aaj.mpr hy);let e:ib y k=!n.testBit k:=by rw[<- aav y,fR,hn,dg]
  rw[hn,i9,<- Int.ofNat_sub Nat.and_le_left,z8,dg,dg,e];erw[Nat.testBit_xor,Nat.testBit_and];cases m.testBit k<;>cases n.testBit k<;>rfl
 by_cases hx:0<=x;let(m,rfl):=qw hx;by_cases hy:0<=y;let(n,rfl):=qw hy;rw[bitAnd_pp hx hy,i9,i9,dg,dg,dg,Nat.testBit_and];rw[bitAnd_pn hx hy,i9];calc pn m y hy;by_cases hy:0<=y;let(n,rfl):=qw hy;rw[bitAnd_np hx hy,i9,pn n x hx,Bool.and_comm];let(m,hm):=qw (aaj.mpr hx);let(n,hn):=qw (aaj.mpr hy);rw[bitAnd_nn hx hy,hm,hn,i9,i9,fR,dg,Nat.testBit_or,<- dg,<- dg,<- hm,<- hn,fR,fR];cases ib x k<;>cases ib y k<;>rfl
def dZ(x y:Int)(k:Nat):ib (bitOr x y) k=(ib x k || ib y k):=by unfold bitOr;rw[fR,lL,fR,fR];cases ib x k<;>cases ib y k<;>rfl
def dm(k:Nat):ib 0 k=false:=by have:=dg 0 k;rw[Nat.zero_testBit] at this;calc this
def LK(x:Int)(j k:Nat):ib (x / 2 ^ j) k=ib x (j+k):=by unfold ib;rw[Int.ediv_ediv_of_nonneg (Int.le_of_lt (two_pos j)),<- Int.pow_add]
def Cy(x:Int)(j k:Nat):ib (x % 2 ^ j) k=(decide (k<j) && ib x k):=by
 let pos:∀n:Nat,ib (n % 2 ^ j) k=(decide (k<j) && n.testBit k):=λn=>by rw[<- iu,<- Int.natCast_emod,dg,Nat.testBit_mod_two_pow]
 by_cases hx:0<=x;let(m,rfl):=qw hx;rw[pos,dg];let(m,hm):=qw (aaj.mpr hx);let e:x=-m-1:=by unfold bitNot at hm;lia
 let hp:=two_pos j;let e2:x % 2 ^ j=2 ^ j-1-m % 2 ^ j:=by
  let e1:=Int.mul_ediv_add_emod m (2 ^ j);show (Int.ediv_emod_unique hp (q:=-(m / 2 ^ j)-1)).mpr #[?_,?_,?_] |>.2
  have:2 ^ j * (-(m / 2 ^ j)-1)=-(2 ^ j * ((m:Int) / 2 ^ j))-2 ^ j:=by rw[Int.mul_sub,Int.mul_neg,Int.mul_one]
  rw[this];lia;omega
  lia
 let e3:x % 2 ^ j=((2 ^ j-(m % 2 ^ j+1):Nat):Int):=by
  let di:m % 2 ^ j<2 ^ j:=Nat.mod_lt _ (Nat.two_pow_pos j);let a1:(m:Int) % 2 ^ j=((m % 2 ^ j:Nat):Int):=by rw[Int.natCast_emod,iu]
  let a2:=iu j
  lia
 let hb:ib x k=!m.testBit k:=by rw[<- aav x,fR,hm,dg]
 rw[e3,dg,Nat.testBit_two_pow_sub_succ (Nat.mod_lt _ (Nat.two_pow_pos j)),Nat.testBit_mod_two_pow,hb];by_cases q:k<j;rw[ο q,yn,yn,yn];rw[ς q,HY,HY]
def WH(x:Int)(j k:Nat):ib (x * 2 ^ j) k=(decide (j<=k) && ib x (k-j)):=by by_cases h:j<=k;let(d,rfl):=Nat.exists_eq_add_of_le h;rw[ο h,yn,Nat.add_sub_cancel_left,<- LK,Int.mul_ediv_cancel _ (Int.ne_of_gt (two_pos j))];rw[ς h,HY];let q:=Cy (x * 2 ^ j) j k;rw[Int.mul_emod_left,dm,ο (),yn] at q;calc q.symm
def xv(k:Nat):ib 1 k=decide (k=0):=by
 cases k with
 |zero=>decide
 |succ k=>let h:(1:Int) / 2 ^ (k+1)=0:=Int.ediv_eq_zero_of_lt 15 (by rw[Int.pow_succ];have:=two_pos k;lia);unfold ib;rw[h];rfl
def xw(j k:Nat):ib (2 ^ j) k=decide (k=j):=by let h:=WH 1 j k;rw[Int.one_mul,xv] at h;rw[h];by_cases e:k=j;subst e;simp;rw[ς e];by_cases l:j<=k;rw[ς (by lia:¬ k-j=0),YU];rw[ς l,HY]
def xx(j k:Nat):ib (1 * 2 ^ j) k=decide (k=j):=by rw[Int.one_mul,xw]
def WI{x:Int}(h:0<=x):0<=bitAnd x y:=by
 by_cases hy:0<=y;rw[bitAnd_pp h hy];calc Int.natCast_nonneg _;rw[bitAnd_pn h hy];have:x.toNat &&& (bitNot y).toNat<=x.toNat:=Nat.and_le_left
 lia
def S7{x:Int}(h:0<=x)(h':0<=y):0<=bitOr x y:=by unfold bitOr;rw[bitAnd_nn (λq=>(aaj.mp q) h) (λq=>(aaj.mp q) h'),aav];calc Int.natCast_nonneg _
theorem QD(x:Int):bitAnd x 1=if ib x 0=true then 1 else 0:=g9 λk=>by
 rw[lL,xv];by_cases e:k=0;subst e;cases q:ib x 0 with
 |true=>rw[ι 9,xv];rfl
 |false=>rw[θ 15,dm];rfl
 rw[ς e,YU];split;rw[xv,ς e];rw[dm]
def Cz(x:Int)(k:Nat):bitAnd (x / 2 ^ k) 1=if ib x k=true then 1 else 0:=by rw[QD,LK,Nat.add_zero]
def sub(y x:Int):Prop:=∀k,ib y k=true->ib x k=true
def dA(x:Int):sub x x:=λ_ h=>h
def cw{x z:Int}(h:sub x y)(h':sub y z):sub x z:=λk q=>h' k (h k q)
theorem iU{x:Int}(h:sub x y)(h':sub y x):x=y:=g9 λk=>by
 cases q:ib x k with
 |true=>rw[h k q]
 |false=>
  cases r:ib y k with
  |false=>rfl
  |true=>rw[h' k r] at q;cases q
def cZ(x y:Int):sub x (bitOr x y):=λk h=>by rw[dZ,h];rfl
def dO(x y:Int):sub y (bitOr x y):=λk h=>by rw[dZ,h,Bool.or_true]
def xy{x z:Int}(h:sub x z)(h':sub y z):sub (bitOr x y) z:=λk q=>by rw[dZ,N1] at q;calc q.elim (h k) (h' k)
def sub_zero(x:Int):sub 0 x:=λk h=>by rw[dm] at h;cases h
def below(m:Nat)(x:Int):Prop:=0<=x/\x<2 ^ m
def below.bit{x:Int}(h:below m x){k:Nat}(hk:ib x k=true):k<m:=by let e:=Int.emod_eq_of_lt h.1 h.2;rw[<- e,Cy,pK] at hk;calc Θ hk.1
def r6{x:Int}(h0:0<=x)(h:∀k,ib x k=true->k<m):below m x:=by
 show#[h0,?_];let e:x=x % 2 ^ m:=g9 λk=>by
  rw[Cy];cases q:ib x k with
  |false=>rw[YU]
  |true=>rw[ο (h k q)];rfl
 rw[e];calc IC _ (two_pos m)
def oy{x:Int}(h:below m x):below m (bitAnd x y):=r6 (WI h.1) λk hk=>by rw[lL,pK] at hk;calc h.bit hk.1
def d4{x:Int}(h:below m x)(h':below m y):below m (bitOr x y):=r6 (S7 h.1 h'.1) λk hk=>by rw[dZ,N1] at hk;calc hk.elim h.bit h'.bit
def cK(m:Nat):below m 0:=#[Int.le_refl _,two_pos m]
def G'(h:j<m):below m (2 ^ j):=r6 (Int.le_of_lt (two_pos j)) λk hk=>by rw[xw] at hk;rw[Θ hk];calc h
def iV(h:j<m):below m (1 * 2 ^ j):=by rw[Int.one_mul];calc G' h
def closed(net:qan)(x:Int):Prop:=∀(k:Nat)(y:Int),net[k]?\y->ib x k=true->sub y x
structure pf(net:qan)(x r:Int):Prop where
 has:sub x r
 LL:closed net r
 out:∀c,sub x c->closed net c->sub r c
def pf.unique{x r r':Int}(h:pf net x r)(h':pf net x r'):r=r':=iU (h.out _ h'.has h'.LL) (h'.out _ h.has h.LL)
inductive Way(net:qan):Nat->Nat->Prop where
 |refl (a:Nat):Way net a a
 |step {a b c:Nat} {y:Int}:Way net a b->net[b]?\y->ib y c=true->Way net a c
def Way.trans{a b c:Nat}(h:Way net a b)(w:Way net b c):Way net a c:=by
 induction w with
 |refl=>calc h
 |step _ e q ih=>calc .step ih e q
def closed.way{x:Int}(h:closed net x){a b:Nat}(w:Way net a b)(ha:ib x a=true):ib x b=true:=by
 induction w with
 |refl=>calc ha
 |step _ e q ih=>calc h _ _ e ih _ q
def kS{x r:Int}(hx:sub x r)(hc:closed net r)(hw:∀b,ib r b=true->∃a,ib x a=true/\Way net a b):pf net x r :=
 #[hx,hc,λc h1 h2 b hb=>let #[a,ha,w]:=hw b hb;h2.way w (h1 a ha)]
def cnt(x:Int):Nat->Nat
 |0=>0
 |k+1=>cnt x k+(if ib x k=true then 1 else 0)
theorem oz(x:Int):∀k,cnt x k<=k
 |0=>cM _
 |k+1=>by have:=oz x k;erw[cnt];split<;>lia
theorem z9{x y:Int}(h:sub x y):∀k,cnt x k<=cnt y k
 |0=>cM _
 |k+1=>by have:=z9 h k;erw[cnt];by_cases q:ib x k=true;rw[ι q,ι (h k q)];lia;rw[θ q];lia
theorem LM{x y:Int}(h:sub x y){j:Nat}(hy:ib y j=true)(hx:ib x j=false):∀k,j<k->cnt x k<cnt y k
 |0,q=>by lia
 |k+1,q=>by erw[cnt];by_cases e:j=k;subst e;have:=z9 h j;rw[ι hy,hx,θ 15];lia;have:=LM h hy hx k ();by_cases q:ib x k=true;rw[ι q,ι (h k q)];lia;rw[θ q];lia
theorem z_{x:Int}:∀{k},cnt x k=k->∀j<k,ib x j=true
 |0,_,j,h=>by lia
 |k+1,e,j,h=>by erw[cnt] at e;have:=oz x k;by_cases q:ib x k=true;rw[ι q] at e;by_cases ej:j=k;subst ej;calc q;calc z_ (k:=k) () j ();rw[θ q] at e;lia
def sw(net:qan):Nat->Int->Int
 |0,x=>x
 |k+1,x=>if ib (sw net k x) k=true then bitOr (sw net k x) (net.getD k 0) else sw net k x
def rounds(net:qan):Nat->Int->Int
 |0,x=>x
 |t+1,x=>sw net 38 539
section
theorem r8(x:Int):∀k,sub x (sw net k x)
 |0=>dA x
 |k+1=>by erw[sw];split;calc cw (r8 x k) (cZ _ _);calc r8 x k
def QE(x:Int)(k:Nat):sub (sw net k x) (sw net 93 x):=by erw[sw];split;calc cZ _ _;calc dA _
def ad6(x:Int){k:Nat}(h:j<=k):sub (sw net j x) (sw net k x):=by
 induction h with
 |refl=>calc dA _
 |step _ ih=>calc cw ih (QE x _)
theorem xA(x:Int):∀k b,ib (sw net k x) b=true->∃a,ib x a=true/\Way net a b
 |0,b,h=>#[b,h,.refl b]
 |k+1,b,h=>by
  erw[sw] at h;by_cases q:ib (sw net k x) k=true;rw[ι q,dZ,N1] at h;obtain h|h:=h
  calc xA x k b h;let(a,ha,w):=xA x k k q;cases e:net[k]? with
  |none=>rw[vI,e,acW,dm] at h;cases h
  |some y=>rw[vI,e,NY] at h;exact#[a,ha,.step w e h]
  rw[θ q] at h;calc xA x k b h
def WJ{x:Int}(h:sw net 38 x=x):closed net x:=λk y e hk=>by
 let hl:k<net.length:=(c7.mp e).1;let h1:sub (sw net (k+1) x) x:=by have:=ad6 (net:=net) x (j:=k+1) (k:=38) hl;rw[h] at this;exact this
 let h2:ib (sw net k x) k=true:=r8 x k k hk;let h3:sw net (k+1) x=bitOr (sw net k x) (net.getD k 0):=by erw[sw];rw[ι h2]
 rw[h3,vI,e,NY] at h1;calc cw (dO _ _) h1
theorem m4{m:Nat}(hn:∀y∈net,below m y){x:Int}(hx:below m x):∀k,below m (sw net k x)
 |0=>hx
 |k+1=>by
  erw[sw];split;show d4 (m4 hn hx k) ?_;cases e:net[k]? with
  |none=>rw[vI,e];calc cK m
  |some y=>rw[vI,e];exact hn y (fM e)
  calc m4 hn hx k
theorem r9(x:Int):∀t,sub x 539
 |0=>dA x
 |t+1=>cw (r9 x t) (r8 _ _)
theorem r_(x:Int):∀t b,ib 539 b=true->∃a,ib x a=true/\Way net a b
 |0,b,h=>#[b,h,.refl b]
 |t+1,b,h=>by let(c,hc,w):=xA _ _ b h;let(a,ha,w'):=r_ x t c hc;calc#[a,ha,w'.trans w]
theorem iW{m:Nat}(hn:∀y∈net,below m y){x:Int}(hx:below m x):∀t,below m 539
 |0=>hx
 |t+1=>m4 hn (iW hn hx t) _
theorem ph{m:Nat}(hn:∀y∈net,below m y){x:Int}(hx:below m x):∀t,sw net 38 539=rounds net t x\/t<=cnt 539 m
 |0=>.inr (fB _)
 |t+1=>by
  by_cases e:sw net 38 539=rounds net t x;show .inl ?_;erw[rounds];rw[e,e];show .inr ?_;let h1:t<=cnt (rounds net t x) m:=(ph hn hx t).resolve_left e;let hs:=r8 (net:=net) 539 38;obtain⟨j,hj,Z_⟩:∃j,ib (sw net net.length (rounds net t x)) j=true/\ib (rounds net t x) j=false:=by
   show acI λn=>e (iU (λk hk=>?_) hs);cases q:ib (rounds net t x) k with
   |true=>rfl
   |false=>exact (n #[k,hk,q]).elim
  let hb:=(m4 hn (iW hn hx t) 38).bit hj;have:=LM hs hj Z_ m hb;erw[rounds]
  lia
def xB(hn:∀y∈net,below 38 y){x:Int}(hx:below 38 x):pf net x (rounds net 38 x):=by
 show kS (r9 x _) ?_ (r_ x _);rcases ph hn hx net.length with h|h
 calc WJ h;let hf:=z_ (Nat.le_antisymm (oz _ _) h);intro k y e _ j hj;calc hf j ((hn y (fM e)).bit hj)
def CA:pf net 0 0:=by show#[dA 0,λk y _ h=>?_,λ_ h _=>h];rw[dm] at h;cases h
end
end BS
namespace Iq
open PySem L2 VT BS
open PySem.Builtin (bitOr)
abbrev Ent:=(Int×Str)×Int
def kK(k:Int×Str):List Key:=[.inl k.1,.inr k.2]
def lN{a b:Int×Str}:kK a=kK b↔a=b:=by
 constructor;intro h;unfold kK at h;injection h with h1 h2
 injection h2 with h2 h3
 injection h1 with h1
 injection h2 with h2
 calc Prod.ext h1 h2;rintro rfl;rfl
def eQ(E:List Ent):List (List Key):=E.map λe=>kK e.1
def eO(E:List Ent):Λ:=E.map λe=>.int e.2
def Cr(e:Ent):T:=.tup [.int e.1.1,.str e.1.2,.int e.2]
def jk(E:List Ent)(k:Int×Str):Bool:=E.any λe=>decide (e.1=k)
def eU(E:List Ent)(k:Int×Str)(v:Int):List Ent:=if jk E k=true then E.map (λe=>if e.1=k then (e.1,v) else e) else E++[(k,v)]
def LN(E:List Ent)(k:Int×Str):jL (eQ E) (kK k)=jk E k:=by
 unfold jL eQ jk;rw[List.any_map]
 congr 1
 funext e;calc aad.mpr lN
def CB(E:List Ent)(k:Int×Str)(v:Int):G7 (eQ E) (kK k)=eQ (eU E k v):=by unfold G7 eU;rw[LN];by_cases h:jk E k=true;rw[ι h,ι h];unfold eQ;rw[yu];show IB λe _=>?_;change kK e.1=kK (if e.1=k then (e.1,v) else e).1;split<;>rfl;rw[θ h,θ h];unfold eQ;rw[nG];rfl
def gk(E:List Ent)(k:Int×Str)(v:Int):zZ (eQ E) (eO E) (kK k) (.int v)=eO (eU E k v):=by
 unfold zZ eU;rw[LN];by_cases h:jk E k=true;rw[ι h,ι h];clear h;unfold eQ eO;induction E with
 |nil=>rfl
 |cons e E ih=>
  erw[kn,acV];rw[ih]
  congr 1
  by_cases z:e.1=k;rw[ι z,ι (lN.mpr z)];rw[θ z,θ (λq=>z (lN.mp q))]
 rw[θ h,θ h];unfold eO;rw[nG];rfl
def WK(p:Int×Str->Bool)(b:Int)(e:Ent):Int:=if p e.1=true then bitOr b e.2 else b
def QF(p:Int×Str->Bool)(E:List Ent):Int:=E.foldl (WK p) 0
theorem CC(p:Int×Str->Bool)(k:Nat):∀(E:List Ent)(b:Int),ib (E.foldl (WK p) b) k=(ib b k || E.any λe=>p e.1 && ib e.2 k)
 |[],b=>by simp
 |e::E,b=>by
  rw[YS,CC p k E,Fv];unfold WK;cases p e.1 with
  |true=>rw[ι 9,dZ,yn,Bool.or_assoc]
  |false=>rw[θ iC,HY,HZ]
def QG{p:Int×Str->Bool}{E F:List Ent}(h:E.Perm F):QF p E=QF p F:=by
 show g9 λk=>?_;unfold QF;rw[CC,CC]
 congr 1
 rw[YT,T3,T3];calc#[λ#[x,hx,e]=>#[x,h.mem_iff.mp hx,e],λ#[x,hx,e]=>#[x,h.mem_iff.mpr hx,e]]
def QH{p:Int×Str->Bool}{E:List Ent}{e:Ent}(h:E[i]?\e):QF p (E.take 525)=WK p (QF p (E.take i)) e:=by unfold QF;rw[T2,h,RW];rfl
end Iq
namespace BS
open PySem PySem.Builtin PyProof.Rows
def mem(x:Int):qao:=(List.range (Builtin.Int.intBits x)).filter (ib x)
def QI{x:Int}(h0:0<=x):x<2 ^ Builtin.Int.intBits x:=by
 unfold Builtin.Int.intBits;by_cases e:x=0;subst e;decide;rw[θ (by simpa using e)];let(n,rfl):=qw h0;let hn:n≠0:=by lia
 rw[Int.natAbs_natCast];have:=(Nat.log2_lt hn (k:=n.log2+1)).mp (qx _);rw[<- iu];calc Int.ofNat_lt.mpr this
def bits_le{x:Int}(h:below m x):Builtin.Int.intBits x<=m:=by
 unfold Builtin.Int.intBits;split;exact fB _
 rename_i e
 let(n,rfl):=qw h.1;let hn:n≠0:=by intro z;subst z;exact e 9
 rw[Int.natAbs_natCast];let h2:=h.2;rw[<- iu] at h2;have:=(Nat.log2_lt hn (k:=m)).mpr (Int.ofNat_lt.mp h2)
 lia
def LO{x:Int}(h0:0<=x){k:Nat}(hk:ib x k=true):k<Builtin.Int.intBits x:=below.bit #[h0,QI h0] hk
def mem_iff{x:Int}(h0:0<=x){k:Nat}:k∈mem x↔ib x k=true:=by unfold mem;rw[N0,Bf];calc#[λh=>h.2,λh=>#[LO h0 h,h]]
theorem se(x:Int):∀n,((List.range n).filter (ib x)).length=cnt x n
 |0=>rfl
 |n+1=>by rw[T5,List.filter_append,fU,se x n];erw[cnt];by_cases h:ib x n=true;rw[ι h,YG h];rfl;rw[θ h,YH h];rfl
theorem Aa{x:Int}{n:Nat}:∀m,n<=m->(∀k,n<=k->ib x k=false)->cnt x m=cnt x n
 |0,h,_=>by
  have:n=0:=by lia
  subst this;rfl
 |m+1,h,q=>by by_cases e:n=m+1;subst e;rfl;erw[cnt];rw[Aa m () q,q m (),θ 15];rfl
def EL{x:Int}(h:below m x):(mem x).length=cnt x m:=by
 unfold mem;rw[se];show (Aa m (bits_le h) λk hk=>?_).symm;cases q:ib x k with
 |false=>rfl
 |true=>have:=LO h.1 q;lia
theorem CD{x y:Int}(h:∀k,ib x k=true->ib y k=true->False):∀n,cnt (bitOr x y) n=cnt x n+cnt y n
 |0=>rfl
 |n+1=>by
  erw[cnt];rw[CD h n,dZ];cases q:ib x n with
  |false=>cases r:ib y n<;>simp<;>lia
  |true=>cases r:ib y n with
   |false=>simp;lia
   |true=>calc (h n q r).elim
structure Bk(net:qan)(rows t:Int)(W:qao)(m:Nat):Prop where
 has:sub rows t
 WL:below 38 t
 wt:∀k∈W,ib t k=true
 LL:∀k y,net[k]?\y->ib t k=true->k∉W->sub y t
 way:∀b,ib t b=true->∃a,ib rows a=true/\Way net a b
 me:m=W.length+(38-cnt t 38)
section
variable{rows t:Int}{W:qao}
theorem Bk.init(h:below 38 rows):Bk net rows rows (mem rows) 38:=by
 show#[dA _,h,λk hk=>(mem_iff h.1).mp hk,λk y _ h1 h2=>(h2 ((mem_iff h.1).mpr h1)).elim,λb hb=>#[b,hb,.refl b],?_];rw[EL h];have:=oz rows 38
 lia
theorem Bk.step{k:Nat}(hn:∀y∈net,below 38 y)(B:Bk net rows t (W++[k]) m)(e:net[k]?\y) :
  below 38 (bitAnd y (bitNot t))/\∃m',m'<m/\Bk net rows (bitOr t (bitAnd y (bitNot t))) (W++mem (bitAnd y (bitNot t))) m':=by
 let hb:=oy (y:=bitNot t) (hn y (fM e));let hk:ib t k=true:=B.wt k 6;let WM:∀j,ib (bitAnd y (bitNot t)) j=(ib y j && !ib t j):=λj=>by rw[lL,fR]
 let hor:∀j,ib (bitOr t (bitAnd y (bitNot t))) j=(ib t j || ib y j):=λj=>by rw[dZ,WM];cases ib t j<;>cases ib y j<;>rfl
 let hsy:sub y (bitOr t (bitAnd y (bitNot t))):=λj hj=>by rw[hor,hj,Bool.or_true]
 let yC:sub t (bitOr t (bitAnd y (bitNot t))):=cZ _ _;let hc:=CD (x:=t) (y:=bitAnd y (bitNot t)) (λj h1 h2=>by rw[WM,h1] at h2;simp at h2) 38;let hl:=oz (bitOr t (bitAnd y (bitNot t))) 38;show#[hb,(W++mem (bitAnd y (bitNot t))).length+(38-cnt (bitOr t (bitAnd y (bitNot t))) 38),?_,#[cw B.has yC,d4 B.WL hb,λj hj=>?_,λj z ej hj hw=>?_,λb hbb=>?_,9]];have:=B.me;rw[fU,NF] at this;rw[fU,EL hb,this,hc]
 lia
 rcases fO.mp hj with h|h
 calc yC j (B.wt j (by simp[h]));calc dO _ _ j ((mem_iff hb.1).mp h);by_cases hjk:j=k;subst hjk;rw[e] at ej;cases ej;calc hsy;by_cases hjt:ib t j=true;show cw (B.LL j z ej hjt λq=>?_) yC;rcases fO.mp q with q|q
 calc hw (by simp[q]);calc hjk (fE.mp q);exfalso;show hw (jY _ ((mem_iff hb.1).mpr ?_));rw[dZ,N1] at hj;calc hj.resolve_left hjt;rw[dZ,N1] at hbb;obtain h|h:=hbb
 calc B.way b h;let(a,ha,w):=B.way k hk;show#[a,ha,.step w e ?_];rw[WM,pK] at h;calc h.1
def Bk.fin(B:Bk net rows t [] m):pf net rows t:=kS B.has (λk y e h=>B.LL k y e h 6) B.way
theorem Bk.agk(B:Bk net rows t W m):W.length<=m:=by have:=B.me;lia
end
def lst(net:qan)(x:Int):Int:=rounds net 38 x
def c8{x:Int}(hn:∀y∈net,below 38 y)(hx:below 38 x):pf net x (lst net x):=xB hn hx
def oA{x:Int}(hn:∀y∈net,below 38 y)(hx:below 38 x):below 38 (lst net x):=iW hn hx _
def LP(hn:∀y∈net,below 38 y):lst net 0=0:=(c8 hn (cK _)).unique CA
def Bk.is{rows t:Int}(hn:∀y∈net,below 38 y)(hx:below 38 rows)(B:Bk net rows t [] m):t=lst net rows:=B.fin.unique (c8 hn hx)
def Turn(net out:qan):Prop:=out.length=38/\(∀y∈out,below 38 y)/\∀i j,ib (out.getD j 0) i=(decide (j<38) && ib (net.getD i 0) j)
def getD_some{l:qan}{i:Nat}{y:Int}(h:l[i]?\y):l.getD i 0=y:=by rw[vI,h];rfl
end BS
namespace TS
open PySem PyProof.Rows
end TS
namespace TS
open PySem PySem.Spec PyProof.Rows L2 VT
section
variable(L:α->α->Bool)
variable{L}
theorem filter_lt{p q:α->Bool}:∀{l:List α},(∀x∈l,p x=true->q x=true)->∀{y},y∈l->p y=false->q y=true->(l.filter p).length<(l.filter q).length
 |x::l,h,y,hy,h1,h2=>by
  let le:∀{l:List α},(∀x∈l,p x=true->q x=true)->(l.filter p).length<=(l.filter q).length:=by
   intro l;induction l with
   |nil=>intro _;calc cM _
   |cons x l ih=>
    intro h;have:=ih λz hz=>h z (iB _ hz);rw[acX,acX];cases hp:p x with
    |true=>rw[h x 6 hp];simpa using this
    |false=>
     cases hq:q x with
     |true=>simp;lia
     |false=>simpa using this
  let hl:=λz hz=>h z (iB x hz);rw[acX,acX];rcases dQ.mp hy with rfl|hy
  rw[h1,h2];have:=le hl;simp;lia;let ih:=filter_lt hl hy h1 h2;cases hp:p x with
  |true=>rw[h x 6 hp];simpa using ih
  |false=>
   cases hq:q x with
   |true=>simp;lia
   |false=>simpa using ih
end
section
open Classical in
end
end TS
namespace MK
open PySem L2 VT Gen BS K5 Iq
open PySem.Builtin (bitOr)
def eC(E:List Ent)(k:Int×Str):Int:=match E with
 |[]=>0
 |e::E=>if e.1=k then e.2 else eC E k
theorem kU(k:Int×Str):∀E:List Ent,(eB (eQ E) (eO E) (kK k)).getD (.int 0)=.int (eC E k)
 |[]=>rfl
 |e::E=>by change (if kK e.1=kK k then some (T.int e.2) else eB (eQ E) (eO E) (kK k)).getD (.int 0)=.int (if e.1=k then e.2 else eC E k);by_cases z:e.1=k;rw[ι z,ι (lN.mpr z)];rfl;rw[θ z,θ (λq=>z (lN.mp q))];calc kU k E
theorem m5(h n:Int):∀E:List Ent,eB (eQ E) (eO E) [.inl h,.inl n]=none
 |[]=>rfl
 |e::E=>by change (if kK e.1=[.inl h,.inl n] then some (T.int e.2) else eB (eQ E) (eO E) [.inl h,.inl n])=none;rw[θ (λz=>by unfold kK at z;injection z with _ z;injection z with z _;cases z)];calc m5 h n E
def Ab(k k':Int×Str)(v:Int)(E:List Ent):eC (eU E k v) k'=if k'=k then v else eC E k':=by
 unfold eU;by_cases h:jk E k=true;rw[ι h];induction E with
 |nil=>cases h
 |cons e E ih=>
  rw[kn];change (if (if e.1=k then (e.1,v) else e).1=k' then (if e.1=k then (e.1,v) else e).2 else eC (E.map _) k')=if k'=k then v else if e.1=k' then e.2 else eC E k'
  by_cases q:e.1=k;rw[ι q];by_cases q2:k'=k;rw[ι q2,ι (q.trans q2.symm)];rw[θ q2,θ (λz=>q2 (z.symm.trans q)),θ (λz=>q2 (z.symm.trans q))];by_cases h2:jk E k=true;rw[ih h2,θ q2];have:∀l:List Ent,¬ jk l k=true->(l.map λe=>if e.1=k then (e.1,v) else e)=l:=λl hl=>by
   conv=>rhs;rw[<- List.map_id l]
   show IB λx hx=>?_;rw[θ λz=>hl (T3.mpr #[x,hx,ο z])];rfl
  rw[this E h2];rw[θ q];let h2:jk E k=true:=by unfold jk at h ⊢;rw[Fv,ς q,HZ] at h;exact h
  rw[ih h2];by_cases q3:e.1=k';rw[ι q3,ι q3,θ (λz=>q (q3.trans z))];rw[θ q3,θ q3]
 rw[θ h];induction E with
 |nil=>
  change (if k=k' then v else 0)=if k'=k then v else 0
  by_cases q:k'=k;rw[ι q,ι q.symm];rw[θ q,θ (λz=>q z.symm)]
 |cons e E ih=>
  let h1:¬ e.1=k:=λz=>h (by unfold jk;rw[Fv,ο z];rfl);let h2:¬ jk E k=true:=λz=>h (by unfold jk at z ⊢;rw[Fv,z,Bool.or_true]);change (if e.1=k' then e.2 else eC (E++[(k,v)]) k')=if k'=k then v else if e.1=k' then e.2 else eC E k'
  rw[ih h2];by_cases q3:e.1=k';rw[ι q3,ι q3,θ (λz=>h1 (q3.trans z))];rw[θ q3,θ q3]
def QJ(k:Int×Str)(v:Int)(E:List Ent):eB (eQ (eU E k v)) (eO (eU E k v)) (kK k)\.int v:=by
 let h:jk (eU E k v) k=true:=by unfold eU;by_cases h:jk E k=true;rw[ι h];let(e,he,z):=T3.mp h;let z:e.1=k:=Θ z;calc T3.mpr #[(e.1,v),k5.mpr #[e,he,by rw[ι z]],ο z];rw[θ h];exact T3.mpr #[(k,v),jY _ (fE.mpr 9),ο 9]
 let e1:=kU k (eU E k v);rw[Ab,ι 9] at e1;have:∀F:List Ent,jk F k=true->∃t,eB (eQ F) (eO F) (kK k)\t:=λF=>by
  induction F with
  |nil=>intro z;cases z
  |cons e F ih=>intro z;change ∃t,(if kK e.1=kK k then some (T.int e.2) else eB (eQ F) (eO F) (kK k))\t;by_cases q:e.1=k;calc#[_,ι (lN.mpr q)];rw[θ (λx=>q (lN.mp x))];unfold jk at z;rw[Fv,ς q,HZ] at z;exact ih z
 let(t,ht):=this _ h;rw[ht] at e1 ⊢;calc aaa some e1
def eV(k:Ky):Str:=match B7 k with
 |.str x=>if yR.k_ x=true then x else "#"
 |_=>"#"
def g_(E:List Ent)(h:Nat):nJ->Int
 |.nm y=>eC E ((h:Int),y)
 |.nu _=>0
def rdC(F:List Ent)(x:Int)(c:Str):Int:=(mem x).foldl (λt (j:Nat)=>bitOr t (eC F ((j:Int),c))) 0
abbrev Wt:=Bool×(Int×Str)×Int
def wOf(E F:List Ent)(i h:Nat):Rw->List Wt
 |.new x=>[(true,((h:Int),x),1 * 2 ^ ((i:Int)).toNat)]
 |.put x o=>[(true,((h:Int),x),g_ E h o)]
 |.get x y k=>[(true,((h:Int),x),rdC F (eC E ((h:Int),y)) (eV k))]
 |.set y k o=>(mem (eC E ((h:Int),y))).map λ(j:Nat)=>(false,((j:Int),eV k),g_ E h o)
 |_=>[]
def okR:Rw->Bool
 |.call _ _ _=>false
 |_=>true
def agl(a1 a2:Addr)(E F:List Ent)(b:Bool):T:=if b=true then .pin a1 479 else .pin a2 (.dt (eQ F) (eO F))
def wT(a1 a2:Addr)(E F:List Ent)(p:Wt):T:=.tup [agl a1 a2 E F p.1,.kt (kK p.2.1),.int p.2.2]
inductive Pl
 |nm (h:Nat) (x:Str)
 |cl (h:Nat) (x c:Str)
 |rw (i:Nat)
 |zr
abbrev Mv:=Pl×Pl
abbrev nk(h:Nat)(x:Str):Int×Str:=((h:Int),x)
def QK(h:Nat):nJ->Pl
 |.nm y=>.nm h y
 |.nu _=>.zr
def fnOf(rs:F2)(g:Str):Option (Nat×List Str×nJ):=match wG (bf rs 5) g with
 |some s=>match rs[s]?,endsAt 23 5 s with
  |some (.df _ ps),some e=>match rs[e]? with
   |some (.give o)=>some (s,ps,o)
   |_=>none
  |_,_=>none
 |none=>none
def CG(rs:F2)(i h:Nat):Rw->List Mv
 |.new x=>[(.nm h x,.rw i)]
 |.put x o=>[(.nm h x,QK h o)]
 |.get x y k=>[(.nm h x,.cl h y (eV k))]
 |.set y k o=>[(.cl h y (eV k),QK h o)]
 |.call x g as=>match fnOf rs g with
  |some (s,ps,o)=>(.nm h x,QK s o)::(ps.zip as).map λz=>(.nm s z.1,QK h z.2)
  |none=>[]
 |_=>[]
def WN(rs:F2)(i:Nat):List Mv:=match rs[i]?,gG 23 i with
 |some r,some h=>CG rs i h r
 |_,_=>[]
def tT(rs:F2):List Mv:=(List.range 5).flatMap (WN rs)
def isNm:Pl->Bool
 |.nm _ _=>true
 |_=>false
def xD(E F:List Ent):Pl->Int
 |.nm h y=>eC E (nk h y)
 |.cl h y c=>rdC F (eC E (nk h y)) c
 |.rw i=>1 * 2 ^ ((i:Int)).toNat
 |.zr=>0
def goE(E:List Ent):Pl->List (Int×Str)
 |.nm h x=>[nk h x]
 |.cl h y c=>(mem (eC E (nk h y))).map λ(j:Nat)=>((j:Int),c)
 |_=>[]
def wM(E F:List Ent)(m:Mv):List Wt:=(goE E m.1).map λk=>(isNm m.1,k,xD E F m.2)
def wA(rs:F2)(E F:List Ent)(i:Nat):List Wt:=(WN rs i).flatMap (wM E F)
structure Tb where
 E:List Ent
 F:List Ent
 b:Bool
def Tb.get(p:Tb)(w:Bool)(k:Int×Str):Int:=if w=true then eC p.E k else eC p.F k
def Tb.put(p:Tb)(w:Bool)(k:Int×Str)(v:Int):Tb:=if w=true then {p with E:=eU p.E k v} else {p with F:=eU p.F k v}
def pY(p:Tb)(w:Wt):Tb:={p.put w.1 w.2.1 (bitOr (p.get w.1 w.2.1) w.2.2) with b:=p.b || !decide (bitOr (p.get w.1 w.2.1) w.2.2=p.get w.1 w.2.1)}
def stp(rs:F2)(p:Tb)(i:Nat):Tb:=(wA rs p.E p.F i).foldl pY p
def d9(rs:F2)(E F:List Ent)(n:Nat):Tb:=(List.range n).foldl (stp rs) #[E,F,false]
def oB(rs:F2)(E F:List Ent)(n:Nat):d9 rs E F (n+1)=stp rs (d9 rs E F n) n:=by unfold d9;rw[T5,RW];rfl
def qm(p:Tb)(w:Wt)(b:Bool)(k:Int×Str):(pY p w).get b k=if b=w.1/\k=w.2.1 then bitOr (p.get w.1 w.2.1) w.2.2 else p.get b k:=by let(wb,wk,wv):=w;unfold pY Tb.put Tb.get;cases wb<;>cases b<;>simp[Ab]
def ad7(n:Nat)(w:Bool)(m:Mv):List (Int×Str):=match w,m.1 with
 |true,.nm h x=>[nk h x]
 |false,.cl _ _ c=>(List.range n).map λ(j:Nat)=>((j:Int),c)
 |_,_=>[]
def je(n:Nat)(M:List Mv)(w:Bool):List (Int×Str):=M.flatMap (ad7 n w)
structure Iv(n:Nat)(M:List Mv)(p:Tb):Prop where
 nE:(p.E.map (·.1)).Nodup
 nF:(p.F.map (·.1)).Nodup
 kE:∀e∈p.E,e.1∈je n M true
 kF:∀e∈p.F,e.1∈je n M false
 bl:∀w k,below n (p.get w k)
def Ac{E:List Ent}{k:Int×Str}{v:Int}(nd:(E.map (·.1)).Nodup):((eU E k v).map (·.1)).Nodup/\∀e∈eU E k v,e.1=k\/∃e'∈E,e'.1=e.1:=by
 unfold eU;by_cases h:jk E k=true;rw[ι h];let e:(E.map (λe=>if e.1=k then (e.1,v) else e)).map (·.1)=E.map (·.1):=by rw[yu];show IB λe _=>?_;change (if e.1=k then (e.1,v) else e).1=e.1;split<;>rfl
 show#[by rw[e];calc nd,λx hx=>?_];let(y,hy,rfl):=k5.mp hx;calc .inr #[y,hy,by split<;>rfl];rw[θ h];show#[?_,λx hx=>?_];rw[nG,List.nodup_append];show#[nd,by simp,λa ha b hb e=>?_];let hb:b=k:=by simpa using hb
 subst e;subst hb;let(y,hy,e):=k5.mp ha;calc h (T3.mpr #[y,hy,ο e]);rcases fO.mp hx with z|z
 calc .inr #[x,z,9];rw[fE.mp z];calc .inl 9
theorem jO{α β:Type}{f:β->List α}{m:Nat}(h:∀i,(f i).length<=m):∀l:List β,(l.flatMap f).length<=490 * m
 |[]=>by simp
 |i::l=>by
  have:=jO h l;have:=h i;rw[List.flatMap_cons,fU,vJ,Nat.add_mul]
  lia
theorem sub_len{α:Type}[DecidableEq α]:∀{l U:List α},l.Nodup->(∀x∈l,x∈U)->490<=U.length
 |[],U,_,_=>fB _
 |x::l,U,nd,h=>by
  rw[qy] at nd;let hx:=h x iz;have:=sub_len (U:=U.erase x) nd.2 λy hy=>(List.mem_erase_of_ne (λe=>nd.1 (by rw[<- e];calc hy))).mpr (h y (iB _ hy));rw[List.length_erase_of_mem hx] at this;have:=List.length_pos_of_mem hx;rw[vJ]
  lia
def Le(p p':Tb):Prop:=∀w k,sub (p.get w k) (p'.get w k)
def Le.refl(p:Tb):Le p p:=λ_ _=>dA _
def Le.trans{p q r:Tb}(h:Le p q)(g:Le q r):Le p r:=λw k=>cw (h w k) (g w k)
def CH{l:qao}{f:Nat->Int}(h:∀j,below n (f j)):∀x,below n x->below n (l.foldl (λt j=>bitOr t (f j)) x):=by
 induction l with
 |nil=>calc λx h=>h
 |cons j l ih=>calc λx hx=>ih _ (d4 hx (h j))
def QL(n:Nat)(m:Mv):Prop:=match m.2 with
 |.rw i=>i<n
 |_=>True
section
variable{M:List Mv}{p q r:Tb}{m:Mv}
theorem vm(w:Bool):(je n M w).length<=M.length * (n+1):=jO (λm=>by unfold ad7;split;simp;rw[bS,pJ];lia;simp) M
def Iv.ad8(I:Iv n M p):p.E.length<=M.length * (n+1):=by
 have:=sub_len I.nE λk hk=>by let(e,he,rfl):=k5.mp hk;exact I.kE e he
 rw[bS] at this;calc kJ this (vm true)
def Iv.ad9(I:Iv n M p):p.F.length<=M.length * (n+1):=by
 have:=sub_len I.nF λk hk=>by let(e,he,rfl):=k5.mp hk;exact I.kF e he
 rw[bS] at this;calc kJ this (vm false)
def Iv.bool(I:Iv n M p)(b:Bool):Iv n M {p with b:=b}:=#[I.nE,I.nF,I.kE,I.kF,I.bl]
def Iv.step(I:Iv n M p){w:Wt}(hk:w.2.1∈je n M w.1)(hb:below n w.2.2):Iv n M (pY p w):=by
 let Yh:∀b k,below n ((pY p w).get b k):=λb k=>by rw[qm];split;calc d4 (I.bl _ _) hb;exact I.bl b k
 let(wb,wk,wv):=w;cases wb with
 |true=>let(h1,h2):=Ac I.nE;calc#[h1,I.nF,λe he=>(h2 e he).elim (λz=>by rw[z];calc hk) λ#[e',Qa,z]=>by rw[<- z];calc I.kE e' Qa,I.kF,Yh]
 |false=>let(h1,h2):=Ac I.nF;calc#[I.nE,h1,I.kE,λe he=>(h2 e he).elim (λz=>by rw[z];calc hk) λ#[e',Qa,z]=>by rw[<- z];calc I.kF e' Qa,Yh]
def Ha(I:Iv n M p)(h:QL n m):below n (xD p.E p.F m.2):=by
 let(g,o):=m;cases o with
 |nm h y=>calc I.bl true _
 |cl h y c=>calc CH (λj=>I.bl false _) 0 (cK _)
 |rw i=>change below n (1 * 2 ^ ((i:Int)).toNat);rw[i9];calc iV h
 |zr=>calc cK _
def QM(I:Iv n M p)(hm:m∈M){k:Int×Str}(hk:k∈goE p.E m.1):k∈je n M (isNm m.1):=by
 show X_.mpr #[m,hm,?_];let(g,o):=m;cases g with
 |nm h x=>calc hk
 |cl h y c=>let(j,hj,rfl):=k5.mp hk;let b:=I.bl true (nk h y);calc k5.mpr #[j,Bf.mpr (b.bit ((mem_iff b.1).mp hj)),9]
 |_=>cases hk
def agm(I:Iv n M p)(hm:m∈M)(h:QL n m){w:Wt}(hw:w∈wM p.E p.F m):w.2.1∈je n M w.1/\below n w.2.2:=by let(k,hk,rfl):=k5.mp hw;calc#[QM I hm hk,Ha I h]
def Nw(n:Nat)(M:List Mv)(p p':Tb):Prop:=∃w k b,k∈je n M w/\b<n/\ib (p.get w k) b=false/\ib (p'.get w k) b=true
def Nw.le(h:Nw n M p q)(g:Le q r):Nw n M p r:=let #[w,k,b,h1,h2,h3,h4]:=h;#[w,k,b,h1,h2,h3,g w k b h4]
def Nw.ge(g:Le p q)(h:Nw n M q r):Nw n M p r:=by
 let(w,k,b,h1,h2,h3,h4):=h;show#[w,k,b,h1,h2,?_,h4];cases z:ib (p.get w k) b with
 |false=>rfl
 |true=>rw[g w k b z] at h3;cases h3
def LQ{w:Wt}:Le p (pY p w):=λb k=>by
 rw[qm];split
 rename_i h
 rw[h.1,h.2];calc cZ _ _;calc dA _
def WO{w:Wt}(hk:w.2.1∈je n M w.1)(hb:below n w.2.2)(h:(pY p w).b=true):p.b=true\/Nw n M p (pY p w):=by
 let h:(p.b || !decide (bitOr (p.get w.1 w.2.1) w.2.2=p.get w.1 w.2.1))=true:=h;cases hp:p.b with
 |true=>calc .inl 9
 |false=>
  rw[hp,HZ] at h;let fY:bitOr (p.get w.1 w.2.1) w.2.2≠p.get w.1 w.2.1:=λz=>by rw[ο z] at h;cases h
  right
  let hs:=λz=>fY (iU (xy (dA _) z) (cZ _ _));obtain⟨b,h1,h2⟩:∃b,ib w.2.2 b=true/\¬ ib (p.get w.1 w.2.1) b=true:=acI λz=>hs λb hb=>acI λy=>z #[b,hb,y];show#[w.1,w.2.1,b,hk,hb.bit h1,by simpa using h2,?_];rw[qm,ι #[9,9]];calc dO _ _ b h1
theorem xE:∀{l:List Wt}{p:Tb},Iv n M p->(∀w∈l,w.2.1∈je n M w.1/\below n w.2.2)->Iv n M (l.foldl pY p)/\Le p (l.foldl pY p)/\((l.foldl pY p).b=true->p.b=true\/Nw n M p (l.foldl pY p))
 |[],p,I,_=>#[I,Le.refl p,.inl]
 |w::l,p,I,h=>by
  let h0:=h w iz;let(h1,h2,h3):=xE (I.step h0.1 h0.2) λv hv=>h v (iB _ hv);show#[h1,LQ.trans h2,λhb=>?_];rcases h3 hb with z|z
  rcases WO h0.1 h0.2 z with z|z
  calc .inl z;calc .inr (z.le h2);calc .inr (z.ge LQ)
def aea(n:Nat)(M:List Mv):List ((Bool×Int×Str)×Nat):=[true,false].flatMap λw=>(je n M w).flatMap λk=>(List.range n).map λb=>((w,k),b)
def mu(n:Nat)(M:List Mv)(p:Tb):Nat:=((aea n M).filter λx=>!ib (p.get x.1.1 x.1.2) x.2).length
def aeb(h:Le p q)(w:Nw n M p q):mu n M q<mu n M p:=by
 let(w,k,b,h1,h2,h3,h4):=w;show TS.filter_lt (λx _ z=>?_) (y:=((w,k),b)) ?_ (by rw[h4];rfl) (by rw[h3];rfl);cases q:ib (p.get x.1.1 x.1.2) x.2 with
 |false=>rfl
 |true=>rw[h _ _ _ q] at z;cases z
 calc X_.mpr #[w,by cases w<;>simp,X_.mpr #[k,h1,k5.mpr #[b,Bf.mpr h2,9]]]
def WQ(n:Nat)(M:List Mv):Iv n M #[[],[],false]:=#[NJ,NJ,λe h=>(nomatch h),λe h=>(nomatch h),λw k=>by cases w<;>calc cK n]
end
abbrev Sf:=Bool->Int×Str->Int
def gS(S:Sf)(g:Pl)(w:Bool)(k:Int×Str):Prop:=match g with
 |.nm h x=>w=true/\k=nk h x
 |.cl h y c=>w=false/\∃j:Nat,ib (S true (nk h y)) j=true/\k=((j:Int),c)
 |_=>False
def hS(S:Sf)(o:Pl)(b:Nat):Prop:=match o with
 |.nm h y=>ib (S true (nk h y)) b=true
 |.cl h y c=>∃j:Nat,ib (S true (nk h y)) j=true/\ib (S false ((j:Int),c)) b=true
 |.rw i=>b=i
 |.zr=>False
def ClM(S:Sf)(m:Mv):Prop:=∀w k b,gS S m.1 w k->hS S m.2 b->ib (S w k) b=true
def Ls(M:List Mv)(p:Tb):Prop:=∀S,(∀m∈M,ClM S m)->∀w k,sub (p.get w k) (S w k)
def LR{l:qao}{f:Nat->Int}{b:Nat}:∀{x:Int},ib (l.foldl (λt j=>bitOr t (f j)) x) b=true↔ib x b=true\/∃j∈l,ib (f j) b=true:=by
 induction l with
 |nil=>intro x;simp
 |cons j l ih=>intro x;rw[YS,ih,dZ,N1,or_assoc];simp
section
variable{M:List Mv}{p q:Tb}{m:Mv}
def WR(I:Iv n M p){g:Pl}{w:Bool}{k:Int×Str}:gS p.get g w k↔w=isNm g/\k∈goE p.E g:=by
 cases g with
 |nm h x=>calc#[λh=>#[h.1,fE.mpr h.2],λh=>#[h.1,fE.mp h.2]]
 |cl h y c=>let b:=I.bl true (nk h y);show#[λ#[h1,j,h2,h3]=>#[h1,k5.mpr #[j,(mem_iff b.1).mpr h2,h3.symm]],λ#[h1,h2]=>#[h1,?_]];let(j,hj,e):=k5.mp h2;calc#[j,(mem_iff b.1).mp hj,e.symm]
 |rw i=>calc#[False.elim,λh=>nomatch h.2]
 |zr=>calc#[False.elim,λh=>nomatch h.2]
def QN(I:Iv n M p){o:Pl}{b:Nat}:hS p.get o b↔ib (xD p.E p.F o) b=true:=by
 cases o with
 |nm h y=>calc Iff.rfl
 |cl h y c=>
  let e:=I.bl true (nk h y);change _↔ib (List.foldl _ 0 _) b=true;rw[LR,BS.dm];show#[λ#[j,h1,h2]=>.inr #[j,(mem_iff e.1).mpr h1,h2],λh=>?_];obtain h|⟨j,h1,h2⟩:=h
  cases h;calc#[j,(mem_iff e.1).mp h1,h2]
 |rw i=>change b=i↔ib (1 * 2 ^ ((i:Int)).toNat) b=true;rw[i9,xx,aar]
 |zr=>calc#[False.elim,λh=>by rw[show xD p.E p.F .zr=0 from 9,BS.dm] at h;cases h]
def QO{S S':Sf}(h:∀w k,sub (S w k) (S' w k)){g:Pl}{w:Bool}{k:Int×Str}(x:gS S g w k):gS S' g w k:=by
 cases g with
 |cl a y c=>let(h1,j,h2,h3):=x;calc#[h1,j,h _ _ _ h2,h3]
 |_=>calc x
def QP{S S':Sf}(h:∀w k,sub (S w k) (S' w k)){o:Pl}{b:Nat}(x:hS S o b):hS S' o b:=by
 cases o with
 |nm a y=>calc h _ _ _ x
 |cl a y c=>let(j,h2,h3):=x;calc#[j,h _ _ _ h2,h _ _ _ h3]
 |_=>calc x
def LS(I:Iv n M p){S:Sf}(c:ClM S m)(hp:∀w k,sub (p.get w k) (S w k)){k:Int×Str}(hk:k∈goE p.E m.1):sub (xD p.E p.F m.2) (S (isNm m.1) k):=λb hb=>
 c _ _ b (QO hp ((WR I).mpr #[9,hk])) (QP hp ((QN I).mpr hb))
theorem Ls.pY(h:Ls M p){w:Wt}(hw:∀S,(∀m∈M,ClM S m)->sub w.2.2 (S w.1 w.2.1)):Ls M (pY p w):=λS hS b k=>by
 rw[qm];split
 rename_i z
 rw[z.1,z.2];calc xy (h S hS _ _) (hw S hS);calc h S hS b k
theorem EM:∀{l:List Wt}{p:Tb},Ls M p->(∀w∈l,∀S,(∀m∈M,ClM S m)->sub w.2.2 (S w.1 w.2.1))->Ls M (l.foldl MK.pY p)
 |[],p,L,_=>L
 |w::l,p,L,h=>EM (l:=l) (L.pY λS hS=>h w iz S hS) λv hv=>h v (iB _ hv)
def WS:Ls M #[[],[],false]:=λS hS w k=>by cases w<;>calc sub_zero _
end
section
theorem WT:∀m∈tT rs,QL 5 m:=λm hm=>by
 let(i,hi,hm):=X_.mp hm;let hi:=Bf.mp hi;unfold WN at hm;let op:∀g a o,QL rs.length (g,QK a o):=λg a o=>by cases o<;>trivial
 split at hm
 rename_i r h _ _
 cases r with
 |new x=>rw[fE.mp hm];calc hi
 |put x o=>rw[fE.mp hm];calc op _ _ _
 |get x y k=>rw[fE.mp hm];trivial
 |set y k o=>rw[fE.mp hm];calc op _ _ _
 |call x g as=>
  erw[CG] at hm;split at hm;rcases dQ.mp hm with rfl|hm
  calc op _ _ _;let(z,_,rfl):=k5.mp hm;calc op _ _ _;cases hm
 |_=>cases hm
 cases hm
def LU{p:Tb}(I:Iv 5 (tT rs) p)(hi:i<5){w:Wt}(hw:w∈wA rs p.E p.F i):∃m∈tT rs,w∈wM p.E p.F m/\w.2.1∈je 5 (tT rs) w.1/\below 5 w.2.2:=by let(m,hm,hw):=X_.mp hw;let hm:=X_.mpr #[i,Bf.mpr hi,hm];calc#[m,hm,hw,agm I hm (WT m hm) hw]
theorem m6{E F:List Ent}{b:Bool}(I:Iv 5 (tT rs) #[E,F,b]):∀n≤rs.length,Iv 5 (tT rs) (d9 rs E F n)/\Le #[E,F,b] (d9 rs E F n)/\((d9 rs E F n).b=true->Nw 5 (tT rs) #[E,F,b] (d9 rs E F n))
 |0,_=>#[I.bool false,λ_ _=>dA _,λh=>nomatch h]
 |n+1,h=>by
  let(I',h1,h2):=m6 I n ();rw[oB];let(g1,g2,g3):=xE (l:=wA rs (d9 rs E F n).E (d9 rs E F n).F n) I' λw hw=>(LU I' () hw).choose_spec.2.2;show#[g1,h1.trans g2,λhb=>?_];rcases g3 hb with z|z
  calc (h2 z).le g2;calc z.ge h1
theorem EN{E F:List Ent}{b:Bool}(I:Iv 5 (tT rs) #[E,F,b])(L:Ls (tT rs) #[E,F,b]):∀n≤rs.length,Ls (tT rs) (d9 rs E F n)
 |0,_=>L
 |n+1,h=>by let L':=EN I L n ();let I':=(m6 I n ()).1;rw[oB];show EM L' λw hw S hS=>?_;let(m,hm,hw,_):=LU I' () hw;let(k,hk,rfl):=k5.mp hw;calc LS I' (hS m hm) (λw k=>L' S hS w k) hk
def m7(rs:F2):Nat->Tb
 |0=>#[[],[],false]
 |m+1=>d9 rs (m7 rs m).E (m7 rs m).F 5
theorem LV(rs:F2):∀m,Iv 5 (tT rs) (m7 rs m)/\Ls (tT rs) (m7 rs m)
 |0=>#[WQ _ _,WS]
 |m+1=>by let(I,L):=LV rs m;calc#[(m6 I 5 82).1,EN I L 5 82]
end
def pC(x:Int)(c:Str)(k:Int×Str):Bool:=decide (k.2=c) && ib x k.1.toNat
def WU(g:Pl)(h:Nat):nJ->List Mv
 |.nm y=>[(g,.nm h y)]
 |.nu _=>[]
def mvW(rs:F2)(i h:Nat):Rw->List Mv
 |.new x=>[(.nm h x,.rw i)]
 |.put x o=>WU (.nm h x) h o
 |.get x y k=>[(.nm h x,.cl h y (eV k))]
 |.set y k o=>WU (.cl h y (eV k)) h o
 |.call x g as=>match fnOf rs g with
  |some (s,ps,o)=>(ps.zip as).flatMap (λz=>WU (.nm s z.1) h z.2)++WU (.nm h x) s o
  |none=>[]
 |_=>[]
def mvB(rs:F2)(i:Nat):List Mv:=match rs[i]?,gG 23 i with
 |some r,some h=>mvW rs i h r
 |_,_=>[]
def mvs(rs:F2)(n:Nat):List Mv:=(List.range n).flatMap (mvB rs)
def aec{h:Nat}(hr:∀x g as,r=.call x g as->as.length<=04):(CG rs i h r).length<=05/\(mvW rs i h r).length<=05:=by
 let l1:∀g h o,(WU g h o).length<=1:=λg h o=>by cases o<;>simp[WU]
 cases r with
 |put x o=>calc#[by simp[CG],kJ (l1 _ _ _) 15]
 |set y k o=>calc#[by simp[CG],kJ (l1 _ _ _) 15]
 |call x g as=>
  erw[CG,mvW];cases fnOf rs g with
  |none=>calc#[fB _,fB _]
  |some a=>
   let(s,ps,o):=a;let ha:=hr x g as 9;let z:(ps.zip as).length<=04:=by rw[NI];lia
   let f:=jO (f:=λz:Str×nJ=>WU (.nm s z.1) h z.2) (λz=>l1 _ _ _) (ps.zip as);have:=l1 (.nm h x) s o;calc#[by rw[vJ,bS];lia,by rw[fU];lia]
 |_=>calc#[by simp[CG],by simp[mvW]]
def WV(hr:∀r∈rs,∀x g as,r=.call x g as->as.length<=04):(tT rs).length<=5 * 05/\∀n,(mvs rs n).length<=n * 05:=by
 let h:∀i,(WN rs i).length<=05/\(mvB rs i).length<=05:=λi=>by
  unfold WN mvB;cases e:rs[i]? with
  |none=>calc#[fB _,fB _]
  |some r=>
   cases gG (bh rs) i with
   |none=>calc#[fB _,fB _]
   |some h=>exact aec (hr r (fM e))
 show#[?_,λn=>?_];have:=jO (λi=>(h i).1) (List.range 5)
 rwa [pJ] at this
 have:=jO (λi=>(h i).2) (List.range n)
 rwa [pJ] at this
end MK
namespace MK
open PySem L2 VT Gen BS K5 Iq Lay
open PySem.Builtin (bitOr)
def EO(E F:List Ent)(h:Nat)(o:nJ):xD E F (QK h o)=g_ E h o:=by cases o<;>rfl
def w_eq(rs:F2)(E F:List Ent)(i h:Nat)(hr:okR r=true):(CG rs i h r).flatMap (wM E F)=wOf E F i h r:=by
 cases r with
 |new x=>rfl
 |get x y k=>rfl
 |put x o=>change [(true,_,xD E F (QK h o))]++[]=[(true,_,g_ E h o)];rw[EO];rfl
 |set y k o=>change List.map _ (List.map _ _)++[]=List.map _ _;rw[HX,yu,EO];rfl
 |call x g as=>cases hr
 |_=>rfl
theorem w_call{g:Str}{s:Nat}{o:nJ}(e:fnOf rs g\(s,ps,o))(E F:List Ent)(i h:Nat)(x:Str)(as:List nJ) :
  (CG rs i h (.call x g as)).flatMap (wM E F)=(true,nk h x,g_ E s o)::(ps.zip as).map λz=>(true,nk s z.1,g_ E h z.2):=by
 erw[CG,e];rw[List.flatMap_cons,List.flatMap_map];change (true,nk h x,xD E F (QK s o))::([]++_)=_;rw[EO,List.nil_append]
 congr 1
 induction ps.zip as with
 |nil=>rfl
 |cons z l ih=>rw[List.flatMap_cons,ih];change (true,nk s z.1,xD E F (QK h z.2))::_=_;rw[EO];rfl
def xF{g:Str}{s:Nat}{o:nJ}(h:fnOf rs g\(s,ps,o)):∃f e,wG (bf rs 5) g\s/\rs[s]?\.df f ps/\endsAt 23 5 s\e/\rs[e]?\.give o:=by
 unfold fnOf at h;cases h1:wG (bf rs rs.length) g with
 |none=>rw[h1] at h;cases h
 |some s'=>
  rw[h1] at h;dsimp only at h;cases h2:rs[s']? with
  |none=>rw[h2] at h;cases h
  |some r=>
   rw[h2] at h;cases r with
   |df f WW=>
    cases h3:endsAt (bh rs) rs.length s' with
    |none=>rw[h3] at h;cases h
    |some e=>
     rw[h3] at h;dsimp only at h;cases h4:rs[e]? with
     |none=>rw[h4] at h;cases h
     |some r=>
      rw[h4] at h;cases r with
      |give o'=>cases h;calc#[f,e,9,h2,h3,h4]
      |_=>cases h
   |_=>cases h
def QQ(B:Bl rs){s:Nat}{f:Str}(hs:rs[s]?\.df f ps):∃e o,endsAt 23 5 s\e/\rs[e]?\.give o/\s<e/\∀m,s<=m->m<e->∀o,rs[m]?≠some (.give o):=by
 let hsl:=(c7.mp hs).1;let Bi:(bh rs s).op=true:=by rw[c_ hs];rfl
 let d0:dp (bh rs) s=0:=by unfold dp;rw[B.df hs];rfl
 let(e,h1,h2,h3,h4,h5):=end_is B.W hsl Bi;let he:endsAt (bh rs) rs.length s\e:=by unfold endsAt;rw[ι Bi];exact h1
 let tR:=(qd B.W h3 he hsl).1;let NQ:rs[e]?\rs[e]:=eY h3;let hd:=rm B.W h3 tR;let hg:∃o,rs[e]=.give o:=by
  rw[c_ NQ] at tR;generalize rs[e]=r at NQ tR;cases r with
  |give o=>calc#[o,9]
  |fin=>have:=(B.fin NQ).1;lia
  |_=>cases tR
 let(o,ho):=hg;rw[ho] at NQ;show#[e,o,he,NQ,h2,λm a b o' hm=>?_];by_cases z:m=s;subst z;rw[hs] at hm;cases hm;let Bh:m<rs.length:=by lia
 have:=rm B.W Bh (by rw[c_ hm];rfl);let g:=B.give hm;let n:=h5 m () b;unfold dp at *
 lia
def DO(B:Bl rs){g:Str}(hi:rs[i]?\.df g ps):∃a,fnOf rs g\a:=by let(j,hj):=uY hi 5 (c7.mp hi).1;let(_,qs,hq):=zh 5 hj;let(e,o,h1,h2,_):=QQ B hq;show#[(j,qs,o),?_];unfold fnOf;erw[hj,hq,h1,h2]
end MK
namespace VT
open PySem PySem.Spec PyProof.Rows L2
theorem gw{α:Type}{f u:α->T}{h:FG}{fe:FE}{ρ:En}:∀{xs:List α}{Q:Λ->Prop},(∀x∈xs,∀r:T->Prop,r (u x)->h (f x) ρ λρ2=>fe ρ2 r)->Q (xs.map u)->cU h JB fe ρ (xs.map f) Q
 |[],Q,_,hq=>hq
 |x::xs,Q,step,hq=>by erw[kn,cU];calc step x iz (λy=>cU h JB fe ρ (xs.map f) λus=>Q (y::us)) (gw (Q:=λus=>Q (u x::us)) (λy hy=>step y (iB _ hy)) hq)
def Ad{lo:Int}{u:Nat->T}{h:FG}{Q:Λ->Prop}(step:∀i<n,∀r:T->Prop,r (u i)->h (.int (lo+(i:Int))) ρ λρ2=>fe ρ2 r)(hq:Q ((List.range n).map u)):cU h JB fe ρ (rangeT lo n) Q :=
 gw (f:=λi:Nat=>T.int (lo+(i:Int))) (u:=u) (λi hi=>step i (Bf.mp hi)) hq
theorem gx{α:Type}{f u:α->T}{p:α->Bool}{h:FG}{fc:FB}{fe:FE}{ρ:En}:∀{xs:List α}{Q:Λ->Prop},(∀x∈xs,∀r s:Prop,(if p x=true then ∀k:T->Prop,(k (u x)->r)->r else s)->True)->(∀x∈xs,∀(k:T->Prop)(s:Prop),(if p x=true then k (u x) else s)->h (f x) ρ λρ2=>fc ρ2 λb=>if b=true then fe ρ2 k else s)->Q ((xs.filter p).map u)->cU h fc fe ρ (xs.map f) Q
 |[],Q,_,_,hq=>hq
 |x::xs,Q,t0,step,hq=>by erw[kn,cU];show step x iz _ _ ?_;by_cases hp:p x=true;rw[ι hp];rw[YG hp] at hq;calc gx (Q:=λus=>Q (u x::us)) (λ_ _ _ _ _=>trivial) (λy hy=>step y (iB _ hy)) hq;rw[θ hp];rw[YH hp] at hq;calc gx (λ_ _ _ _ _=>trivial) (λy hy=>step y (iB _ hy)) hq
end VT
namespace iX
open PySem L2 VT Gen K5 Lay BS Iq MK
open PySem.Builtin (bitOr bitAnd)
def top(i:Nat):Stmt:=PySem.Challenge.pw_slicewise_k44_slices_of_several_sets.main.body.getD i (.Pass #[0,0,0,0])
abbrev LW:Stmt:=top 2
abbrev oC:Stmt:=top 03
abbrev lQ:Stmt:=top 13
abbrev sf:Stmt:=top 35
abbrev oE:Stmt:=top 037
abbrev xG:Stmt:=top 038
abbrev xH:Stmt:=top 039
abbrev iY:Stmt:=top 40
abbrev iZ:Stmt:=top 41
abbrev sg:Stmt:=inClass (top 34) 0
structure MgP(mg:qae):Prop where
 enumerate:mg "enumerate"=none
 sorted:mg "sorted"=none
 range:mg "range"=none
 zip:mg "zip"=none
structure StC(K:qaf)(C:Addr):Prop where
 cl:Ic K C
 xI:cN K C "names"
 qo:cN K C "cells"
def bW(h:n<=1000):n<=sizeLine:=Gen.small h
def so:bootBuiltins "sorted"\.builtin "sorted":=by decide +kernel
abbrev fK(l:qao):Λ:=l.map λ(k:Nat)=>T.int (k:Int)
def jL(ts:Λ)(q:qam):Prop:=∃(x:Int)(k:Nat),ts=[.int x,.int (k:Int)]/\q (.vw (.bl (ib x k)))
def iw(ts:Λ)(q:qam):Prop:=∃x:Int,ts=[.int x]/\Builtin.Int.intBits x<=64/\q (.fr (.lst (fK (mem x))))
def LX:T->Str
 |.str x=>if yR.k_ x=true then x else "#"
 |_=>"#"
def xJ(ts:Λ)(q:qam):Prop:=∃t,ts=[t]/\Nm.kD t/\q (.vw (.str (LX t)))
def S8(C:Addr)(ts:Λ)(q:T->Prop):Prop:=∃t1 t2,ts=[t1,t2]/\q (.ins C fN [t1,t2])
def sr(CS a1 a2:Addr)(E F:List Ent):T:=.ins CS fN [.pin a1 479,.pin a2 (.dt (eQ F) (eO F))]
def S9(CS:Addr)(ts:Λ)(q:qam):Prop:=∃(a1 a2:Addr)(E F:List Ent)(x:Int)(c:Str),ts=[sr CS a1 a2 E F,.int x,.str c]/\Builtin.Int.intBits x<=64/\q (.vw (.int (rdC F x c)))
def Yw:Rw->Prop
 |.get _ _ k=>Nm.kD (B7 k)
 |.set _ k _=>Nm.kD (B7 k)
 |_=>True
def clR(rs:F2):Rw->Prop
 |.call _ g as=>as.length<=04/\∃a,fnOf rs g\a
 |_=>True
def wN(a1:Addr)(E:List Ent)(p:(Int×Str)×Int):T:=.tup [.pin a1 479,.kt (kK p.1),.int p.2]
def LY(C:Addr)(ts:Λ)(q:qam):Prop:=∃(rs:F2)(a1:Addr)(E:List Ent)(i:Nat)(x g:Str)(as:List nJ)(h s:Nat)(ps:χ)(o:nJ),ts=[c5 C rs,.pin a1 479,.int (i:Int)]/\rs[i]?\.call x g as/\as.length<=04/\gG 23 i\h/\fnOf rs g\(s,ps,o)/\q (.fr (.lst (wN a1 E (nk h x,g_ E s o)::(ps.zip as).map λz=>wN a1 E (nk s z.1,g_ E h z.2))))
def CI(C CS:Addr)(ts:Λ)(q:qam):Prop:=∃(rs:F2)(a1 a2:Addr)(E F:List Ent)(i:Nat)(r:Rw)(h:Nat),ts=[c5 C rs,sr CS a1 a2 E F,.int (i:Int)]/\rs[i]?\r/\clR rs r/\Yw r/\gG 23 i\h/\i<=1000/\(∀k,Builtin.Int.intBits (eC E k)<=64)/\q (.fr (.lst (((CG rs i h r).flatMap (wM E F)).map (wT a1 a2 E F))))
def Ir(E:List Ent):List Ent:=E.filter λe=>!decide (e.2=0)
def Ae{f:α->β}:∀{l:List α}{zs:List β},zs.Perm (l.map f)->∃bs:List α,bs.Perm l/\zs=bs.map f:=by
 intro l zs p;generalize e:l.map f=m at p;induction p generalizing l with
 |nil=>calc#[[],by cases l<;>simp_all,9]
 |cons x _ ih=>
  cases l with
  |nil=>cases e
  |cons a l=>cases e;let(bs,h,rfl):=ih 9;calc#[a::bs,h.cons a,9]
 |swap x y l'=>
  cases l with
  |nil=>cases e
  |cons a l=>cases l with
   |nil=>cases e
   |cons b l=>cases e;calc#[b::a::l,.swap _ _ _,9]
 |trans _ _ ih1 ih2=>let(bs,h1,rfl):=ih2 e;let(cs,h2,rfl):=ih1 9;calc#[cs,h2.trans h1,9]
def ER(ts:Λ)(q:qam):Prop:=∃(E:List Ent)(o:Obj),ts=[.df o (eQ E) (eO E)]/\E.length<=100000/\∀bs:List Ent,bs.Perm (Ir E)->q (.fr (.lst (bs.map Cr)))
def aed(C:Addr)(q:qam):FS:=λd ρ=>∃(rs:F2)(a1:Addr)(E:List Ent)(i:Nat)(x g:Str)(as:List nJ)(h s:Nat)(ps:χ)(o:nJ)(f:Str),ρ=[aP (c5 C rs),aP (.pin a1 479),aP (.int (i:Int)),aP (aZ (.call x g as)),aP (.int (h:Int)),aP (.int (s:Int)),aP (mD o),some (.lst [wN a1 E (nk h x,g_ E s o)],true),none,none] /\
 rs[s]?\.df f ps/\as.length<=04/\q (.fr (.lst (wN a1 E (nk h x,g_ E s o)::(ps.zip as).map λz=>wN a1 E (nk s z.1,g_ E h z.2))))/\∀ρ r,q r->d.rt ρ r
def zip_map(f:α->T)(g:β->T)(l:List α)(m:List β):y7 (l.map f) (m.map g)=(l.zip m).map λz=>.tup [f z.1,g z.2]:=by unfold y7;rw[List.zipWith_map,List.zip,List.map_zipWith]
def WX(x:Int)(k:Nat):decide (bitAnd (x / 2 ^ ((k:Int)).toNat) 1=1)=ib x k:=by rw[i9,Cz];cases ib x k<;>decide
def WY(x:Int):((rangeT 0 (Builtin.Int.intBits x)).filter λt=>match t with | .int i=>ib x i.toNat|_=>false).map (λt=>t)=fK (mem x):=by
 unfold rangeT mem;rw[List.map_id',List.filter_map];let e:((λt:T=>match t with | .int i=>ib x i.toNat|_=>false) ∘ λ(i:Nat)=>T.int (0+i))=ib x:=by funext i;change ib x (0+(i:Int)).toNat=ib x i;rw[H_,i9]
 rw[e];show IB λi _=>?_;rw[H_]
def CJ(k:Ky):LX (B7 k)=eV k:=by unfold eV LX;cases B7 k<;>rfl
section
variable{dB:Addr}
abbrev aee:χ:=qaA
def WZ:az aee qaA (ar LW):=457
def W0(D:Df K mg "has" LW qaA f fd):bP P w K mg base "has" qaA 1 (bQ K 2 jL):=by show D.fj (gf D.F WZ 9 λbM A outer s H E Ox hr ts q hG=>?_);let hu:=bH.dW hr;show#[_,(aq (aA (Ψ (DX hu (ν (j2 (ν (Vd 37 109)) 4)) 4)))),λ_=>?_];let(x,k,rfl,hq):=hG;show#[by omega,?_];change q (.vw (.bl (decide (bitAnd (x / 2 ^ ((k:Int)).toNat) 1=1))));rw[WX];calc hq
abbrev vn:χ:=qaB
def CK:az vn qaB (ar oC):=457
def uq:(vn++(["row"]:χ)).Nodup:=by decide +kernel
def CM(D:Df K mg "members" oC qaB f fd)(M:MgP mg)(Af:bP P w K mg base "has" qaA 1 (bQ K 2 jL)):bP P w K mg base "members" qaB 2 (bQ K 1 iw):=by show D.fj (gf D.F CK 9 λbM A outer s H E Ox hr ts q hG=>?_);let np:∀{i:Nat},aY #[H,[],Ox] i:=gW;show#[_,(aq (aA (Ψ (eI 9 19 (cX 19 M.range (ν (G2 37))) (λ_ _ _ _ _ _=>(aM (i:=1) uq 9 7 np)) (λ_ _ _ _ _ _=>(j5 (fP (aw Af hr 238)))) (λ_ _ _ _ _ _=>171))))),λ_=>?_];let(x,rfl,hb,hq):=hG;show#[9,by omega,by omega,?_,?_];rw[iM];calc bW 70;show ie (λt=>match t with | .int i=>ib x i.toNat|_=>false) (λt=>t) (λt ht k r h=>?_) ?_;let(i,hi):=TY.mp ht;let(_,rfl):=lz hi;let e:0+i=(i:Int):=H_ _;rw[e] at h ⊢;calc#[9,x,i,9,h];change q (.fr (.lst (((rangeT 0 (Builtin.Int.intBits x)).filter λt=>match t with | .int i=>ib x i.toNat|_=>false).map (λt=>t))));rw[WY];calc hq
abbrev CN:χ:=["key"]
def Ag:az CN ["key"] (ar lQ):=457
def Ah(D:Df K mg "class_of" lQ ["key"] f fd)(lT:bP P w K mg base "is_field" qaz 2 (bQ K 1 Nm.Cd)):bP P w K mg base "class_of" ["key"] 03 (bQ K 1 xJ):=by
 show D.fj (gf D.F Ag 9 λbM A outer s H E Ox hr ts q hG=>#[_,(aq (aA (Ψ (Jm (fP (aw lT hr (aa 489 ak))) (VE.vp 489) aC)))),λ_=>?_]);let(t,rfl,ht,hq):=hG;show#[9,t,9,ht,?_];obtain⟨x,rfl,_⟩|⟨i,rfl⟩:=ht
 let hq:q (.vw (.str (if yR.k_ x=true then x else "#"))):=hq;change if yR.k_ x=true then _ else _
 by_cases z:yR.k_ x=true;rw[ι z] at hq ⊢;calc hq;rw[θ z] at hq ⊢;calc hq;calc hq
abbrev W2:χ:=qaD
def QR:az W2 qaD (ar sg):=457
def QS(D:Dc K mg "Sets" "Sets.__init__" sg qaD dB f fd)(M:StC K dB):zF P w K mg base "Sets" dB qaD 1 2 (S8 dB):=by
 show D.fj (fnI D.F QR 9 λbM A outer s H E as Ox hr us q hl hG=>?_);let dC:=M;show#[_,(af (fQ 0 dC.cl dC.xI 171)
  (aq (fQ 0 dC.cl dC.qo 514))),?_]
 let(t1,t2,rfl,hq):=hG;calc#[9,by decide,9,by change 1<1000;decide,hq]
abbrev xK:χ:=["sets","rows","kind","told","row"]
def kW:az xK qaE (ar iY):=457
def ur(D:Df K mg "read_cells" iY qaE f fd)(M:StC K dB)(d_:bP P w K mg base "members" qaB 2 (bQ K 1 iw)):bP P w K mg base "read_cells" qaE 03 (bQ K 03 (S9 dB)):=by
 show D.fj (gf D.F kW 9 λbM A outer s H E Ox hr ts q hG=>?_);let nd:=kW.nd;let hu:=bH.dW hr;let np:∀{i:Nat},aY #[H,[],Ox] i:=gW;let dC:=M;let yr:=va hu;show#[_,(af (aJ (i:=03) nd 9 7 (Ψ ag) np)
  (af (cQ nH 9 (eG (ω (aw d_ hr 57))) (aM (i:=04) nd 9 7 np)
   (aq (lq (i:=03) nd 9 7 (ν (jN yr (ν (aQ dC.cl dC.qo 37)) (ω (dJ (aa 500 530))) (ω ag) #[9,9,9,9])) k7 gH np)))
  (aq (aA (Ψ (VE.vp (ah 03))))))),λ_=>?_]
 let(a1,a2,E,F,x,c,rfl,hb,hq):=hG;show#[9,x,9,hb,eJ (λn ρ=>∃v b4,ρ=[aP (sr dB a1 a2 E F),aP (.int x),aP (.str c),aP (.int v),b4]/\v=((mem x).take n).foldl (λt (j:Nat)=>bitOr t (eC F (j,c))) 0) #[_,none,9,9] ?_ ?_];rintro n j ρ hj ⟨v,b4,rfl,hv⟩;show#[9,_,9,bW 6,?_];change O_ (.int v) ((eB (eQ F) (eO F) (kK (j,c))).getD (.int 0)) (λr=>∃v b4,[aP (sr dB a1 a2 E F),aP (.int x),aP (.str c),aP r.t,aP (.int j)]=[aP (sr dB a1 a2 E F),aP (.int x),aP (.str c),aP (.int v),b4]/\v=((mem x).take (n+1)).foldl (λt (j:Nat)=>bitOr t (eC F (j,c))) 0);rw[kU];show#[_,_,9,?_];rw[T2,hj,RW,<- hv];rfl;rintro ρ ⟨_,b4,rfl,rfl⟩;rw[NZ];calc hq
abbrev vo:χ:=["held"]
def CO:az vo ["held"] (ar oE):=457
def kX:(vo++(["key","told"]:χ)).Nodup:=by decide +kernel
def CP(D:Df K mg "list_of" oE ["held"] f fd)(M:MgP mg):bP P w K mg base "list_of" ["held"] 1 (bQ K 1 ER):=by
 show D.fj (gf D.F CO 9 λbM A outer s H E Ox hr ts q hG=>?_);let hu:=bH.dW hr;let np:∀{i:Nat},aY #[H,[],Ox] i:=gW;show#[_,(aq (aA (Ψ (aS (TP.mZ false) (TP.o9 false) 19 M.sorted so (aO (ν (eI 9 19 (z0 489) (λ_ _ _ _ _ _=>(e_ (n:=2) 9 (bq (aM (i:=1) kX 9 7 np) (bq (aM (i:=2) kX 9 7 np) dI)))) (λ_ _ _ _ _ _=>(j5 (h_ hu 124 4))) (λ_ _ _ _ _ _=>(ω (bB (aa (ω (ay 109 4)) (aa (ω (ay 109 4)) 530))))))) aX))))),λ_=>?_];let(E,o,rfl,hlen,hq):=hG;let ez:((eQ E).zip (eO E)).map Wz=E.map λe=>.tup [ktT (kK e.1),.int e.2]:=by unfold eQ eO;rw[List.zip_map',yu];rfl
 show#[9,by unfold eQ eO;rw[bS,bS],?_];rw[ez];show#[by rw[bS,π];omega,gx (u:=Cr) (p:=λe=>!decide (e.2=0)) (λ_ _ _ _ _=>trivial) (λe he k s hk=>?_) ?_];show#[9,9,?_];change if (!decide (e.2=0))=true then _ else _
 by_cases z:(!decide (e.2=0))=true;rw[ι z] at hk ⊢;calc#[_,ai 9,_,ai 9,bW 6,hk];rw[θ z] at hk ⊢;calc hk;let hl:=RQ (λe:Ent=>!decide (e.2=0)) E;show#[_,9,by rw[bS];omega,λt ht=>?_,λzs p=>?_];let(e,_,rfl):=k5.mp ht;calc#[_,_,_,9,_,9];let(bs,p1,rfl):=Ae p;calc hq bs p1
abbrev xM:χ:=["layout","names","place","row","home","start","given","told","name","operand"]
def kY:az xM qaF (ar iZ):=457
def uu(D:Df K mg "call_wants" iZ qaF f fd)(M:MgP mg)(M1:ug K au):bP P w K mg base "call_wants" qaF 1 (bQ K 03 (LY au)):=by
 show D.fj (gf D.F kY 9 λbM A outer s H E Ox hr ts q hG=>?_);let nd:=kY.nd;let hu:=bH.dW hr;let np:∀{i:Nat},aY #[H,[],Ox] i:=gW;let aj:=M1;let yr:=va hu;show#[_,(af (aJ (i:=03) nd 9 7 (Ψ (ay 81 124)) np)
  (af (aJ (i:=04) nd 9 7 (Ψ (ay 511 124)) np)
  (af (aJ (i:=05) nd 9 7 (Ψ (Kz yr (ν (aQ 486 aj.rE 37)) 454)) np)
  (af (aJ (i:=06) nd 9 7 (Ψ (ay (ν (ay 81 (ν (ay 510 (ae 05))))) 4)) np)
  (af (cP (i:=07) nd 9 7 (Ψ (bK (aa (ω (bB (aa 171 (aa 43 (aa (ω (jN yr 109 (ω (dJ (aa (ah 05) (aa (ah 06) ak)))) (ω ag) #[9,9,9,9])) ak))))) ak))) np)
  (kx.weak (u:=(aed au q)) (af (cQ nH 9 (Vx 19 M.zip (ω (ay (ν (ay 81 (ae 05))) 4)) 79) (e_ (n:=2) 9 (bq (aM (i:=08) nd 9 7 np) (bq (aM (i:=09) nd 9 7 np) dI)))
   (aq (bA (dy 07 qu qv bo ba (aa (ω (bB (aa 171 (aa (ω (dJ (aa (ah 05) (aa (ah 08) ak)))) (aa (ω (jN yr 109 (ω (dJ (aa 500 (aa (ah 09) ak)))) (ω ag) #[9,9,9,9])) ak))))) ak)))))
  (aq (aA (eF 07 np)))) ?w1)))))),λ_=>?main]
 case w1=>
  rintro d ρ ⟨rs,a1,E,i,x,g,as,h,st,ps,o,f',rfl,h2,ha,hq,fin⟩;show#[9,_,9,_,dc h2,_,aaW,_,aaX,?_];change oZ (y7 (ps.map T.str) (as.map mD)) _ _ _ _;rw[zip_map];show eJ (λn ρ=>∃ts b8 b9,ρ=[aP (c5 au rs),aP (.pin a1 479),aP (.int (i:Int)),aP (aZ (.call x g as)),aP (.int (h:Int)),aP (.int (st:Int)),aP (mD o),some (.lst ts,true),b8,b9]/\ts=wN a1 E (nk h x,g_ E st o)::((ps.zip as).take n).map λz=>wN a1 E (nk st z.1,g_ E h z.2)) #[_,none,none,9,9] ?_ ?_;rintro n z ρ hz ⟨ts,b8,b9,rfl,ets⟩;let hn:=(c7.mp hz).1;let hs:ts.length<sizeLine:=by rw[ets,vJ,bS,NW,π];rw[NI] at hn;omega
  let es:ts++[wN a1 E (nk st z.1,g_ E h z.2)]=wN a1 E (nk h x,g_ E st o)::((ps.zip as).take (n+1)).map λz=>wN a1 E (nk st z.1,g_ E h z.2):=by rw[ets,T2,hz,nG];rfl
  let(z1,z2):=z;let fin2:∀v:T,v=.int (g_ E h z2)->∃j4 b8 b9,[aP (c5 au rs),aP (T.pin a1 (.dt (eQ E) (eO E))),aP (.int (i:Int)),aP (aZ (.call x g as)),aP (.int (h:Int)),aP (.int (st:Int)),aP (mD o),some (.lst (ts++[.tup [.pin a1 (.dt (eQ E) (eO E)),.kt (kK (nk st z1)),v]]),true),aP (.str z1),aP (mD z2)]=[aP (c5 au rs),aP (.pin a1 (.dt (eQ E) (eO E))),aP (.int (i:Int)),aP (aZ (.call x g as)),aP (.int (h:Int)),aP (.int (st:Int)),aP (mD o),some (.lst j4,true),b8,b9]/\j4=wN a1 E (nk h x,g_ E st o)::((ps.zip as).take (n+1)).map λz=>wN a1 E (nk st z.1,g_ E h z.2):=λv e=>by subst e;exact#[_,_,_,9,es]
  show#[9,9,bW 6,?_];cases z2 with
  |nm y=>calc#[bW 6,bW 6,hs,fin2 _ (kU ((h:Int),y) E)]
  |nu m=>exact#[bW 6,bW 6,hs,fin2 _ (by rw[m5];rfl)]
  rintro ρ ⟨ts,b8,b9,rfl,rfl⟩;rw[NZ];exact fin _ _ hq
 case main=>
  let(rs,a1,E,i,x,g,as,h,st,ps,o,rfl,bV,ha,hh,hf,hq):=hG;let(f',e,h1,h2,h3,h4):=xF hf;let Wd:i<rs.length:=(c7.mp bV).1;let yC:st<rs.length:=(c7.mp h2).1;let hdg:g6 ((bf rs rs.length).map λp=>(Sum.inr p.1:Key)) ((bf rs rs.length).map λp=>T.int (p.2:Int)) (Sum.inr g)\.int (st:Int):=by rw[Cf,h1];rfl
  show#[9,_,9,_,dc bV,9,_,9,.int (h:Int),(lC Wd).trans (by rw[hh];rfl),9,_,9,_,aaW,_,hdg,9,_,9,9,_,9,.int (e:Int),(qh yC).trans (by rw[h3];rfl),_,dc h4,_,aaV,_,aaV,bW 6,?_];cases o with
  |nm y=>show#[bW 6,bW 6,bW 6,?_];change aed au q _ [aP (c5 au rs),aP (.pin a1 479),aP (.int (i:Int)),aP (aZ (.call x g as)),aP (.int (h:Int)),aP (.int (st:Int)),aP (mD (.nm y)),some (.lst [.tup [.pin a1 479,.kt (kK (nk h x)),(eB (eQ E) (eO E) (kK (nk st y))).getD (.int 0)]],true),none,none];rw[kU];calc#[rs,a1,E,i,x,g,as,h,st,ps,.nm y,f',9,h2,ha,hq,λ_ _ h=>h]
  |nu n=>show#[bW 6,bW 6,bW 6,?_];rw[m5];calc#[rs,a1,E,i,x,g,as,h,st,ps,.nu n,f',9,h2,ha,hq,λ_ _ h=>h]
abbrev ES:χ:=["layout","sets","place","row","home","names","given"]
def Ai:az ES qaG (ar xH):=457
def Aj:(ES++(["one"]:χ)).Nodup:=by decide +kernel
def LZ(D:Df K mg "wants" xH qaG f fd)(M:ug K au)(M1:StC K dB)(xN:bP P w K mg base "read_cells" qaE 03 (bQ K 03 (S9 dB)))(gy:bP P w K mg base "class_of" ["key"] 03 (bQ K 1 xJ))(d_:bP P w K mg base "members" qaB 2 (bQ K 1 iw))(xO:bP P w K mg base "call_wants" qaF 1 (bQ K 03 (LY au))):bP P w K mg base "wants" qaG 04 (bQ K 03 (CI au dB)):=by
 show D.fj (gf D.F Ai 9 λbM A outer s H E Ox hr ts q hG=>?_);let nd:=Ai.nd;let hu:=bH.dW hr;let np:∀{i:Nat},aY #[H,[],Ox] i:=gW;let aj:=M;let dC:=M1;let yr:=va hu;show#[_,(af (aJ (i:=03) nd 9 95 (Ψ (ay 81 124)) np)
  (af (aJ (i:=04) nd 9 7 (Ψ (ay 511 124)) np)
  (af (aJ (i:=05) nd 9 7 (Ψ (aQ dC.cl dC.xI 109)) np)
  (af (bb 99
   (aq (aA (Ψ (bK (aa (ω (bB (aa (ah 05) (aa 43 (aa (ω (qR 4 124)) ak))))) ak)))))
   aE)
  (af (bb 99
   (aq (aA (Ψ (bK (aa (ω (bB (aa (ah 05) (aa 43 (aa (ω (jN yr (ae 05) 43 (ω ag) #[9,9,9,9])) ak))))) ak)))))
   aE)
  (af (bb 99
   (aq (aA (Ψ (bK (aa (ω (bB (aa (ah 05) (aa 43 (aa (ω (aw xN hr (aa 171 (aa (ω (jN yr (ae 05) 43 (ω ag) #[9,9,9,9])) (aa (ω (aw gy hr 75)) ak))))) ak))))) ak)))))
   aE)
  (af (bb 99
   (af (aJ (i:=06) nd 9 95 (Ψ (jN yr (ae 05) 43 (ω ag) #[9,9,9,9])) np)
   (aq (aA (Ψ (eI (ts:=["one"]) 9 19 (eG (ω (aw d_ hr (aa (ω (jN yr (ae 05) 43 (ω ag) #[9,9,9,9])) ak)))) (λ_ _ _ _ _ _=>(aM (i:=07) Aj 9 7 np)) (λ_ _ _ _ _ _=>iK) (λ_ _ _ _ _ _=>(ω (bB (aa (ω (aQ dC.cl dC.qo 109)) (aa (ω (dJ (aa (ah 07) (aa (ω (aw gy hr 75)) ak)))) (aa (ah 06) ak)))))))))))
   aE)
  (af (bb 99
   (aq (aA (Ψ (aw xO hr (aa 489 (aa (ah 05) 530))))))
   aE)
  (aq (aA 497)))))))))),λ_=>?_]
 let(rs,a1,a2,E,F,i,r,h,rfl,bV,bZ,Wa,hh,hi,hbt,hq):=hG;let Wd:i<rs.length:=(c7.mp bV).1;show#[9,_,9,_,dc bV,9,_,9,.int (h:Int),(lC Wd).trans (by rw[hh];rfl),9,_,9,?_];let sh:(0:Int)<=(i:Int)/\(i:Int)<=1000000/\(1:Int).natAbs<2 ^ 64:=#[by omega,by omega,by decide];let hq0:=hq;let hq:=λz=>by rw[w_eq rs E F i h z] at hq;exact hq
 cases r with
 |new x=>
  replace hq:=hq 9
  calc#[_,aaU,_,aaV,bW 6,sh,bW 6,bW 6,hq]
 |put x o=>
  replace hq:=hq 9
  show#[_,aaU,_,aaU,_,aaV,bW 6,_,aaW,?_];cases o with
  |nm y=>show#[bW 6,bW 6,bW 6,?_];change q (.fr (.lst [.tup [.pin a1 479,.kt (kK ((h:Int),x)),(eB (eQ E) (eO E) (kK ((h:Int),y))).getD (.int 0)]]));rw[kU];calc hq
  |nu n=>show#[bW 6,bW 6,bW 6,?_];rw[m5];calc hq
 |get x y k=>
  replace hq:=hq 9
  show#[_,aaU,_,aaU,_,aaU,_,aaV,bW 6,?_];show#[_,aaW,bW 6,_,aaX,9,_,9,Wa,9,a1,a2,E,F,eC E ((h:Int),y),eV k,?_,hbt _,bW 6,bW 6,hq];change [sr dB a1 a2 E F,(eB (eQ E) (eO E) (kK ((h:Int),y))).getD (.int 0),.str (LX (B7 k))]=_;rw[kU,CJ]
 |set y k a=>
  replace hq:=hq 9
  show#[_,aaU,_,aaU,_,aaU,_,aaU,_,aaX,?_];let fin:∀g:T,g=.int (g_ E h a)->cU (hName 07) JB (fT (ZW (gj (fT (adA dB "cells" (jt 1))) (gj (fT (S6 (gj (lj 07) (gj (fT (qX 1 (gj (fT (f2 (jt 03) (fT (fC (.int 2))) Z0)) t9) xJ)) t9)))) (gj (lj 06) t9))))) [aP (c5 au rs),aP (sr dB a1 a2 E F),aP (.int (i:Int)),aP (aZ (.set y k a)),aP (.int (h:Int)),aP (.pin a1 (.dt (eQ E) (eO E))),aP g,none] (fK (mem (eC E ((h:Int),y)))) λus=>q (.fr (.lst us)):=λg eg=>by subst eg;show gw (f:=λ(j:Nat)=>T.int (j:Int)) (λj hj r hr=>?_) (by let Sx:=hq;unfold wOf at Sx;rw[yu] at Sx;calc Sx);show#[9,_,9,_,aaW,9,_,9,Wa,?_];show#[bW 6,bW 6,?_];change r (.tup [.pin a2 (.dt (eQ F) (eO F)),.kt [.inl (j:Int),.inr (LX (B7 k))],.int (g_ E h a)]);rw[CJ];exact hr
  let Bh:(fK (mem (eC E ((h:Int),y)))).length<=sizeLine:=by rw[bS];let h1:=RQ (ib (eC E ((h:Int),y))) (List.range (Builtin.Int.intBits (eC E ((h:Int),y))));rw[pJ] at h1;have:=hbt ((h:Int),y);exact bW (by change (List.filter _ _).length<=_;omega)
  let e1:[(eB (eQ E) (eO E) (kK ((h:Int),y))).getD (.int 0)]=[.int (eC E ((h:Int),y))]:=by rw[kU]
  cases a with
  |nm z=>calc#[bW 6,9,_,aaV,bW 6,9,eC E ((h:Int),y),e1,hbt _,Bh,fin _ (kU ((h:Int),z) E)]
  |nu n=>calc#[bW 6,9,_,aaV,bW 6,9,eC E ((h:Int),y),e1,hbt _,Bh,fin ((eB (eQ E) (eO E) [.inl (h:Int),.inl n]).getD (.int 0)) (by rw[m5];rfl)]
 |call x g as=>let(ha,(st,ps,o),hf):=bZ;rw[w_call hf] at hq0;show#[_,aaU,_,aaU,_,aaU,_,aaU,_,aaU,9,rs,a1,E,i,x,g,as,h,st,ps,o,9,bV,ha,hh,hf,?_];rw[kn,yu] at hq0;calc hq0
 |_=>calc#[_,aaU,_,aaU,_,aaU,_,aaU,_,aaU,fB _,hq 9]
end
end iX
namespace BS
open PySem PySem.Builtin
theorem ET{p:Nat}:∀n,cnt (2 ^ p) n=if p<n then 1 else 0
 |0=>rfl
 |n+1=>by
  let ih:=ET (p:=p) n;erw[cnt,ih,xw];by_cases e:n=p;subst e;simp;by_cases h:p<n;simp[h,e,Be h];have:¬ p<n+1:=by lia
  simp[h,e,this]
def QT{b:Int}{p:Nat}(h:ib b p=false)(hp:p<n):cnt (bitOr b (2 ^ p)) n=cnt b n+1:=by
 rw[CD (λk h1 h2=>by rw[xw] at h2;have:=Θ h2;subst this;rw[h] at h1;cases h1),ET,ι hp]
end BS
namespace Lay
open PySem L2 VT Gen K5 BS
open PySem.Builtin (bitOr)
def Iu(F:Nat->qao)(mk:Nat->Bool):Nat->Int->qao->Int
 |0,b,_=>b
 |f+1,b,t=>match t.getLast? with
  |none=>b
  |some p=>if ib b p=true then Iu F mk f b t.dropLast else Iu F mk f (bitOr b (2 ^ p)) (if mk p=true then t.dropLast else t.dropLast++F p)
def Yx(n:Nat)(b:Int)(t:qao):Nat:=03 * (n-cnt b n)+t.length
theorem QU(F:Nat->qao)(mk:Nat->Bool)(b:Int):∀f,Iu F mk f b []=b
 |0=>rfl
 |f+1=>rfl
def QV{F:Nat->qao}{mk:Nat->Bool}{f p:Nat}{b:Int}{t:qao}(h:ib b p=true):Iu F mk (f+1) b (t++[p])=Iu F mk f b t:=by erw[Iu,RS,h,aaT,X4]
def QW{F:Nat->qao}{mk:Nat->Bool}{f p:Nat}{b:Int}{t:qao}(h:ib b p=false):Iu F mk (f+1) b (t++[p])=Iu F mk f (bitOr b (2 ^ p)) (if mk p=true then t else t++F p):=by erw[Iu,RS,h,NH,aau,X4]
structure Dg(F:Nat->qao)(mk:Nat->Bool)(n:Nat)(R:Int)(m:Nat)(b:Int)(t:qao):Prop where
 is:Iu F mk m b t=R
 me:Yx n b t<=m
 lt:∀p∈t,p<n
 nn:0<=b
def Dg.fin{F mk n R m b}(D:Dg F mk n R m b []):b=R:=by rw[<- D.is,QU]
def Dg.pos{F mk n R m b t p}(D:Dg F mk n R m b (t++[p])):∃m',m=m'+1:=by have:=D.me;unfold Yx at this;rw[fU,NF] at this;calc#[m-1,()]
def Dg.has{F mk n R m b t p}(D:Dg F mk n R (m+1) b (t++[p]))(h:ib b p=true):Dg F mk n R m b t :=
 #[by rw[<- D.is,QV h],by have:=D.me;unfold Yx at this ⊢;rw[fU,NF] at this;lia,λq hq=>D.lt q (hX _ hq),D.nn]
def Dg.new{F mk n R m b t p}(D:Dg F mk n R (m+1) b (t++[p]))(h:ib b p=false)(hF:(F p).length<=2/\∀q∈F p,q<n):Dg F mk n R m (bitOr b (2 ^ p)) (if mk p=true then t else t++F p):=by
 let hp:p<n:=D.lt p 6;let hc:=QT h hp;let hle:=oz (bitOr b (2 ^ p)) n;show#[by rw[<- D.is,QW h],?_,?_,S7 D.nn (Int.le_of_lt (two_pos p))];have:=D.me;unfold Yx at this ⊢;rw[fU,NF] at this;rw[hc] at hle ⊢;split
 lia
 rw[fU];lia;intro q hq;split at hq;calc D.lt q (hX _ hq);rcases fO.mp hq with z|z
 calc D.lt q (hX _ z);calc hF.2 q z
def Dg.init{F:Nat->qao}{mk:Nat->Bool}{t:qao}(h:t.length<=2/\∀q∈t,q<n):Dg F mk n (Iu F mk (03 * n+2) 0 t) (03 * n+2) 0 t :=
 #[9,by unfold Yx;lia,h.2,Int.le_refl _]
def Bl.S_(B:Bl rs)(hr:rs[j]?\r):∀x∈Qg rs j r,0<=x/\x<(5:Int):=by
 intro x hx;let hj:=(c7.mp hr).1;let nxt:∀{k:Nat},k<rs.length->st (bh rs) (k+1)≠[]->((k:Int)+1)<(rs.length:Int):=λ{k} hk h=>by
  have:k+1≠5:=λz=>by rw[z] at h;exact h B.W.fin
  lia
 unfold Qg at hx;split at hx;cases hx
 rename_i hg
 let hh:gG (bh rs) j≠none:=λz=>hg (.inl z);let hng:wd r≠"give":=λz=>by cases r<;>first|exact hg 95|exact absurd z (by change ¬ ((_:Str)="give");erw[wd];decide +kernel)
 let h1:st (bh rs) (j+1)≠[]:=λz=>by have:=B.head hr;rw[z,θ hng] at this;exact hh this.symm
 let e1:=nxt hj h1;split at hx
 rename_i hi
 let two:∀{a b:Int},x∈Qe a b->x=a\/x=b:=λ{a b} h=>by
  unfold Qe at h;split at h;calc .inl (fE.mp h);split at h;simpa using h;rcases (by simpa using h:x=b\/x=a) with z|z
  calc .inr z;exact .inl z
 let hno:0<=Qd rs j/\Qd rs j<(rs.length:Int):=by
  unfold Qd zK;rw[hr];cases r with
  |n5 a=>
   let(e,b):=B.Yq hr 95;let tR:=rm B.W b.el (by rw[c_ b.re];rfl);have:=nxt b.el (λz=>by unfold dp at tR;rw[z] at tR;have:=b.de;have:=b.d1;unfold dp at *;simp at tR;lia);rw[b.en];dsimp only
   lia
  |wC a=>
   let(e,b):=B.Yq hr 7;dsimp only;cases hv:Qc rs j with
   |none=>rw[b.en];have:=b.el;dsimp only;lia
   |some y=>
    let(x1,x2,x3):=zJ hv;let x4:=V7 x2;let fY:st (bh rs) (y+1)≠[]:=by rw[fZ (by rw[c_ x4];rfl) (by rw[c_ x4];rfl)];intro z;unfold gF at x3;rw[z] at x3;cases x3
    have:=nxt x1 fY;dsimp only
    lia
  |_=>cases hi
 rcases two hx with z|z
 lia
 rw[z];exact hno
 rename_i hi
 rw[fE] at hx;rw[hx];unfold V9;rw[hr];cases r with
 |pR=>
  let(_,o,a,k1,k2,_):=B.pR hr;let(e,b):=B.Yq k2 7;unfold zK V8;rw[k1];erw[NY];rw[b.en];have:=b.el;dsimp only
  lia
 |fin=>let(_,o,r2,k1,k2,_):=B.fin hr;let ho:=(c7.mp k2).1;unfold V8;rw[k1];erw[NY];rw[k2];cases r2<;>dsimp only<;>lia
 |_=>dsimp only;lia
def Hb(rs:F2)(j:Nat):qao:=match rs[j]? with
 |some r=>(Qg rs j r).map Int.toNat
 |none=>[]
def Bl.W3(B:Bl rs)(hr:rs[j]?\r):(Qg rs j r).map T.int=(Hb rs j).map λk:Nat=>T.int (k:Int):=by unfold Hb;rw[hr];dsimp only;rw[yu];show IB λx hx=>?_;have:=B.S_ hr x hx;change T.int x=T.int ((x.toNat:Nat):Int);rw[Int.toNat_of_nonneg this.1]
def QX(rs:F2)(j:Nat)(r:Rw):(Qg rs j r).length<=2:=by unfold Qg Qe;split;simp;split;split;simp;split<;>simp;simp
def Bl.CQ(B:Bl rs)(j:Nat):(Hb rs j).length<=2/\∀q∈Hb rs j,q<5:=by
 unfold Hb;cases hr:rs[j]? with
 |none=>calc#[by simp,λq hq=>nomatch hq]
 |some r=>
  dsimp only;show#[by rw[bS];calc QX rs j r,λq hq=>?_];let(x,hx,rfl):=k5.mp hq;have:=B.S_ hr x hx
  lia
end Lay
namespace PySem.AutoSeq1
def pZ(l:Addr)(items:Array Value)(n:Nat)(b:Addr)(su:Array Value)(n2:Nat)(sl:Array 474)(hc0:¬(!items.isEmpty && Builtin.List.listTooLong (98+su.size))=true)(hc1:98<=sizeLine)(BC:98+su.size<=sizeLine+1) :
  Meets (Builtin.«list.extend» #[[.ref l,.ref b],[]]) (λ_ R s=>s.heap.get? l=some {cls:=.type "list",dict:=none,data:=.seq items n,slots:=83}/\s.heap.get? b=some {cls:=.type "list",dict:=none,data:=.seq su n2,slots:=sl}/\R (.ok (.ret Value.none)) {s with heap:=s.heap.update l (Obj.mapSeq λx=>x++su),toks:=528}) :=
 .of_wp λprog w A R s h=>by
  let(hp,g,d,tk,os):=s;let(hl,hb,h):=h;let f1:=idx_int;let f2:=sub_tuple_tuple;let f3:=sub_list_list;let f4:=sub_tuple_list;let f5:=sub_list_tuple;;let hz':(items++su).size<=sizeLine+1:=by rw[Array.size_append];exact BC
  wp_walk using (wpAny_updateSeq hl 9 (hz:=hc1) (_hz':=hz')),wpAny_loadPart' hl,wpAny_loadPart' hb;calc#[_,9,h]
end PySem.AutoSeq1
namespace VT
open PySem PySem.Spec PyProof.Rows L2
section
def L0(K:qaf):V->qak->Hp->VK->Prop:=λx vs H Q=>∃l b xs zs,x=.ref l/\vs=[.ref b]/\H l\.lst xs/\f_ K H b zs/\46+zs.length<=sizeLine/\Q .bY (upd H l (.lst (xs++zs)))
def CT:MtM X "list.extend" (L0 X.K):=by
 intro ε s σ H x vs v us Q I rx rv h;let(l,b,xs,zs,rfl,rfl,hH,hB,hz,q):=h;cases rx;let(u,rfl,ru):=rv.one;cases ru;let(z,aR,n,r,hl,e):=I.FW hH;let(kr,r2,(ob,n2,e2,c1,c2,c3),Yg):=I.list hB;let(af2,SS,adN,BJ):=ob;simp only at c1 c2 c3;subst c1 c2 c3;let agL:=r2.length;let kq:aR.toArray.size+kr.toArray.size<=sizeLine:=by rw[iD,iD];lia
 let yJ:¬ (!aR.toArray.isEmpty && Builtin.List.listTooLong (aR.toArray.size+kr.toArray.size))=true:=by rw[qJ kq,YU];exact iC
 show aaI F.slot_list_extend #[_,e,9] F.entry_list_extend (F.args_list_extend_2 _ _)
  (AutoSeq1.pZ l 94 n b kr.toArray n2 BJ yJ (by rw[iD];lia) ()) #[e,e2,?_]
 show#[.bY,_,I.OI (its':=aR++kr) hH e 6 (r.append r2) ?_,9,q];rw[fU]
 lia
end
section
def Ta(k:Nat)(f:FE):FX:=λρ Q=>match ρ[k]? with
 |some (some (.lst ts,true))=>f ρ λr=>match r with
  |.lst us=>25+517<=sizeLine/\Q (ρ.set k (some (.lst (ts++us),true))) (.vw .bY)
  |_=>False
 |_=>False
def QY(k:Nat){f:FE}(he:VE X Z e f)(hN:X.N[k]?\x:=by rfl)(hv:nI 39 x:=by first|calc Or.inl rfl|calc Or.inr 7|calc Or.inr 95)(hd:gD x:=by decide)(fL:qt x:=by decide)(du:attributeBase 31 "extend" 3 (eval 31 3)=eval 31 3:=by rfl)(qI:((backTo bF (starEach [e] 3)).all (λx=>!x.1) && (backToKw bF 499).all (λx=>x.1.isSome)
    && decide (([e]:qap).length+([]:List Keyword).length+(if ([]:List Keyword).isEmpty then 0 else 1)<30))=true:=by rfl)(dw:91=true:=by rfl)(hs:starEach [e] 3=(false,eval e 3)::starEach [] 3:=by rfl)(gi:(backTo bF 460).any (·.1)=false:=by rfl) :
  VX X Z (.Call (.Attribute 31 "extend" apos) [e] [] bF) (Ta k f):=.mk λtm=>
 PE.weak (yI aco PySem.F.slot_list_extend PySem.F.type_list_extend CT 123 (bD (he tm) cV hs) du qI dw hs gi) λσ H Q #[ρ,O,q,I,hf,kk]=>by
  unfold Ta at hf;split at hf
  rename_i ts e0
  let(l,h1,h2,xs,h3,h4):=I.root e0;let ha:l∈av Z O:=hX _ 540;show#[.ref l,h2,.inl #[9,xs,f_.of h3],ρ,O,_,I,hf,λr hr v H1 s1 z=>?_];split at hr;let(hz,hq):=hr;let J:=I.same s1;erw[At] at z;let(b,zs,rfl,hb,aL):=z;show#[l,b,xs,zs,9,9,s1 _ _ h3,hb.sq,by rw[h4.length,aL.length];calc hz,kk _ _ hq O _ _ #[J.wrote e0 h1 #[xs++zs,aK,?_],qO]];calc ((h4.same s1).append aL).wrote ha (s1 _ _ h3) 9;calc hr.elim;calc hf.elim
end
end VT
namespace Nt
open PySem L2 VT Gen K5 Lay BS Iq MK
open Nx (Cn)
open iX (jL)
abbrev sx:Stmt:=top 1
abbrev qp:Stmt:=top 16
abbrev jP:Stmt:=top 031
abbrev sy:Stmt:=top 32
abbrev hJ:Stmt:=top 044
structure SV(K:qaf)(mg:qae):Prop where
 list:mg "list"=none
 len:mg "len"=none
 range:mg "range"=none
 enumerate:mg "enumerate"=none
 NM:∃a,mg "NAME_MAKERS"\.ref a/\∀H,eZ K H a [.str "put",.str "do",.str "new",.str "get",.str "call"]
def bW(h:n<=1000):n<=sizeLine:=Gen.small h
abbrev nT(ks:qao):Λ:=ks.map λk:Nat=>T.int (k:Int)
def Bn(ks:qao):Int:=ks.foldl (λt (k:Nat)=>Builtin.bitOr t (1 * 2 ^ ((k:Int)).toNat)) 0
def cR:Rw->χ
 |.df _ ps=>ps
 |.put x _=>[x]
 |.uc x _ _ _=>[x]
 |.new x=>[x]
 |.get x _ _=>[x]
 |.call x _ _=>[x]
 |_=>[]
def Yy:χ:=["put","do","new","get","call"]
def noW:χ:=["give","set","fail","if","else","while","end","skip"]
def aef:∀x∈Yy,x≠"def":=by decide +kernel
def Tc:∀x∈noW,x≠"def"/\x∉Yy:=by decide +kernel
def mkc(r:Rw):(∃f ps,r=.df f ps)\/(∃x l,aZ r=.tup (.str (wd r)::.str x::l)/\wd r∈Yy/\cR r=[x])\/(cR r=[]/\wd r∈noW):=by
 cases r<;>first
  |calc .inl #[_,_,9]
  |calc .inr (.inl #[_,_,9,by simp[Yy,wd],9])
  |calc .inr (.inr #[9,by simp[noW,wd]])
def mkN(rs:F2)(x:Str)(k:Nat):Bool:=match rs[k]? with
 |some r=>decide (x∈cR r)
 |none=>false
def CU(rs:F2):Λ:=(List.range 5).map λj=>.lst ((Hb rs j).map λk:Nat=>T.int (k:Int))
def L1(h:j<5):h7 (CU rs) (j:Int)\.lst ((Hb rs j).map λk:Nat=>T.int (k:Int)):=ai (by unfold CU;rw[fW,RP h];rfl)
def W4(rs:F2)(x:Str)(j:Nat):Int:=Iu (Hb rs) (mkN rs x) (03 * 5+2) 0 (Hb rs j)
def sA(rs:F2)(i:Nat)(E:List Ent)(xs:χ):List Ent:=xs.foldl (λE x=>eU E ((i:Int),x) (W4 rs x i)) E
def L3(rs:F2)(E:List Ent)(i:Nat):List Ent:=match rs[i]? with
 |some r=>sA rs i E (cR r)
 |none=>E
def fu(rs:F2)(k:Nat):List Ent:=(List.range k).foldl (L3 rs) []
def sC(rs:F2)(k:Nat):fu rs 93=L3 rs (fu rs k) k:=by unfold fu;rw[T5,RW];rfl
def QZ(E:List Ent)(k:Int×Str)(v:Int):(eU E k v).length<=E.length+1:=by unfold eU;split;rw[bS];lia;rw[fU];simp
theorem m8(rs:F2)(i:Nat):∀(xs:χ)(E:List Ent),(sA rs i E xs).length<=E.length+46
 |[],E=>by simp[sA]
 |x::xs,E=>by
  let h:=m8 rs i xs (eU E ((i:Int),x) (W4 rs x i));let g:=QZ E ((i:Int),x) (W4 rs x i);rw[vJ];change (sA rs i (eU E _ _) xs).length<=_
  lia
def EU(ts:Λ)(q:qam):Prop:=∃ks:qao,ts=[.lst (nT ks)]/\(∀k∈ks,k<=1000)/\q (.vw (.int (Bn ks)))
def CV(ts:Λ)(q:qam):Prop:=∃r:Rw,ts=[aZ r]/\q (.fr (.lst ((cR r).map .str)))
def aeg(C:Addr)(ts:Λ)(q:qam):Prop:=∃rs:F2,ts=[c5 C rs]/\Bl rs/\5<=100/\q (.fr (.lst (CU rs)))
def EV(ts:Λ)(q:qam):Prop:=∃(rs:F2)(j:Nat)(x:Str),ts=[.lst 86,.lst (CU rs),.int (j:Int),.str x]/\Bl rs/\5<=100/\j<5/\q (.vw (.int (W4 rs x j)))
def aeh(C:Addr)(ts:Λ)(q:qam):Prop:=∃rs:F2,ts=[c5 C rs]/\Bl rs/\5<=100/\(∀r∈rs,(cR r).length<=10)/\∀o,q (.vw (.df o (eQ (fu rs 5)) (eO (fu rs 5))))
def aei{c:Bool}{A:Prop}(h:c=true)(a:A):if c=true then A else B:=by rw[h];calc a
theorem lU:∀l:χ,mz (l.map T.str)=true
 |[]=>rfl
 |x::l=>by erw[kn,mz,lU l];rfl
section
abbrev L4:χ:=["rows","told","row"]
def vq:az L4 qaB (ar sx):=457
def Hc(D:Df K mg "set_of" sx qaB f fd):bP P w K mg base "set_of" qaB 1 (bQ K 1 EU):=by
 show D.fj (gf D.F vq 9 λbM A outer s H E Ox hr ts q hG=>?_);let nd:=vq.nd;let np:∀{i:Nat},aY #[H,[],Ox] i:=gW;show#[_,(af (aJ (i:=1) nd 9 7 (Ψ ag) np)
  (af (cQ nH 9 (eG 489) (aM (i:=2) nd 9 7 np)
   (aq (lq (i:=1) nd 9 7 (ν (qR 4 124)) k7 gH np)))
  (aq (aA (Ψ (VE.vp 171)))))),λ_=>?_]
 let(ks,rfl,hk,hq):=hG;show eJ (f:=λk:Nat=>T.int (k:Int)) (xs:=ks) (λi ρ=>∃b2 v,ρ=[aP (.lst (nT ks)),aP (.int v),b2]/\v=Bn (ks.take i)) #[none,_,9,9] ?_ ?_;rintro i k ρ hx ⟨b2,_,rfl,rfl⟩;let yp:=hk k (fM hx);show#[#[(),(),by decide],_,_,9,?_];unfold Bn;rw[T2,hx,RW];rfl;rintro ρ ⟨b2,_,rfl,rfl⟩;rw[NZ];calc hq
abbrev EW:χ:=qaC
def Ak:az EW qaC (ar qp):=457
def L5(D:Df K mg "makes" qp qaC f fd)(M:SV K mg):bP P w K mg base "makes" qaC 1 (bQ K 1 CV):=by
 show D.fj (gf D.F Ak 9 λbM A outer s H E Ox hr ts q hG=>?_);let nd:=Ak.nd;let hu:=bH.dW hr;let(ac,mc,V3):=M.NM;let uw:∀{pos},VP (hY iA P w K mg base EW "makes" (ar qp) f bM A outer s H E).vN #[H,[],Ox] (.Name "NAME_MAKERS" pos) (fC (.tup [.str "put",.str "do",.str "new",.str "get",.str "call"])):=iI 19 mc (v:=.ref ac) 9 λH A=>cj (V3 H) (aD.cons cO (aD.cons cO (aD.cons cO 488)));show#[_,(af (bb (bG hu 108 502)
    (aq (aA (Ψ (ic iG lp 19 M.list BZ (aO 108 aX)))))
    aE)
   (aq (aA (Ψ (Jm (uU 108 (ν uw)) (bK (aa (ω 106) ak)) (bK ak)))))),λ_=>?_]
 let(r,rfl,hq):=hG;rcases mkc r with⟨f,ps,rfl⟩|⟨x,l,el,hw,hm⟩|⟨hm,hw⟩
 calc#[_,aaU,_,aaW,hq];rw[hm] at hq;rw[el];show#[_,aaU,cJ (λz=>absurd z (aef _ hw)) (λ_=>#[_,aaU,9,9,?_])];change if mB (.str (wd r)) (Yy.map T.str)=true then _ else _
 rw[gL];calc cJ (λ_=>#[_,aaV,bW 6,hq]) (λz=>absurd hw z);let(l,el):=j7 r;rw[hm] at hq;rw[el];show#[_,aaU,cJ (λz=>absurd z (Tc _ hw).1) (λ_=>#[_,aaU,9,9,?_])];change if mB (.str (wd r)) (Yy.map T.str)=true then _ else _
 rw[gL];calc cJ (λz=>absurd z (Tc _ hw).2) (λ_=>#[fB _,hq])
abbrev pk:χ:=qaH
def m9:az pk qaH (ar jP):=457
def p5:(pk++(["place"]:χ)).Nodup:=by decide +kernel
def xP(D:Df K mg "all_nexts" jP qaH f fd)(M:SV K mg)(M1:ug K au)(Am:bP P w K mg base "next_rows" qay 2 (bQ K 2 (Cn au))):bP P w K mg base "all_nexts" qaH 03 (bQ K 1 (aeg au)):=by
 show D.fj (gf D.F m9 9 λbM A outer s H E Ox hr ts q hG=>?_);let nd:=m9.nd;let np:∀{i:Nat},aY #[H,[],Ox] i:=gW;let aj:=M1;show#[_,(aq (aA (Ψ (eI (ts:=qax) 9 19 (cX 19 M.range (ν (aS aT aV 19 M.len l0 (aO 81 aX)))) (λ_ _ _ _ _ _=>(aM (i:=1) p5 9 7 np)) (λ_ _ _ _ _ _=>iK) (λ_ _ _ _ _ _=>(ω (aw Am hr 238))))))),λ_=>?_];let(rs,rfl,B,hn,hq):=hG;let eL:(rs.map aZ).length=rs.length:=bS _;show#[9,9,_,9,(by change -(2 ^ 62:Int)<=((rs.map aZ).length:Int);lia),(by change ((rs.map aZ).length:Int)<(2 ^ 62:Int);lia),?_];show#[by rw[iM];calc Gen.small (by change (((rs.map aZ).length:Int)).toNat<=1000;lia),?_];let en:(((rs.map aZ).length:Int)).toNat=rs.length:=by lia
 change cU _ _ _ _ (rangeT 0 (((rs.map aZ).length:Int)).toNat) _;rw[en];show Ad (u:=λj=>.lst ((Hb rs j).map λk:Nat=>T.int (k:Int))) (λi hi r bV=>?_) hq;obtain⟨rw',pT⟩:∃r,rs[i]?\r:=#[_,eY hi];show#[9,rs,i,rw',by rw[H_],B,pT,?_];change r (.lst ((Qg rs i rw').map .int));rw[B.W3 pT];calc bV
abbrev L6:χ:=["program","followers","row","name","told","waiting","place"]
def vt:az L6 qaI (ar sy):=457
def He(D:Df K mg "spread" sy qaI f fd)(M:SV K mg)(Af:bP P w K mg base "has" qaA 1 (bQ K 2 jL))(jQ:bP P w K mg base "set_of" qaB 1 (bQ K 1 EU))(xQ:bP P w K mg base "makes" qaC 1 (bQ K 1 CV)):bP P w K mg base "spread" qaI 2 (bQ K 04 EV):=by
 show D.fj (gf D.F vt 9 λbM A outer s H E Ox hr ts q hG=>?_);let nd:=vt.nd;let np:∀{i:Nat},aY #[H,[],Ox] i:=gW;show#[_,(af (aJ (i:=04) nd 9 7 (Ψ ag) np)
  (af (cP (i:=05) nd 9 7 (Ψ (ic iG lp 19 M.list BZ (aO (ν (ay 109 124)) aX))) np)
  (af (qV nH (yV 448 4)
   (af (aJ (i:=06) nd 9 7 (v_ 05 acz acA vX p_) np)
   (aq (bb (v7 (fP (aw Af hr (aa 500 (aa (ah 06) ak)))))
    (af (lq (i:=04) nd 9 7 (ν (aw jQ hr (aa (ω (bK (aa (ah 06) ak))) ak))) k7 gH np)
    (aq (bb (JN 236 (ν (aw xQ hr (aa (ω (ay 37 (ae 06))) ak))))
     (aq (bA (QY 05 (ω (ay 109 (ae 06))))))
     aE)))
    aE))))
  (aq (aA (Ψ (VE.vp 500))))))),λ_=>?_]
 let(rs,j,x,rfl,B,hn,hj,hq):=hG;let nTl:∀t:qao,(t.map λk:Nat=>T.int (k:Int)).length=t.length:=λt=>bS _;show#[_,L1 hj,?_];show#[λm ρ=>∃(b:Int)(t:qao)(b6:Option (T×Bool))(tt:Λ),ρ=[aP 453,aP (.lst (CU rs)),aP (.int (j:Int)),aP 535,aP (.int b),some (.lst tt,true),b6]/\tt=t.map (λk:Nat=>T.int (k:Int))/\Dg (Hb rs) (mkN rs x) 5 (W4 rs x j) m b t/\m<=1000,#[_,0,Hb rs j,none,_,9,9,Dg.init (B.CQ j),()],?_];rintro m ρ ⟨b,t,b6,_,rfl,rfl,D,NT⟩;show cJ (λh=>?_) (λh=>?_);let h':((t.map λk:Nat=>T.int (k:Int)).length:Int) > 0:=h;rw[nTl] at h';let fY:t≠[]:=λz=>by rw[z] at h';simp at h'
 obtain⟨t0,p,rfl⟩:∃t0 p,t=t0++[p]:=#[t.dropLast,t.getLast fY,(acw fY).symm];let(m',rfl):=D.pos;let hp:p<rs.length:=D.lt p 6;obtain⟨r,bV⟩:∃r,rs[p]?\r:=#[_,eY hp];let e1:((t0++[p]).map λk:Nat=>T.int (k:Int))=(t0.map λk:Nat=>T.int (k:Int))++[T.int (p:Int)]:=by rw[nG];rfl
 let hD:=D.me;let di:t0.length<=m':=by
  unfold Yx at hD;rw[fU,NF] at hD
  lia
 rw[e1];show#[9,T.int (p:Int),?_,?_];rw[fU,NF,Nat.add_sub_cancel,uF 82,Nat.sub_self];rfl;rw[X4];show#[9,b,p,9,?_];cases hb:ib b p with
 |true=>show gX 9 ?_;calc#[m',qx _,b,t0,_,_,9,9,D.has hb,()]
 |false=>
  show aei 9 ?_;let D':=D.new hb (B.CQ p);let o1:Bn [p]=2 ^ p:=g9 λi=>by change ib (Builtin.bitOr 0 (1 * 2 ^ ((p:Int)).toNat)) i=_;rw[dZ,BS.dm,HZ,Int.one_mul,i9]
  rw[<- o1] at D';show#[bW 6,9,[p],9,λk hk=>by rw[fE.mp hk];lia,_,dc bV,9,r,9,9,lU _,?_];let ein:mB (.str x) ((cR r).map T.str)=decide (x∈cR r):=gL x _;let emk:mkN rs x p=decide (x∈cR r):=by unfold mkN;rw[bV]
  change if (!mB 535 ((cR r).map T.str))=true then _ else _
  rw[ein,<- emk];cases hm:mkN rs x p with
  |true=>rw[hm,ι 9] at D';show gX 9 ?_;calc#[m',qx _,_,t0,_,_,9,9,D',()]
  |false=>rw[hm,θ iC] at D';show aei 9 ?_;let hlen:=(B.CQ p).1;show#[_,L1 hp,?_,m',qx _,_,t0++Hb rs p,_,_,9,?_,D',()];rw[nTl,nTl,π];lia;rw[nG]
 let h':¬ ((t.map λk:Nat=>T.int (k:Int)).length:Int) > 0:=h;rw[nTl] at h';let hz:t=[]:=NC.mp ();subst hz;have:=D.fin;subst this;calc hq
abbrev ux:χ:=["layout","followers","told","place","row","name"]
def jR:az ux qaH (ar hJ):=457
def sD(D:Df K mg "arrivals_of" hJ qaH f fd)(M:SV K mg)(M1:ug K au)(An:bP P w K mg base "all_nexts" qaH 03 (bQ K 1 (aeg au)))(xQ:bP P w K mg base "makes" qaC 1 (bQ K 1 CV))(L7:bP P w K mg base "spread" qaI 2 (bQ K 04 EV)):bP P w K mg base "arrivals_of" qaH 04 (bQ K 1 (aeh au)):=by
 show D.fj (gf D.F jR 9 λbM A outer s H E Ox hr ts q hG=>?_);let nd:=jR.nd;let hu:=bH.dW hr;let np:∀{i:Nat},aY #[H,[],Ox] i:=gW;let aj:=M1;let yr:=va hu;show#[_,(af (aJ (i:=1) nd 9 7 (Ψ (aw An hr (aa 489 ak))) np)
  (af (cP (i:=2) nd 9 7 (Ψ Lv) np)
  (af (cQ nH 9 (gK 19 M.enumerate (ω 78)) (e_ (n:=2) 9 (bq (aM (i:=03) nd 9 7 np) (bq (aM (i:=04) nd 9 7 np) dI)))
   (aq (cQ nH 9 (eG (ω (aw xQ hr 472))) (aM (i:=05) nd 9 7 np)
    (aq (Lx 2 yr (ω (aw L7 hr (aa (ω 78) (aa 171 (aa (ah 03) (aa (ah 05) ak)))))) (aa (ah 03) (aa (ah 05) ak)))))))
  (Qv 2 np (aq (aA (Ψ (VE.vp 514)))))))),λ_=>?_]
 let(rs,rfl,B,hn,hm,hq):=hG;show#[9,rs,9,B,hn,9,_,9,?_];show j8 (λk ρ=>∃ks vs b3 b4 b5,ρ=[aP (c5 au rs),aP (.lst (CU rs)),some (.dt ks vs,true),b3,b4,b5]/\ks=eQ (fu rs k)/\vs=eO (fu rs k)/\(fu rs k).length<=k * 10) #[_,_,none,none,none,9,9,9,by simp[fu]] ?_ ?_;rintro k r ρ bV ⟨_,_,b3,b4,b5,rfl,rfl,rfl,hl⟩;let hk:=(c7.mp bV).1;let h10:=hm r (fM bV);let es:fu rs (k+1)=sA rs k (fu rs k) (cR r):=by rw[sC];unfold L3;rw[bV]
 let ln:=m8 rs k (cR r) (fu rs k);show#[9,9,9,r,9,?_];change oZ ((cR r).map T.str) _ _ _ _;show eJ (λn ρ=>∃ks vs b5,ρ=[aP (c5 au rs),aP (.lst (CU rs)),some (.dt ks vs,true),aP (.int (k:Int)),aP (aZ r),b5]/\ks=eQ (sA rs k (fu rs k) ((cR r).take n))/\vs=eO (sA rs k (fu rs k) ((cR r).take n))) #[_,_,_,9,9,9] ?_ ?_;rintro n x ρ hx ⟨_,_,b5,rfl,rfl,rfl⟩;let l2:=m8 rs k ((cR r).take n) (fu rs k);let l3:((cR r).take n).length<=10:=by rw[NW];lia
 let e2:sA rs k (fu rs k) ((cR r).take (n+1))=eU (sA rs k (fu rs k) ((cR r).take n)) ((k:Int),x) (W4 rs x k):=by unfold sA;rw[T2,hx,RW];rfl
 show#[9,_,9,9,rs,k,x,9,B,hn,hk,#[bW 6,by unfold eO;rw[bS];lia],_,_,_,9,?_,?_];rw[e2];calc CB _ ((k:Int),x) _;rw[e2];calc gk _ ((k:Int),x) _;rintro ρ ⟨_,_,b5,rfl,rfl,rfl⟩;rw[NZ,<- es];calc#[_,_,_,_,_,9,9,9,by rw[es];lia];rintro ρ ⟨_,_,b3,b4,b5,rfl,rfl,rfl,hl⟩;calc λo=>hq o
end
end Nt
namespace Us
open PySem L2 VT Gen yR Nm
abbrev lV:Stmt:=top 014
abbrev CW:Stmt:=top 015
abbrev qq:Stmt:=top 017
def aej:List (Str×T):=[("give",.tup [.int 1]),("put",.tup [.int 2]),("do",.tup [.int 2,.int 04]),("get",.tup [.int 2,.int 03]),("set",.tup [.int 1,.int 2,.int 03]),("if",.tup [.int 1]),("while",.tup [.int 1])]
structure MgU(w:World)(K:qaf)(mg:qae):Prop where
 list:mg "list"=none
 sorted:mg "sorted"=none
 set:mg "set"=none
 US:∃a,mg "USED_PLACES"\.ref a/\Ep w K a aej
 DV:∃a,mg "DIVISIONS"\.ref a/\∀H,eZ K H a [.str "over",.str "rest"]
def oF:Rw->Λ
 |.give a=>[mD a]
 |.wC a=>[mD a]
 |.n5 a=>[mD a]
 |.put _ a=>[mD a]
 |.uc _ a _ b=>[mD a,mD b]
 |.get _ r k=>[.str r,B7 k]
 |.set r k a=>[.str r,B7 k,mD a]
 |.call _ _ as=>as.map mD
 |_=>[]
def zB:nJ->Bool
 |.nm _=>true
 |.nu i=>decide (i=0)
def sF:Rw->Bool
 |.uc _ _ op b=>mB (.str op) [.str "over",.str "rest"] && zB b
 |.fail _=>true
 |.n5 _=>true
 |_=>false
def Ao:Rw->Λ
 |.call _ _ as=>as.map mD
 |r=>(oF r).filter λt=>!Qn t
def Td(ts:Λ)(q:qam):Prop:=∃r:Rw,ts=[aZ r]/\(∀t∈oF r,kD t)/\q (.fr (.lst (Ao r)))
structure Ap(r:Rw):Prop where
 pt:∀t∈oF r,kD t
 n:(oF r).length<=10
 dn:∀x a op y,r=.uc x a op (.nm y)->cW y=true/\y.length<=1000
def nmT:T->Option Str
 |.str x=>if cW x=true then some x else none
 |_=>none
def Aq(r:Rw):χ:=(Ao r).filterMap nmT
def Te(ts:Λ)(q:qam):Prop:=∃r:Rw,ts=[aZ r]/\Ap r/\∀zs:χ,(∀x,x∈zs↔x∈Aq r)->q (.fr (.lst (zs.map .str)))
def L8(ts:Λ)(q:qam):Prop:=∃r:Rw,ts=[aZ r]/\Ap r/\q (.vw (.bl (sF r)))
theorem EX:∀l:Λ,l.filter kR=(l.filterMap nmT).map .str
 |[]=>rfl
 |t::l=>by
  let ih:=EX l;cases t with
  |str x=>by_cases h:cW x=true;rw[YG (show kR 535=true from h),List.filterMap_cons_some (show nmT 535\x from ι h),ih];rfl;rw[YH (show ¬ kR 535=true from h),List.filterMap_cons_none (show nmT 535=none from θ h),ih]
  |_=>calc ih
theorem EY(ys:χ)(x:Str):∀k,k<=172->(x∈met (λi=>ys.getD i Str.empty) k↔x∈ys.take k)
 |0,_=>by simp[met]
 |k+1,h=>by
  let ih:=EY ys x k ();erw[met,SQ];rw[T2,vI,eY (show k<ys.length by lia)];erw[NY,Option.toList_some,fO,fE,<- ih];split
  rename_i z
  calc#[.inl,λy=>y.elim id λe=>by rw[e];calc z];rw[fO,fE]
def L9(ys:χ)(x:Str):x∈once ys↔x∈ys:=by
 have:=EY ys x 172 82
 rwa [NZ] at this
section
abbrev lW:χ:=["row","parts"]
def pA:az lW qaC (ar lV):=457
def sG:(lW++(["place"]:χ)).Nodup:=by decide +kernel
def sI:(lW++(["part"]:χ)).Nodup:=by decide +kernel
def Ar(D:Df K mg "operands" lV qaC f fd)(M:MgU w K mg)(lT:bP P w K mg base "is_field" qaz 2 (bQ K 1 Cd)):bP P w K mg base "operands" qaC 03 (bQ K 1 Td):=by
 show D.fj (gf D.F pA 9 λbM A outer s H E Ox hr ts q hG=>?_);let nd:=pA.nd;let hu:=bH.dW hr;let np:∀{i:Nat},aY #[H,[],Ox] i:=gW;let(aU,uy,sJ):=M.US;show#[_,(af (bb (bG hu 108 502)
    (aq (aA (Ψ (ic iG lp 19 M.list BZ (aO 108 aX)))))
    aE)
   (af (D5 (i:=1) (ts:=qax) nd 9 7 9 19 (eG (ω (KC 19 uy sJ 108 (ω (bB ak)) #[9,9,9,9]))) (λ_ _ _ _ _ _=>(aM (i:=2) sG 9 7 np)) (λ_ _ _ _ _ _=>iK) (λ_ _ _ _ _ _=>(ω (ay 37 124))) np)
   (aq (aA (Ψ (eI (ts:=["part"]) 9 19 (eG 171) (λ_ _ _ _ _ _=>(aM (i:=2) sI 9 7 np)) (λ_ _ _ _ _ _=>(j5 (v7 (fP (aw lT hr 530))))) (λ_ _ _ _ _ _=>514))))))),λ_=>?_]
 let(r,rfl,hl,hq):=hG;let fin:∀(ps:Λ),(∀t∈ps,kD t)->q (.fr (.lst (ps.filter λt=>!Qn t)))->cU (hName 2) (ZU (mq (qX 1 (gj (lj 2) t9) Cd))) (lj 2) [aP (aZ r),aP (.lst ps),none] ps λus=>q (.fr (.lst us)):=λps NR hq=>by show ie (λt=>!Qn t) (λt=>t) (λt ht k r h=>?_) (by rw[List.map_id'];calc hq);show#[9,t,9,NR t ht,?_];exact h
 cases r with
 |call x f as=>calc#[_,aaU,_,aaX,hq]
 |give a=>show#[_,aaU,9,_,aaU,fB _,?_];change ([T.int 1]:Λ).length<=sizeLine/\cU _ _ _ _ [T.int 1] _;calc#[bW 6,_,aaV,9,bW 6,fin _ hl hq]
 |wC a=>show#[_,aaU,9,_,aaU,fB _,?_];change ([T.int 1]:Λ).length<=sizeLine/\cU _ _ _ _ [T.int 1] _;calc#[bW 6,_,aaV,9,bW 6,fin _ hl hq]
 |n5 a=>show#[_,aaU,9,_,aaU,fB _,?_];change ([T.int 1]:Λ).length<=sizeLine/\cU _ _ _ _ [T.int 1] _;calc#[bW 6,_,aaV,9,bW 6,fin _ hl hq]
 |put x a=>show#[_,aaU,9,_,aaU,fB _,?_];change ([T.int 2]:Λ).length<=sizeLine/\cU _ _ _ _ [T.int 2] _;calc#[bW 6,_,aaW,9,bW 6,fin _ hl hq]
 |uc x a op b=>show#[_,aaU,9,_,aaU,fB _,?_];change ([T.int 2,T.int 04]:Λ).length<=sizeLine/\cU _ _ _ _ [T.int 2,T.int 04] _;calc#[bW 6,_,aaW,_,aaY,9,bW 6,fin _ hl hq]
 |get x y k=>show#[_,aaU,9,_,aaU,fB _,?_];change ([T.int 2,T.int 03]:Λ).length<=sizeLine/\cU _ _ _ _ [T.int 2,T.int 03] _;calc#[bW 6,_,aaW,_,aaX,9,bW 6,fin _ hl hq]
 |set y k a=>show#[_,aaU,9,_,aaU,fB _,?_];change ([T.int 1,T.int 2,T.int 03]:Λ).length<=sizeLine/\cU _ _ _ _ [T.int 1,T.int 2,T.int 03] _;calc#[bW 6,_,aaV,_,aaW,_,aaX,9,bW 6,fin _ hl hq]
 |_=>show#[_,aaU,9,_,aaU,fB _,?_];change ([]:Λ).length<=sizeLine/\cU _ _ _ _ [] _;calc#[fB _,9,fB _,fin _ hl hq]
abbrev L_:χ:=qaC
def EZ:az L_ qaC (ar CW):=457
def CY:(L_++(["part"]:χ)).Nodup:=by decide +kernel
def Q0(D:Df K mg "uses" CW qaC f fd)(M:MgU w K mg)(CZ:bP P w K mg base "operands" qaC 03 (bQ K 1 Td))(ir:bP P w K mg base "is_name" qaz 1 (bQ K 1 l9)):bP P w K mg base "uses" qaC 04 (bQ K 1 Te):=by
 show D.fj (gf D.F EZ 9 λbM A outer s H E Ox hr ts q hG=>?_);let nd:=EZ.nd;let np:∀{i:Nat},aY #[H,[],Ox] i:=gW;show#[_,(aq (aA (Ψ (Cm 9 19 M.sorted 19 M.set (ν (eI (ts:=["part"]) 9 19 (eG (ω (aw CZ hr (aa 489 ak)))) (λ_ _ _ _ _ _=>(aM (i:=1) CY 9 7 np)) (λ_ _ _ _ _ _=>(j5 (fP (aw ir hr 57)))) (λ_ _ _ _ _ _=>171))))))),λ_=>?_];let(r,rfl,R,hq):=hG;let Bi:∀t∈Ao r,kD t:=λt ht=>R.pt t (by cases r<;>first|calc ht|calc (N0.mp ht).1);let Po:(Ao r).length<=10:=by show kJ ?_ R.n;cases r<;>first|exact cM _|exact RQ _ _
 show#[9,9,r,9,R.pt,bW (),?_];show ie kR (λt=>t) (λt ht k r h=>?_) ?_;calc#[9,t,9,(Bi t ht).flat,(Bi t ht).short,h];rw[List.map_id',EX];show#[_,9,?_,λzs h1 h2=>hq zs λx=>h1.mem_iff.trans (L9 _ _)];have:=List.length_filterMap_le nmT (Ao r)
 lia
abbrev E1:χ:=qaC
def As:az E1 qaC (ar qq):=457
def Ma(D:Df K mg "risky" qq qaC f fd)(M:MgU w K mg)(ir:bP P w K mg base "is_name" qaz 1 (bQ K 1 l9)):bP P w K mg base "risky" qaC 2 (bQ K 1 L8):=by
 show D.fj (gf D.F As 9 λbM A outer s H E Ox hr ts q hG=>?_);let nd:=As.nd;let hu:=bH.dW hr;let(ac,mc,V3):=M.DV;let Au:∀{pos},VP (hY iA P w K mg base E1 "risky" (ar qq) f bM A outer s H E).vN #[H,[],Ox] (.Name "DIVISIONS" pos) (fC (.tup [.str "over",.str "rest"])):=iI 19 mc (v:=.ref ac) 9 λH A=>cj (V3 H) 488;show#[_,(af (bb (bG hu 108 502)
    (aq (aA (Ψ (BV (JM 108 (ν Au)) (v8 (Se (aw ir hr (aa (ω 106) ak)) (v8 (DX hu 108 4))))))))
    aE)
   (aq (aA (Ψ (JM 108 (ν (bB 475))))))),λ_=>?_]
 let(r,rfl,R,hq):=hG;let hn:∀x a op b,r=.uc x a op b->∀y,b=.nm y->cW y=true:=λx a op b e y e2=>(R.dn x a op y (by rw[e,e2])).1;let hs:∀x a op b,r=.uc x a op b->∀y,b=.nm y->y.length<=1000:=λx a op b e y e2=>(R.dn x a op y (by rw[e,e2])).2;cases r with
 |uc x a op b=>
   let tQ:q (.vw (.bl (mB (.str op) [.str "over",.str "rest"] && zB b))):=hq;show#[_,aaU,_,aaX,9,9,?_];show zS (c:=mB (.str op) [.str "over",.str "rest"]) (λh=>?_) (λh=>?_);rw[h,yn] at tQ;cases b with
   |nm y=>show#[_,aaY,9,_,9,9,λz e=>?_,?_];cases e;calc hs _ _ _ _ 9 y 9;change Lb (.vw (.bl (cW y))) _ _;rw[hn _ _ _ _ 9 y 9];calc tQ
   |nu i=>exact#[_,aaY,9,_,9,9,λz e=>(nomatch e),_,aaY,tQ]
   rw[h,HY] at tQ;calc tQ
 |_=>calc#[_,aaU,_,aaU,bW 6,9,9,hq]
end
end Us
namespace VT
open PySem PySem.Spec PyProof.Rows L2
section
variable{A:zm}
def At.frame{t:T}(here:∀b∈A,∃u,H b\u/\nS u=true)(fr:∀b o,H b\o->b∉A->H' b\o)(h:At K H A t v):At K H' A t v:=by
 let rd:∀{a:Addr}{u:HO},a∉A->Rd H a u->Rd H' a u:=λn q=>q.elim (λz=>.inl (fr _ _ z n)) λ#[o,z]=>.inr #[o,fr _ _ z n];show At.map (λa vs q=>q.elim (λz=>.inl #[rd z.2 z.1,z.2]) .inr) (λa vs q=>q.elim (λz=>.inl (rd (λm=>?_) z)) .inr) (λa u q=>#[fr _ _ q.1 q.2,q.2]) h;let(u,e,mu):=here a m;obtain z|⟨o,z⟩:=z
 rw[e] at z;cases z;cases mu;rw[e] at z;cases z;cases mu
end
def aek:S2:=#[[],[],[],[]]
def gMk(i j:Nat)(Gg:T->S2->(S2->T->Prop)->Prop)(W5:Λ->(qam)->Prop):SH:=λ_ dp ρ=>i<ρ.length/\match ρ[j]? with
 |some (some (l,false))=>∃W:Nat->S2->Prop,(∃m,W m aek)/\∀m s,W m s->Gg l s λs' t=>∃b,t=.bl b/\if b=true then ∃m',m'<m/\W m' s' else
  ∀o1 o2,W5 [.df o1 s'.k1 s'.t1] λr1=>∃ts1,r1=.fr (.lst ts1)/\qN ts1=true/\W5 [.df o2 s'.k2 s'.t2] λr2=>∃ts2,r2=.fr (.lst ts2)/\qN ts2=true/\dp [.lst ts1,.lst ts2]
 |_=>False
section
variable{Gg:T->S2->(S2->T->Prop)->Prop}{W5:Λ->(qam)->Prop}
def Mb(K:qaf)(H:Hp):aB K #[H,[],[]] [] [] [] [] H:=#[9,9,λi e h=>by simp at h,NJ,λa h=>absurd h gQ,λp hp=>absurd hp gQ,λa h=>absurd h gQ,λb o e _=>e,λp hp=>absurd hp gQ]
def vv{t:T}{q:Λ->Prop}{Q:VK}(a:At X.K H [] t v)(hG:W5 [t] λr=>∃ts,r=.fr (.lst ts)/\qN ts=true/\q ts)(k:∀ts,q ts->qN ts=true->∀l vs H',aW H H'->H l=none->H' l\.lst vs->(∀A,aD X.K H' A ts vs)->Q (.ref l) H'):bQ X.K 1 W5 ([v]++[]) H Q E0 :=
 D6 (Mb X.K H) (aD.cons a 451) 9 hG λr #[ts,er,hi,hq] w H' sm z=>by subst er;let(l,rfl,_,(vs,e,av),n,_):=z;calc k ts hq hi l vs H' sm n e λA=>aD.yS hi av
def W6{M:MG}(hB:M.hb=true){s:S2}{H0:Hp}{Ox:zm}{o1 o2:Obj}{W7 LG:qak}{dp:Λ->Prop}(sd:SD K M s H)(l1:s.k1.length=W7.length)(e1:H M.a1\.dT (s.k1.zip W7))(q1:aD K H M.Ox s.t1 W7)(l2:s.k2.length=LG.length)(e2:H M.a2\.dT (s.k2.zip LG))(q2:aD K H M.Ox s.t2 LG):∃H2,H2=upd (upd H M.a1 (.k6 o1 (.dT (s.k1.zip W7)))) M.a2 (.k6 o2 (.dT (s.k2.zip LG))) /\
  At K H2 [] (.df o1 s.k1 s.t1) (.ref M.a1)/\At K H2 [] (.df o2 s.k2 s.t2) (.ref M.a2)/\H2 M.a\.ins M.C M.dx (fN.zip [.ref M.a1,.ref M.a2])/\∀b o,H b\o->b∉M.Ox->H2 b\o:=by
 let m1:=M.m1;let m2:=M.m2;let F6:upd H M.a1 (.k6 o1 (.dT (s.k1.zip W7))) M.a2\.dT (s.k2.zip LG):=by rw[aG (Ne.symm M.n3)];exact e2
 show#[_,9,?_,?_,?_,λb o e n=>?_];erw[At];calc#[M.a1,W7,9,l1,#[by rw[aG M.n3,aK],λz=>nomatch z],((q1.wrote m1 e1 9).wrote m2 F6 9).bC λb hb=>nomatch hb];erw[At];calc#[M.a2,LG,9,l2,#[aK,λz=>nomatch z],((q2.wrote m1 e1 9).wrote m2 F6 9).bC λb hb=>nomatch hb];rw[aG M.n2,aG M.n1];calc sd.ins hB;rw[aG (λz=>n (by rw[z];calc m2)),aG (λz=>n (by rw[z];calc m1))];calc e
structure Made(C:Addr)(H H3:Hp)(a dx p1 p2:Addr):Prop where
 same:aW H H3
 na:H a=none
 n1:H p1=none
 n2:H p2=none
 ne:p1≠p2
 ea:H3 a\.ins C dx (fN.zip [.ref p1,.ref p2])
 d1:H3 p1\.dT []
 d2:H3 p2\.dT []
def ael(C:Addr):TE:=λσ H Q=>∀a dx p1 p2 H3,Made C H H3 a dx p1 p2->Q 110 H3
def Q1{xC:Str}{kC:Nat}{fI:Addr}{fdI:FuncData}{psI:χ}{GI:Λ->(T->Prop)->Prop}{pC Tf E2 pc:Pos}(MI:Mk X.K C fI)(FI:eD 33 X.w X.K X.mg X.base iA kC fI fdI psI (V0 X.K C 2 GI))(hGI:∀t1 t2 q,q (.ins C fN [t1,t2])->GI [t1,t2] q)(rI:bH (kC+1) X.A)(gI:Gl X xC)(mI:X.mg xC\.ref C)(bI:Binds X.K fdI psI [])(db1:gD xC:=by decide)(s1:starEach [.Dict [] [] Tf,.Dict [] [] E2] 3=(false,eval (.Dict [] [] Tf) 3)::starEach [.Dict [] [] E2] 3:=by rfl)(s2:starEach [.Dict [] [] E2] 3=(false,eval (.Dict [] [] E2) 3)::starEach [] 3:=by rfl)(s3:(backTo pc (starEach [.Dict [] [] E2] 3)).any (·.1)=false:=by rfl):PE X (.Call (.Name xC pC) [.Dict [] [] Tf,.Dict [] [] E2] [] pc) (ael C) :=
 PE.weak (DN MI FI rI gI mI bI .nil oW (bD rq (bD rq cV s2) s1) db1 s1 s3) λσ H Q h=>by
  intro p1 Yn p2 Gi;let sa:aW H (upd H p1 (.dT [])):=aI Yn;let sb:aW (upd H p1 (.dT [])) (upd (upd H p1 (.dT [])) p2 (.dT [])):=aI Gi;let Mc:p1≠p2:=λz=>by rw[<- z,aK] at Gi;cases Gi
  let W8:H p2=none:=by rw[aG (Ne.symm Mc)] at Gi;exact Gi
  let d1:=sb _ _ aK;let d2:upd (upd H p1 (.dT [])) p2 (.dT []) p2\.dT []:=aK;show Es (q:=λr=>r=.fr (.ins C fN [.pin p1 (.dt [] []),.pin p2 (.dt [] [])])) (Mb X.K _) (aD.cons ?_ (aD.cons ?_ 451)) 9 (hGI _ _ (λu=>Rt.fr u=.fr (.ins C fN [.pin p1 (.dt [] []),.pin p2 (.dt [] [])])) 9) (λr er v H3 sm z=>?_);calc#[9,#[p1,[],9,9,#[d1,λm=>nomatch m],451]];calc#[9,#[p2,[],9,9,#[d2,λm=>nomatch m],451]];subst er;let(a,rfl,_,(dx,vs,hl,ea,hv),n0,_):=z;let(_,_,rfl,h1,_,_,rfl,h2,rfl):=hv;let(rfl,_):=h1;let(rfl,_):=h2;show h a dx p1 p2 H3 #[(sa.trans sb).trans sm,?_,Yn,W8,Mc,ea,sm _ _ d1,sm _ _ d2];cases z:H a with
  |none=>rfl
  |some o=>have:=sb _ _ (sa _ _ z);rw[show upd (upd H p1 (.dT [])) p2 (.dT []) a=none from n0] at this;cases this
def C0{y xC xg xl:Str}{kC kg kl:Nat}{fI fg fl:Addr}{fdI fdg fdl:FuncData}{psI psg psl:χ}{GI:Λ->(T->Prop)->Prop}{px pC p1 Tf E2 pc pg pv1 Tg pgc pw pp Ti NU pa1 W9 pl1 pl2 Q2 Hg pt pr:Pos}{kt}(hP:Z.P=[])(hij:i≠j)(hN:X.N.Nodup)(hi:X.N[i]?\x)(hj:X.N[j]?\y)(hx:Loc 39 x)(vx:nI 39 x)(vy:nI 39 y)(hp:PassesOwn 17 X.A 3 X.xe)(MI:Mk X.K C fI)(FI:eD 33 X.w X.K X.mg X.base iA kC fI fdI psI (V0 X.K C 2 GI))(hGI:∀t1 t2 q,q (.ins C fN [t1,t2])->GI [t1,t2] q)(rI:bH (kC+1) X.A)(gI:Gl X xC)(mI:X.mg xC\.ref C)(bI:Binds X.K fdI psI [])(Fg:eD 33 X.w X.K X.mg X.base iA kg fg fdg psg (spG X.K C Gg))(rg:bH kg X.A)(gg:Gl X xg)(mg:X.mg xg\.ref fg)(kgk:W.keepIn X.K (.ref fg)=true)(bg:Binds X.K fdg psg [])(Fl:eD 33 X.w X.K X.mg X.base iA kl fl fdl psl (bQ X.K 1 W5))(rl:bH kl X.A)(gl:Gl X xl)(ml:X.mg xl\.ref fl)(klk:W.keepIn X.K (.ref fl)=true)(bl:Binds X.K fdl psl [])(cl:Ic X.K C)(n1:cN X.K C "names")(n2:cN X.K C "cells")(hd:gD x:=by decide)(fL:qt x:=by decide)(hd2:gD y:=by decide)(z7:qt y:=by decide)(db1:gD xC:=by decide)(db2:gD xg:=by decide)(db3:gD xl:=by decide)(s1:starEach [.Dict [] [] Tf,.Dict [] [] E2] 3=(false,eval (.Dict [] [] Tf) 3)::starEach [.Dict [] [] E2] 3:=by rfl)(s2:starEach [.Dict [] [] E2] 3=(false,eval (.Dict [] [] E2) 3)::starEach [] 3:=by rfl)(s3:(backTo pc (starEach [.Dict [] [] E2] 3)).any (·.1)=false:=by rfl)(g1:starEach [.Name y pv1,.Name x Tg] 3=(false,eval (.Name y pv1) 3)::starEach [.Name x Tg] 3:=by rfl)(g2:starEach [.Name x Tg] 3=(false,eval (.Name x Tg) 3)::starEach [] 3:=by rfl)(g3:(backTo pgc (starEach [.Name x Tg] 3)).any (·.1)=false:=by rfl)(he:∀whole,isTrue (.Call (.Name xg pg) [.Name y pv1,.Name x Tg] [] pgc) 3 whole=(do let v <- whole;standAt (Expr.pos (.Call (.Name xg pg) [.Name y pv1,.Name x Tg] [] pgc));holding [v] (truthy v)):=by intro _;rfl)(b1:attributeBase (.Name x Ti) "names" 3 (eval (.Name x Ti) 3)=eval (.Name x Ti) 3:=by rfl)(b2:attributeBase (.Name x NU) "cells" 3 (eval (.Name x NU) 3)=eval (.Name x NU) 3:=by rfl)(a1:starEach [.Attribute (.Name x Ti) "names" pa1] 3=(false,eval (.Attribute (.Name x Ti) "names" pa1) 3)::starEach [] 3:=by rfl)(a2:starEach [.Attribute (.Name x NU) "cells" W9] 3=(false,eval (.Attribute (.Name x NU) "cells" W9) 3)::starEach [] 3:=by rfl)(a3:(backTo Q2 460).any (·.1)=false:=by rfl)(a4:(backTo Hg 460).any (·.1)=false:=by rfl)(t1:starEach [.Call (.Name xl pl1) [.Attribute (.Name x Ti) "names" pa1] [] Q2,.Call (.Name xl pl2) [.Attribute (.Name x NU) "cells" W9] [] Hg] 3=(false,eval (.Call (.Name xl pl1) [.Attribute (.Name x Ti) "names" pa1] [] Q2) 3)::starEach [.Call (.Name xl pl2) [.Attribute (.Name x NU) "cells" W9] [] Hg] 3:=by rfl)(t2:starEach [.Call (.Name xl pl2) [.Attribute (.Name x NU) "cells" W9] [] Hg] 3=(false,eval (.Call (.Name xl pl2) [.Attribute (.Name x NU) "cells" W9] [] Hg) 3)::starEach [] 3:=by rfl)(hs:swapsWith (.Call (.Name xC pC) [.Dict [] [] Tf,.Dict [] [] E2] [] pc) (some (.Name x px)) p1.line 3=pure false:=by rfl)(hf:X.fn x=true\/X.env.scope.names.lookup x\.local:=by first|calc .inl rfl|calc .inr rfl|assumption) :
  Gu X Z [.Assign [.Name x px] (.Call (.Name xC pC) [.Dict [] [] Tf,.Dict [] [] E2] [] pc) p1,.While (.Call (.Name xg pg) [.Name y pv1,.Name x Tg] [] pgc) [.Pass pp] [] pw,
   .Return (some (.Tuple [.Call (.Name xl pl1) [.Attribute (.Name x Ti) "names" pa1] [] Q2,.Call (.Name xl pl2) [.Attribute (.Name x NU) "cells" W9] [] Hg] kt pt)) pr] (gMk i j Gg W5):=.mk λtm=>
 ko.mj (jl (vO hN hi hx (Q1 MI FI hGI rI gI mI bI db1 s1 s2 s3) hs hf)
  (jl (yD hp (II (jZ Fg rg gg mg kgk bg .nil oW (bD (cF hj vy hd2 z7) (bD (cF hi vx hd fL) cV g2) g1) db2 g1 g3) he) (l8 Oa))
    (xt (xt (l8 (Bu (qF (bD (jZ Fl rl gl ml klk bl .nil oW (bD (BF (cF hi vx hd fL) b1) cV a1) db3 a1 a3) (bD (jZ Fl rl gl ml klk bl .nil oW (bD (BF (cF hi vx hd fL) b2) cV a2) db3 a2 a4) cV t2) t1)))))))) λD σ H #[ρ,O,d,dp,I,q,F]=>by
  let(hil,q):=q;split at q
  rename_i l el
  let(W,w0,step):=q;intro a dx p1 p2 H3 #[sH,na,Yn,W8,Mc,ea,d1',d2']
  let' M:MG:=#[a,dx,p1,p2,C,H3,(λz=>by rw[z,d1'] at ea;cases ea),(λz=>by rw[z,d2'] at ea;cases ea),Mc,true]
  let nO:∀b∈M.Ox,H b=none:=λb hb=>by
   rcases M.mem hb with⟨_,rfl⟩|rfl|rfl
   calc na;calc Yn;exact W8
  let aem:=λb o e=>I.keep b o e (by rw[hP];calc λz=>nomatch z);let sd0:SD X.K M aek H3:=#[λ_=>ea,#[[],9,d1',451],#[[],9,d2',451],λb o e _=>e];let(_,_,o1,o2,rfl,v0,rfl,av0):=I.sl j _ el;let at0:=(av0.more λb hb=>.inr (nO b hb)).same sH;let sj:(σ.set i (some (.ref a)))[j]?\some v0:=by rw[uG hij];exact o2
  let si:(σ.set i (some (.ref a)))[i]?\some (.ref a):=DC (by rw[I.lσ];calc hil);show#[λm σ' H'=>σ'=σ.set i (some 110)/\∃s,W m s/\SD X.K M s H'/\At X.K H' M.Ox l v0,?_,?_];let(m,hm):=w0;calc#[m,9,_,hm,sd0,at0];rintro m _ H4 ⟨rfl,s,hw,sd,at4⟩;show#[v0,sj,.ref a,si,#[M,s,l,v0,_,#[9,9],9,at4,#[sd.ins,sd.d1,sd.d2,λb o e _=>e],step m s hw,λs' t ht v H5 sd5 a5=>?_]];let(b,rfl,hb):=ht;show#[b,a5,?_];let sd6:SD X.K M s' H5:=#[sd5.ins,sd5.d1,sd5.d2,λb o e n=>sd5.fr b o (sd.fr b o e n) n];cases b with
  |true=>
    change if true=true then _ else _
    let(m',lt,hw'):=hb;calc#[λσ' H'=>σ'=σ.set i (some 110)/\∃s,W m' s/\SD X.K M s H'/\At X.K H' M.Ox l v0,λσ' H' h=>#[m',lt,h],9,s',hw',sd6,at4.frame sd.here λb o e n=>sd5.fr b o e n]
  |false=>
    change if false=true then _ else _
    let(W7,l1,e1,q1):=sd6.d1;let(LG,l2,e2,q2):=sd6.d2;show#[p1,_,e1,λo1=>#[p2,_,(by rw[aG (Ne.symm Mc)];calc e2),λo2=>?_]];let(H6,eH,A1,A2,ea6,fr6):=W6 (hB:=rfl) (H0:=H) (Ox:=[]) (dp:=dp) sd6 l1 e1 q1 l2 e2 q2;let fr:=λb o e=>by
     let e':=aem b o e;let n:b∉M.Ox:=λz=>by rw[nO b z] at e';cases e'
     exact fr6 b o (sd6.fr b o (sH _ _ e') n) n
    rw[<- show _=_ from eH];show#[.ref a,si,a,C,dx,_,.ref p1,9,ea6,cl,n1,9,vv A1 (hb o1 o2) λts1 h1 i1 b1 us1 H7 s7 n7 e7 at7=>#[.ref a,si,a,C,dx,_,.ref p2,9,s7 _ _ ea6,cl,n2,9,vv (A2.same s7) h1 λts2 h2 i2 b2 us2 H8 s8 n8 e8 at8=>#[by rw[π];simp,λp hp=>?_]]];let sp:aW H8 (upd H8 p (.tup [.ref b1,.ref b2])):=aI hp;let ne:b1≠b2:=λz=>by rw[<- z,e7] at n8;cases n8
    show F.dp [.lst ts1,.lst ts2] h2 p [b1,b2] _ #[λb o e=>sp _ _ (s8 _ _ (s7 _ _ (fr b o e))),aK,?_,?_,?_];simp[ne];intro b Qi;erw[dQ,gQ,aah] at Qi;cases z:Z.H0 b with
    |none=>rfl
    |some o=>
      exfalso;let e6:=fr b o z;obtain rfl|rfl:=Qi
      rw[n7] at e6;cases e6;rw[s7 _ _ e6] at n8;cases n8
    show .cons #[us1,sp _ _ (s8 _ _ e7),((at7 _).same s8).same sp] (.cons #[us2,sp _ _ e8,(at8 _).same sp] .nil)
  calc q.elim
end
section
variable{M:MG}{st:Stmt}{rest:qaq}{g u:rZ}{pos:Pos}
def S2.put2(s:S2)(k:List Key)(t:T):S2:={s with k2:=G7 s.k2 k,t2:=zZ s.k2 s.t2 k t}
def Tj(M:MG)(n m:Nat)(f:FE):rZ:=λd ρ s=>f 190 λt=>pe t/\ρ[n]?\some (.ob M.a2,false)/\s.t2.length<16777216/\∃k,ρ[m]?\some (.kt k,false)/\d.nx ρ (s.put2 k t)
theorem Hh{tm:qab}{s:S2}{H1:Hp}{A:zm}{D:Ends}{d:LB}{t:T}{k:List Key}(S1:SG X.K M tm ρ s σ H1)(F:LC X.K M tm d D)(WC:pe t)(a:At X.K H' A t v)(hn:ρ[n]?\some (.ob M.a2,false))(hlen:s.t2.length<16777216)(hk:ρ[m]?\some (.kt k,false))(hq:d.nx ρ (s.put2 k t)) :
  FC n σ H1 λx H2=>FC m σ H2 λy H3=>∃a H4,x=.ref a/\wK H3 a y v H4/\D.nx σ H4:=by
 let(O1,EI,I1):=S1.env;let(_,_,_,z1,_,v1,rfl,b1):=I1.sl n _ hn;let(_,_,_,z2,_,v2,rfl,b2):=I1.sl m _ hk;subst b1;let(b,rfl,hb,_):=b2;let(vs,hl,h1,h2):=S1.sd.d2;let hz:(s.k2.zip vs).length<sizeLine:=by
  rw[π,NI,hl,RZ,h2.length]
  lia
 let pq:=Lu s.k2 vs k v hl;show#[.ref M.a2,z1,.ref b,z2,M.a2,_,9,wK.t h1 hb hz,?_];rw[pq.1];let NT:=M.m2;let wr:∀{t:T}{v':V},At X.K H1 M.Ox t v'->At X.K (upd H1 M.a2 (.dT ((G7 s.k2 k).zip (zZ s.k2 vs k v)))) M.Ox t v':=λq=>At.wrote NT h1 9 q;let wrL:∀{t:Λ}{v':qak},aD X.K H1 M.Ox t v'->aD X.K (upd H1 M.a2 (.dT ((G7 s.k2 k).zip (zZ s.k2 vs k v)))) M.Ox t v':=λq=>aD.wrote NT h1 9 q;let na:=M.n2;show F.nx ρ (s.put2 k t) σ _ #[#[O1,EI,I1.lσ,I1.lO,λi e he=>?_,I1.nd,λb hb=>(by rw[EI] at hb;calc absurd hb gQ),λp hp=>absurd hp gQ,λb hb=>?_,λb o e _=>e,λp hp=>?_],?_,?_,?_,λb o e n=>(by rw[aG (λz=>n (by rw[z];calc NT))];calc S1.sd.fr b o e n)] hq;let(o,sv,g1,g2,g3):=I1.sl i e he;show#[o,sv,g1,g2,?_];rw[jd EI] at g3 ⊢;show g3.map (λt v z=>wr z) λb t' eo _=>?_;subst eo;have:=aH.mpr (fM g1);rw[EI] at this;calc absurd this gQ;by_cases e:b=M.a2;rw[e,aK];simp;rw[aG e];let(u,eu,_):=S1.sd.here b hb;rw[eu];simp;have:=I1.lh p hp;rw[jd EI] at this ⊢;calc wr this;exact λz=>by rw[aG na];exact S1.sd.ins z
 let(LG,l2,e2,q2):=S1.sd.d1;calc#[LG,l2,by rw[aG M.n3];calc e2,wrL q2];calc#[_,pq.2,aK,wrL (Ct h2 (r0 WC a))]
def Q3(n m:Nat){y:Str}{f:FE}(hu:537+1<cLine)(he:∀H0 Ox,VE X #[H0,[],Ox] e f)(hN:X.N[n]?\x:=by rfl)(hv:nI 39 x:=by first|calc Or.inl rfl|calc Or.inr 7|calc Or.inr 95)(hd:gD x:=by decide)(fL:qt x:=by decide)(Yu:X.N[m]?\y:=by rfl)(Yv:nI 39 y:=by first|calc Or.inl rfl|calc Or.inr 7|calc Or.inr 95)(hd2:gD y:=by decide)(z7:qt y:=by decide)(hs:swapsWith e (some (.Subscript 31 (.Name y p2) eA)) pos.line 3=pure false:=by rfl):GS X M 470 (Tj M n m f):=.mk λtm ε s' σ H D J #[ρ,s,d,S,hg,F]=>by let(O2,pT,I2):=S.up;show wQ hu 123 (cF Yu Yv hd2 z7) (he H [] tm) hs ε s' σ H D J #[_,O2,_,I2,hg,λt ht v H1 sm a=>?_];let(WC,hn,hlen,k,hk,hq):=ht;calc Hh (S.jM sm) F WC a hn hlen hk hq
def aen(M:MG)(n m:Nat)(f:FE):rZ:=λd ρ s=>S0 M n m f d ρ s\/Tj M n m f d ρ s
def GS.or{g u:rZ}{st:Stmt}(h1:GS X M st g)(h2:GS X M st u):GS X M st (λd ρ s=>g d ρ s\/u d ρ s):=.mk λtm ε s' σ H D J #[ρ,s,d,S,hg,F]=>by
 obtain hg|hg:=hg
 calc h1.h tm ε s' σ H D J #[ρ,s,d,S,hg,F];calc h2.h tm ε s' σ H D J #[ρ,s,d,S,hg,F]
def W_(n m:Nat){y:Str}{f:FE}(hu:537+1<cLine)(he:∀H0 Ox,VE X #[H0,[],Ox] e f)(hN:X.N[n]?\x:=by rfl)(hv:nI 39 x:=by first|calc Or.inl rfl|calc Or.inr 7|calc Or.inr 95)(hd:gD x:=by decide)(fL:qt x:=by decide)(Yu:X.N[m]?\y:=by rfl)(Yv:nI 39 y:=by first|calc Or.inl rfl|calc Or.inr 7|calc Or.inr 95)(hd2:gD y:=by decide)(z7:qt y:=by decide)(hs:swapsWith e (some (.Subscript 31 (.Name y p2) eA)) pos.line 3=pure false:=by rfl):GS X M 470 (aen M n m f) :=
 GS.or (Qz n m hu he hN hv hd fL Yu Yv hd2 z7 hs) (Q3 n m hu he hN hv hd fL Yu Yv hd2 z7 hs)
def agn(M:MG)(s:S2):o_ M s (some (.ob M.a2,false))\(.dt s.k2 s.t2,false):=by change (if M.a2=M.a1 then _ else _)=_;rw[θ (Ne.symm M.n3),ι 9]
end
end VT
namespace iX
open PySem L2 VT Gen K5 Lay BS Iq MK
open PySem.Builtin (bitOr)
def sE(E F:List Ent):S2:=#[eQ E,eO E,eQ F,eO F]
def Md(C:Addr)(l:T)(s:S2)(q:S2->T->Prop):Prop:=∃(rs:F2)(E F:List Ent),l=c5 C rs/\s=sE E F/\(∀r∈rs,clR rs r/\Yw r)/\5<=64/\(tT rs).length<=400/\Iv 5 (tT rs) #[E,F,false]/\q (sE (d9 rs E F 5).E (d9 rs E F 5).F) (.bl (d9 rs E F 5).b)
abbrev rho(M:MG)(C:Addr)(rs:F2)(b:Bool)(b3 b4 b5 b6 b7 b8:Option T):En:=[aP (c5 C rs),aP (.ob M.a),aP (.bl b),pd b3,pd b4,pd b5,pd b6,pd b7,pd b8]
def Me(rs:F2)(i:Nat){t:T}(h:(dR (zH rs))[i]?\t):i<5/\t=.tup [.int (i:Int),oT (gG 23 i)]:=by unfold dR zH at h;rw[X3,fW] at h;by_cases hi:i<5;rw[RP hi] at h;cases h;calc#[hi,9];rw[Iz (by rw[pJ];lia)] at h;cases h
def Mh(rs:F2):(dR (zH rs)).length=5:=by unfold dR zH;simp
def Q5{M:MG}{d:LB}{s:S2}{ts:Λ}{k:List Key}(h5:190[n]?\some (.dt ks ts,false))(h6:190[m]?\some (.kt k,false))(hq:pe ((eB ks ts k).getD (.int 0))/\d.nx (ρ.set i (some ((eB ks ts k).getD (.int 0),false))) s):LD M i (fT (WG (jt n) (lj m) (fT (fC (.int 0))))) d ρ s:=by unfold LD fT WG jt;rw[h5];change lj m _ _;unfold lj;rw[h6];calc hq
theorem Mi{M:MG}{n2 n8:Nat}{d:LB}{s s0:S2}(es:s0=s){ts:Λ}{k:List Key}{b:Bool}{v before:Int}(h2:190[n2]?\some (.bl b,false))(h5:190[n]?\some (.dt ks ts,false))(h6:190[m]?\some (.kt k,false))(h8:190[n8]?\some (.int before,false))(hg:eB ks ts k\.int v)(hq:pe (.bl (b || !decide (v=before)))/\d.nx (ρ.set i (some (.bl (b || !decide (v=before)),false))) s) :
  LD M i (fT (U3 (fV (lj n2)) (f2 (fT (LJ (jt n) (lj m))) (jt n8) U4))) d ρ s0:=by
 rw[es];unfold LD fT U3 fV lj;rw[h2];cases b with
 |true=>calc hq
 |false=>change f2 _ _ _ _ _;unfold f2 LJ jt;dsimp only;rw[h5];change (match 190[m]? with|some (some (t,false))=>_|_=>False);rw[h6];show#[_,hg,?_];change (match 190[n8]? with|some (some (t,_))=>_|_=>False);rw[h8];calc hq
def Mj{g u:rZ}{d:LB}{s:S2}{t:T}(h:ρ[n]?\some (t,false))(ht:y3 t=false)(hg:g d ρ s):wIf (mq (f2 (jt n) (fT (fC .bY)) wu)) g u d ρ s:=by
 unfold wIf mq f2 jt;rw[h];change if (!y3 t)=true then g d ρ s else u d ρ s
 rw[ht];calc hg
def wO(M:MG)(p:Wt):T:=.tup [.ob (if p.1=true then M.a1 else M.a2),.kt (kK p.2.1),.int p.2.2]
theorem To(M:MG)(E F:List Ent):∀l:List Wt,G_ (l.map (wT M.a1 M.a2 E F))\l.map (wO M)
 |[]=>rfl
 |p::l=>by rw[kn,kn];let(b,k,v):=p;unfold G_;rw[To M E F l];cases b<;>rfl
def Xa(p:Tb)(w:Bool)(k:Int×Str)(v:Int):(if w=true then (sE p.E p.F).G8 (kK k) (.int v) else (sE p.E p.F).put2 (kK k) (.int v))=sE (p.put w k v).E (p.put w k v).F:=by
 cases w with
 |true=>change S2.G8 _ _ _=_;unfold S2.G8 sE Tb.put;dsimp only;rw[CB p.E k v,gk];rfl
 |false=>change S2.put2 _ _ _=_;unfold S2.put2 sE Tb.put;dsimp only;rw[CB p.F k v,gk];rfl
def dOf(p:Tb)(w:Bool):T:=if w=true then .dt (eQ p.E) (eO p.E) else .dt (eQ p.F) (eO p.F)
def aeo(M:MG)(p:Tb)(w:Bool):o_ M (sE p.E p.F) (some (.ob (if w=true then M.a1 else M.a2),false))\(dOf p w,false):=by
 cases w with
 |true=>calc agh M _
 |false=>calc agn M _
def aep{M:MG}{f:FE}{d:LB}{p:Tb}{ub:Bool}{k:Int×Str}{v:Int}(hf:∀Q:T->Prop,Q (.int v)->f (ρ.map (o_ M (sE p.E p.F))) Q)(h5:ρ[n]?\some (.ob 487,false))(h6:ρ[m]?\some (.kt (kK k),false))(l1:p.E.length<16777216)(l2:p.F.length<16777216)(hq:d.nx ρ (sE (p.put ub k v).E (p.put ub k v).F)):aen M n m f d ρ (sE p.E p.F):=by
 rw[<- Xa] at hq;cases ub with
 |true=>calc .inl (hf _ #[.inl #[_,9],h5,by change (eO p.E).length<_;unfold eO;rw[bS];calc l1,kK k,h6,hq])
 |false=>calc .inr (hf _ #[.inl #[_,9],h5,by change (eO p.F).length<_;unfold eO;rw[bS];calc l2,kK k,h6,hq])
def ago(p:Tb)(ub:Bool):∃EE:List Ent,dOf p ub=.dt (eQ EE) (eO EE)/\(∀k,p.get ub k=eC EE k)/\∀k v,dOf (p.put ub k v) ub=.dt (eQ (eU EE k v)) (eO (eU EE k v)):=by
 cases ub with
 |true=>calc#[p.E,9,λ_=>rfl,λ_ _=>rfl]
 |false=>calc#[p.F,9,λ_=>rfl,λ_ _=>rfl]
section
variable{dB:Addr}
abbrev Q6:χ:=["layout","sets","lacking","place","home","held","key","wanted","before"]
def Av:az Q6 ["layout","sets"] (ar xG):=457
theorem Ml(D:Df K mg "grown" xG ["layout","sets"] f fd)(aj:ug K au)(Mg:MgP mg)(Q7:bP P w K mg base "wants" qaG 04 (bQ K 03 (CI au dB))):bP P w K mg base "grown" ["layout","sets"] (04+1) (spG K dB (Md au)):=by
 show D.fj (fnG D.F Av 9 15 λbM A outer s H E M hC hB hr l s0 q hG=>?_);let nd:=Av.nd;let hu:=bH.dW hr;let yr:=va hu;subst hC;show#[_,(m3 (z6 λ_ _=>aJ (i:=2) nd 9 7 (Ψ mm) gW)
  (m3 (WD nH 9 (λ_ _=>gK 19 Mg.enumerate (ω 523)) (λ_ _=>e_ (n:=2) 9 (bq (aM (i:=03) nd 9 7 gW) (bq (aM (i:=04) nd 9 7 gW) dI)))
   (ql (ad5 (λ_ _=>y4 (ae 04) (ν gR))
    (ql (QA nH 9 (λ_ _=>ω (aw Q7 hr (aa 489 (aa 171 (aa (ah 03) ak))))) (λ_ _=>e_ (n:=03) 9 (bq (aM (i:=05) nd 9 7 gW) (bq (aM (i:=06) nd 9 7 gW) (bq (aM (i:=07) nd 9 7 gW) dI))))
     (m3 (LF (i:=08) nd 9 7 (λ_ _=>ω (jN yr (ae 05) (ah 06) (ω ag) #[9,9,9,9])))
     (m3 (W_ 05 06 yr (λ_ _=>ω (qS (ae 08) (ae 07))))
     (ql (LF (i:=2) nd 9 7 (λ_ _=>ω (Se (VE.vp 514) (v8 (Jv hu (ν (QC yr (ae 05) (ah 06))) (ae 08)))))))))))
    Qy)))
  (ql (z6 λ_ _=>aA (Ψ (VE.vp 514)))))),?_]
 let(rs,E0,F0,rfl,rfl,bZ,hn,Bh,I0,hq):=hG;show#[9,9,_,9,?_];show#[λi ρ s=>∃b3 b4 b5 b6 b7 b8,ρ=rho M au rs (d9 rs E0 F0 i).b b3 b4 b5 b6 b7 b8/\s=sE (d9 rs E0 F0 i).E (d9 rs E0 F0 i).F,#[none,none,none,none,none,none,9,9],?_,?_];rintro i t ρ s ht ⟨b3,b4,b5,b6,b7,b8,rfl,rfl⟩;let(hi,rfl):=Me rs i ht;obtain⟨r,bV⟩:∃r,rs[i]?\r:=#[_,eY hi];let I:=(m6 I0 i ()).1;let gs:=oB rs E0 F0 i;generalize hp:d9 rs E0 F0 i=p at I gs ⊢;show#[9,9,(by change lK [aP (c5 au rs),aP (.ob M.a),aP (.bl p.b),aP (.int (i:Int)),aP (oT _),pd b5,pd b6,pd b7,pd b8]=true;erw[Cw,Cv,rY]),?_];cases hh:gG (bh rs) i with
 |none=>
  let wn:wA rs p.E p.F i=[]:=by unfold wA WN;rw[bV,hh];rfl
  let gs:d9 rs E0 F0 (i+1)=p:=by rw[gs];unfold stp;rw[wn];rfl
  calc#[some (.int (i:Int)),some .bY,b5,b6,b7,b8,by rw[gs];rfl,by rw[gs]]
 |some h=>
  let wa:wA rs p.E p.F i=(CG rs i h r).flatMap (wM p.E p.F):=by unfold wA WN;rw[bV,hh]
  let gs:d9 rs E0 F0 (i+1)=((CG rs i h r).flatMap (wM p.E p.F)).foldl pY p:=by rw[gs];unfold stp;rw[wa]
  show Mj (t:=.int (h:Int)) 9 9 ?_;change LI M _ _ _ _ [aP (c5 au rs),aP (.ob M.a),aP (.bl p.b),aP (.int (i:Int)),aP (.int (h:Int)),pd b5,pd b6,pd b7,pd b8] (sE p.E p.F);unfold LI;change (fT (qX 03 (gj (lj 0) (gj (lj 1) (gj (lj 03) t9))) (CI au M.C))) [some (c5 au rs,false),o_ M (sE p.E p.F) (some (.ob M.a,false)),some (.bl p.b,false),some (.int (i:Int),false),some (.int (h:Int),false),o_ M (sE p.E p.F) (pd b5),o_ M (sE p.E p.F) (pd b6),o_ M (sE p.E p.F) (pd b7),o_ M (sE p.E p.F) (pd b8)] _;rw[agg _ _ hB];let hro:=bZ r (fM bV);show#[9,rs,M.a1,M.a2,p.E,p.F,i,r,h,9,bV,hro.1,hro.2,hh,(),λk=>kJ (bits_le (I.bl true k)) hn,?_];let hwk:∀w∈(CG rs i h r).flatMap (wM p.E p.F),w.2.1∈je rs.length (tT rs) w.1/\below rs.length w.2.2:=λw hw=>(LU I hi (by rw[wa];calc hw)).choose_spec.2.2;generalize (CG rs i h r).flatMap (wM p.E p.F)=L at gs hwk;show#[L.map (wO M),To M p.E p.F L,λj ρ s=>∃b5 b6 b7 b8,ρ=rho M au rs ((L.take j).foldl pY p).b (some (.int (i:Int))) (some (.int (h:Int))) b5 b6 b7 b8/\s=sE ((L.take j).foldl pY p).E ((L.take j).foldl pY p).F,#[b5,b6,b7,b8,9,9],?_,?_];rintro j t ρ s hj ⟨b5,b6,b7,b8,rfl,rfl⟩;rw[fW] at hj;let(u,hw,rfl):=X1.mp hj;let es:(L.take (j+1)).foldl pY p=pY ((L.take j).foldl pY p) u:=by rw[T2,hw,RW];rfl
  let Ij:Iv rs.length (tT rs) ((L.take j).foldl pY p):=(xE I λv hv=>hwk v (List.mem_of_mem_take hv)).1;let l1:=Ij.ad8;let l2:=Ij.ad9;let l3:(tT rs).length * (rs.length+1)<=400 * 65:=Nat.mul_le_mul Bh ();generalize (L.take j).foldl pY p=pj at es Ij l1 l2 ⊢;let(ub,uk,uv):=u;let(EE,hd,hg,agp):=ago pj ub;show#[9,9,(by change lK [aP (c5 au rs),aP (.ob M.a),aP (.bl pj.b),aP (.int (i:Int)),aP (.int (h:Int)),aP (.ob _),aP (.kt (kK uk)),aP (.int uv),pd b8]=true;erw[Cw,Cv,rY]),?_];show Q5 (ks:=eQ EE) (ts:=eO EE) (k:=kK uk) (by change some (o_ M (sE pj.E pj.F) (some (.ob 487,false)))=_;rw[aeo,hd]) 9 ?_;rw[kU,<- hg];show#[.inl #[_,9],aep (v:=bitOr (pj.get ub uk) uv) (k:=uk) (ub:=ub) (λQ hQ=>hQ) 9 9 () () ?_];show Mi (M:=M) (i:=2) (n:=05) (m:=06) (n2:=2) (n8:=08) (ρ:=[some (c5 au rs,false),some (.ob M.a,false),some (.bl pj.b,false),some (.int (i:Int),false),some (.int (h:Int),false),some (.ob 487,false),some (.kt (kK uk),false),some (.int uv,false),some (.int (pj.get ub uk),false)]) 9 (ks:=eQ (eU EE uk (bitOr (pj.get ub uk) uv))) (ts:=eO (eU EE uk (bitOr (pj.get ub uk) uv))) (k:=kK uk) (b:=pj.b) (v:=bitOr (pj.get ub uk) uv) (before:=pj.get ub uk) 9 (by change some (o_ M (sE (pj.put ub uk (bitOr (pj.get ub uk) uv)).E (pj.put ub uk (bitOr (pj.get ub uk) uv)).F) (some (.ob 487,false)))=_;rw[aeo,agp]) 9 9 (QJ uk _ EE) ?_;calc#[.inr #[_,9],some (.ob 487),some (.kt (kK uk)),some (.int uv),some (.int (pj.get ub uk)),by rw[es];rfl,by rw[es];rfl];rintro ρ s ⟨b5',b6',b7',b8',rfl,rfl⟩;rw[bS,NZ];exact#[_,_,_,_,_,_,by rw[gs],by rw[gs]]
 rintro ρ s ⟨b3,b4,b5,b6,b7,b8,rfl,rfl⟩;rw[Mh] at *;show#[(by change lK [aP (c5 au rs),aP (.ob M.a),aP (.bl _),pd b3,pd b4,pd b5,pd b6,pd b7,pd b8]=true;erw[Cw,Cv,rY]),hq]
end
def E3(ts:Λ)(q:Λ->Prop):Prop:=∃rs:F2,ts=[.lst 86]/\Gv rs/\5<=64/\(tT rs).length<=400/\(∀r∈rs,clR rs r/\Yw r) /\
 ∀m,(∀j<m,(m7 rs (j+1)).b=true)->(m7 rs (m+1)).b=false->∀bs cs:List Ent,bs.Perm (Ir (m7 rs (m+1)).E)->cs.Perm (Ir (m7 rs (m+1)).F)->q [.lst (bs.map Cr),.lst (cs.map Cr)]
theorem xR:∀bs:List Ent,qN (bs.map Cr)=true
 |[]=>rfl
 |b::bs=>by rw[kn,qN,xR bs];rfl
section
variable{dB:Addr}
abbrev Mm:χ:=["program","layout","sets"]
def vz:az Mm qav (ar sf):=457
theorem Hi(D:Df K mg "makers" sf qav f fd)(M:ug K au)(M1:StC K dB)(sL:zF P w K mg base "Layout" au qaw 2 1 (xa au))(Xb:zF P w K mg base "Sets" dB qaD 1 2 (S8 dB))(Q8:bP P w K mg base "grown" ["layout","sets"] 05 (spG K dB (Md au)))(Hj:bP P w K mg base "list_of" ["held"] 1 (bQ K 1 ER)):bP P w K mg base "makers" qav 06 (VB K 1 E3):=by
 let(Mn,Hk,sM,sN,sO,sP):=sL;let(agq,aeS,Xc,Xd,Xe,Xf):=Xb;let(aeT,aeq,Q9,Q_,Ra,Rb):=Q8;let(Yz,Xg,Hl,Hm,Hn,Ho):=Hj;show D.fj (fnD D.F vz 9 15 λbM A outer s H E Ox hr ts q hG=>?_);let nd:=vz.nd;let np:∀{i:Nat},aY #[H,[],Ox] i:=gW;show#[_,gr (aJ (i:=1) nd 9 7 (Ψ (wU sM sP 42 19 sN sO (aa 489 ak))) np)
  (C0 (i:=2) (j:=1) 9 15 nd 9 9 7 7 7 nH Xc Xf (λt1 t2 q hq=>#[t1,t2,9,hq]) 42 19 Xd Xe Rb 42 19 Q9 Q_ Ra Ho 42 19 Hl Hm Hn M1.cl M1.xI M1.qo),λ_=>?_]
 let(rs,rfl,W,hn,Bh,bZ,hq):=hG;show#[9,rs,9,W,(),?_];show#[by change 2<03;decide,?_];show#[λm s=>∃j,s=sE (m7 rs j).E (m7 rs j).F/\(∀i<j,(m7 rs 525).b=true)/\m=mu 5 (tT rs) (m7 rs j),#[_,0,9,λi hi=>absurd hi (Nat.not_lt_zero i),9],?_];rintro m s ⟨j,rfl,hb,rfl⟩;let I:=(LV rs j).1;let I':=(LV rs (j+1)).1;let l1:=I'.ad8;let l2:=I'.ad9;let l3:(tT rs).length * (rs.length+1)<=400 * 65:=Nat.mul_le_mul Bh ();show#[rs,(m7 rs j).E,(m7 rs j).F,9,9,bZ,hn,Bh,I.bool false,_,9,?_];split
 rename_i z
 let z:(m7 rs (j+1)).b=true:=z;let gn:=(m6 (b:=(m7 rs j).b) I 5 82).2;exact#[_,aeb gn.1 (gn.2 z),j+1,9,λi hi=>by by_cases e:i=j;rw[e];calc z;calc hb i (),9]
 rename_i z
 let z:(m7 rs (j+1)).b=false:=by
  cases h:(m7 rs (j+1)).b with
  |false=>rfl
  |true=>exact absurd h z
 intro o1 o2;show#[(m7 rs (j+1)).E,o1,9,(),λbs p=>#[_,9,xR bs,?_]];show#[(m7 rs (j+1)).F,o2,9,(),λcs p2=>#[_,9,xR cs,?_]];calc hq j hb z bs cs p p2
end
end iX
namespace MK
open PySem L2 VT Gen BS K5 Iq Lay
open yR (cW k_)
def KOk:Ky->Prop
 |.fld x=>cW x=true
 |.op (.nm y)=>cW y=true
 |.op (.nu _)=>True
def kO:Rw->Prop
 |.get _ _ k=>KOk k
 |.set _ k _=>KOk k
 |_=>True
def inR(ys:χ)(pl:Plan):Rw->Prop
 |.get _ _ k=>wD ys k
 |.set _ k _=>wD ys k
 |.call _ f as=>∃ps,(f,ps)∈pl/\as.length=471
 |_=>True
def Mo{ck body}(h:Body ys pl ck body):∀r∈body,inR ys pl r:=by
 induction h with
 |nil=>intro r hr;cases hr
 |step _ h2 ih=>
  intro r hr;rcases fO.mp hr with hr|hr
  exact ih r hr
  . obtain⟨o,ho,rfl,_⟩|⟨o,ho,rfl,_⟩|⟨y,hy,rfl,_⟩|⟨s0,_,rfl,_⟩|⟨s0,x,_,rfl,_⟩|⟨r',bV,rfl,_⟩:=h2
    all_goals erw[dQ,gQ,aah] at hr
    subst hr;trivial;subst hr;trivial;obtain rfl|rfl:=hr<;>trivial
    subst hr;trivial;subst hr;trivial;subst hr;cases r<;>first|trivial|calc bV.2.2|calc bV.2.1
def Rc(h:Pre ys pl n rs):(∀r∈rs,inR ys pl r)/\∀k<n,∀f ps,pl[k]?\(f,ps)->Rw.df f ps∈rs:=by
 induction h with
 |zero=>calc#[λr hr=>(nomatch hr),λk hk=>absurd hk (Nat.not_lt_zero k)]
 |@succ k rs f ps ck body o sk _ hk hb ho hs ih=>
  show#[λr hr=>?_,λj hj f' WW e=>?_];rcases List.mem_append.mp hr with hr|hr
  calc ih.1 r hr;rcases List.mem_cons.mp hr with rfl|hr
  trivial;rcases fO.mp hr with hr|hr
  have:=Mo hb r hr;cases r with
  |call x g as=>let(ps,h1,h2):=this;calc#[ps,acC h1,h2]
  |_=>exact this
  rcases fO.mp hr with hr|hr
  rw[(List.mem_replicate.mp hr).2];trivial;rcases dQ.mp hr with rfl|hr
  trivial;obtain rfl|rfl:=hs
  cases hr;rw[fE.mp hr];trivial;by_cases z:j=k;subst z;rw[hk] at e;cases e;calc jY _ iz;calc hX _ (ih.2 j () f' WW e)
structure Pg(rs:F2):Prop where
 B:Bl rs
 le:5<=60
 ky:∀r∈rs,kO r
 cl:∀x g as,Rw.call x g as∈rs->as.length<=04/\∃a,fnOf rs g\a
def Xh(h:Pre ys pl 518 rs)(le:5<=60)(hn:∀y∈ys,cW y=true)(p4:∀p∈pl,p.2.length<=04):Pg rs:=by
 let B:Bl rs:=#[adt (VL h),PD h];let(h1,h2):=Rc h;let kk:∀k,wD ys k->KOk k:=λk hk=>by
  cases k with
  |fld x=>calc hn x hk
  |op o=>cases o with
   |nm y=>calc hn y hk
   |nu _=>trivial
 show#[B,le,λr hr=>?_,λx g as hr=>?_];have:=h1 r hr;cases r with
 |get x y k=>calc kk k this
 |set y k o=>calc kk k this
 |_=>trivial
 let(ps,a,b):=h1 _ hr;let(k,hk):=List.getElem?_of_mem a;let(i,hi):=List.getElem?_of_mem (h2 k (c7.mp hk).1 g ps hk);calc#[by rw[b];calc p4 _ a,DO B hi]
def Pg.len(p:Pg rs):(tT rs).length<=300/\∀n≤60,(mvs rs n).length<=300:=by
 let(h1,h2):=WV (rs:=rs) λr hr x g as e=>by subst e;exact (p.cl x g as hr).1
 have:=p.le;calc#[(),λn hn=>by have:=h2 n;lia]
end MK
namespace VT
open PySem PySem.Spec PyProof.Rows L2 PySem.MeetsSeq PySem.SeqAt
end VT
namespace VT
open PySem PySem.Spec PyProof.Rows L2
end VT
namespace Nt
open PySem L2 VT Gen K5 Lay BS Iq MK
open PySem.Builtin (bitOr bitAnd)
open iX (jL Ir)
open Us (sF Ap Aq)
abbrev lY:Stmt:=top 025
abbrev xS:Stmt:=top 36
abbrev i0:Stmt:=top 50
abbrev lZ:Stmt:=top 49
abbrev jS:Stmt:=top 48
abbrev i4:Stmt:=top 51
abbrev gz:Stmt:=top 54
abbrev fz:Stmt:=top 53
abbrev jT:Stmt:=top 52
structure MgB(mg:qae):Prop where
 enumerate:mg "enumerate"=none
structure YA(K:qaf)(C:Addr):Prop where
 cl:Ic K C
 gA:cN K C "layout"
 E4:cN K C "table"
 sQ:cN K C "arrivals"
abbrev pH(i:Int)(x:Str):Int×Str->Bool:=λk=>decide (k=(i,x))
def f7(rs:F2):List Ent:=Classical.epsilon λE=>∃m,(∀j<m,(m7 rs (j+1)).b=true)/\(m7 rs (m+1)).b=false/\E=(m7 rs (m+1)).E
def Xi(h1:∀j<m,(m7 rs (j+1)).b=true)(h2:(m7 rs (m+1)).b=false):f7 rs=(m7 rs (m+1)).E:=by
 let(m',g1,g2,g3):=Classical.epsilon_spec (p:=λE=>∃m,(∀j<m,(m7 rs (j+1)).b=true)/\(m7 rs (m+1)).b=false/\E=(m7 rs (m+1)).E) #[_,m,h1,h2,9];let e:m'=m:=by
  rcases Nat.lt_trichotomy m' m with z|z|z
  rw[h1 m' z] at g2;cases g2;calc z;rw[g1 m z] at h2;cases h2
 subst e;calc g3
def hv(rs:F2)(h:Nat)(x:Str):Int:=QF (pH (h:Int) x) (Ir (f7 rs))
def jf(CF C:Addr)(rs:F2)(bs cs:List Ent)(o:Obj):T:=.ins CF ["layout","table","arrivals"] [c5 C rs,.tup [.lst (bs.map Cr),.lst (cs.map Cr)],.df o (eQ (fu rs 5)) (eO (fu rs 5))]
abbrev xT:=Int×Str×Str
def i5(t:xT):T:=.tup [.int t.1,.str t.2.1,.str t.2.2]
def sR(rs:F2)(h:Nat)(y c:Str)(j:Nat):Bool:=match rs[j]?,gG 23 j with
 |some (.set y' k _),some h'=>decide (eV k=c) && !decide (bitAnd (hv rs h y) (hv rs h' y')=0)
 |_,_=>false
def cellK(rs:F2)(h:Nat)(y c:Str)(n:Nat):List xT:=((List.range n).filter (sR rs h y c)).map λ(j:Nat)=>((j:Int),"cell",c)
def m_(rs:F2)(i:Nat):List xT:=match rs[i]?,gG 23 i with
 |some (.get _ y k),some h=>cellK rs h y (eV k) 5
 |_,_=>[]
def Tp(rs:F2)(f:Str)(j:Nat):Bool:=match rs[j]? with
 |some (.call _ g _)=>decide (g=f)
 |_=>false
def xU(rs:F2)(f:Str):qao:=(List.range 5).filter (Tp rs f)
def Rf(rs:F2)(g:Str):Int:=match wG (bf rs 5) g with
 |some s=>((endsAt 23 5 s).getD 0:Nat)
 |none=>0
def gB(rs:F2)(i:Nat):List xT:=match rs[i]? with
 |some (.df f _)=>(xU rs f).map λ(j:Nat)=>((j:Int),"call",f)
 |some (.call _ g _)=>[(((gF 23 i).getD 0:Nat),"head",""),(Rf rs g,"give",g)]
 |some _=>[(((gF 23 i).getD 0:Nat),"head","")]
 |none=>[]
def Xj(rs:F2)(i:Nat):Bool:=match rs[i]? with
 |some (.n5 _)=>true
 |_=>false
def YB(rs:F2):Nat->Option Nat->Int
 |0,_=>0
 |_,none=>0
 |n+1,some i=>bitOr (if Xj rs i=true then Bn [i] else 0) (YB rs n (gF 23 i))
def Tq(rs:F2)(i:Nat):Int:=YB rs 525 (some i)
def xV(rs:F2)(j i:Nat):Bool:=!decide (gG 23 j=il rs) || !decide (gG 23 i=il rs) || decide (j<i) || !decide (bitAnd (Tq rs j) (Tq rs i)=0)
def vA(rs:F2)(i j:Nat):Bool:=match rs[j]? with
 |some r=>sF r && !decide (j=i) && xV rs j i
 |none=>false
def pB(rs:F2)(i n:Nat):List xT:=((List.range n).filter (vA rs i)).map λ(j:Nat)=>((j:Int),"stop","")
def ng(p:Nat->Bool)(f:Nat->α)(n:Nat):((List.range (n+1)).filter p).map f=((List.range n).filter p).map f++if p n=true then [f n] else []:=by
 rw[T5,List.filter_append,nG]
 congr 1
 by_cases h:p n=true;rw[ι h,YG h];rfl;rw[θ h,YH h];rfl
def Aw(W:Gv rs){o:Nat}(hi:i<=5)(h:gF 23 i\o):o<i:=by unfold gF at h;rw[Fp] at h;calc (Kk W i hi _ _ h).1
theorem xW{rs:F2}(W:Gv rs):∀(n i:Nat),i<n->i<5->YB rs n (some i)=Tq rs i
 |0,i,h,_=>absurd h (Nat.not_lt_zero i)
 |n+1,i,h,hi=>by
  change bitOr _ (YB rs n (gF 23 i))=bitOr _ (YB rs i (gF 23 i))
  congr 1
  cases e:gF (bh rs) i with
  |none=>cases n<;>cases i<;>rfl
  |some o=>have:=Aw W 70 e;rw[xW W n o 70 70,xW W i o this 70]
def wrO(rs:F2):Option Nat->Int
 |some i=>Tq rs i
 |none=>0
def Rg(W:Gv rs)(hi:i<5):Tq rs i=bitOr (if Xj rs i=true then Bn [i] else 0) (wrO rs (gF 23 i)):=by
 change bitOr _ (YB rs i (gF 23 i))=_
 congr 1
 cases e:gF (bh rs) i with
 |none=>cases i<;>rfl
 |some o=>have:=Aw W 70 e;calc xW W i o this 70
def Hq(a b c:Int):bitOr (bitOr a b) c=bitOr a (bitOr b c):=g9 λi=>by rw[dZ,dZ,dZ,dZ,Bool.or_assoc]
def Ax(a:Int):bitOr a 0=a:=g9 λi=>by rw[dZ,BS.dm,Bool.or_false]
def Mp(a:Int):bitOr 0 a=a:=g9 λi=>by rw[dZ,BS.dm,HZ]
def aer{a b:Option Nat}{q:qam}(h:q (.vw (.bl (!decide (a=b))))):U4 (oT a) (oT b) q:=by
 cases a with
 |none=>cases b with
  |none=>calc#[9,9,by simp[oT,dep],h]
  |some y=>calc#[9,9,by simp[oT,dep],h]
 |some x=>cases b with
  |none=>calc#[9,9,by simp[oT,dep],h]
  |some y=>change q (.vw (.bl (!decide (x=(y:Int)))));let e:decide (x=(y:Int))=decide (some x\y):=aad.mpr #[λz=>aaa some (Int.ofNat_inj.mp z),λz=>by cases z;rfl];rw[e];calc h
def Ay(C:Addr)(ts:Λ)(q:qam):Prop:=∃(rs:F2)(f:Str),ts=[c5 C rs,.str f]/\5<=100/\q (.fr (.lst (nT (xU rs f))))
def Mq(ts:Λ)(q:qam):Prop:=∃(E F:List Ent)(i:Int)(x:Str),ts=[.tup [.lst (E.map Cr),.lst (F.map Cr)],.int i,.str x]/\q (.vw (.int (QF (pH i x) E)))
def aes(CF C:Addr)(ts:Λ)(q:qam):Prop:=∃(rs:F2)(bs cs:List Ent)(o:Obj)(i h:Nat)(p:Int)(r:Rw)(l:Λ)(x:Str),ts=[jf CF C rs bs cs o,.int (i:Int),.int p]/\rs[i]?\r/\aZ r=.tup l/\h7 l p\.str x/\gG 23 i\h/\bs.Perm (Ir (f7 rs))/\q (.vw (.int (hv rs h x)))
def Tr(CF C:Addr)(ts:Λ)(q:qam):Prop:=∃(rs:F2)(bs cs:List Ent)(o:Obj)(i j h h':Nat)(x y x':Str)(k k':Ky)(v:nJ),ts=[jf CF C rs bs cs o,.int (i:Int),.int (j:Int)]/\rs[i]?\.get x y k/\rs[j]?\.set x' k' v/\gG 23 i\h/\gG 23 j\h'/\bs.Perm (Ir (f7 rs))/\q (.vw (.bl (!decide (bitAnd (hv rs h y) (hv rs h' x')=0))))
def Mr(CF C:Addr)(ts:Λ)(q:qam):Prop:=∃(rs:F2)(bs cs:List Ent)(o:Obj)(i h:Nat),ts=[jf CF C rs bs cs o,.int (i:Int)]/\Bl rs/\5<=100/\i<5/\(∀r∈rs,iX.Yw r)/\gG 23 i\h/\bs.Perm (Ir (f7 rs))/\q (.fr (.lst ((m_ rs i).map i5)))
def Ms(C:Addr)(ts:Λ)(q:qam):Prop:=∃(rs:F2)(i h:Nat)(r:Rw),ts=[c5 C rs,.int (i:Int)]/\Pg rs/\rs[i]?\r/\gG 23 i\h/\q (.fr (.lst ((gB rs i).map i5)))
def E5(C:Addr)(ts:Λ)(q:qam):Prop:=∃(rs:F2)(i:Nat),ts=[c5 C rs,.int (i:Int)]/\Gv rs/\5<=100/\i<5/\q (.vw (.int (Tq rs i)))
def Mt(C:Addr)(ts:Λ)(q:qam):Prop:=∃(rs:F2)(j i:Nat),ts=[c5 C rs,.int (j:Int),.int (i:Int)]/\Gv rs/\5<=100/\i<5/\j<5/\q (.vw (.bl (xV rs j i)))
def Ts(C:Addr)(ts:Λ)(q:qam):Prop:=∃(rs:F2)(i:Nat),ts=[c5 C rs,.int (i:Int)]/\Gv rs/\5<=100/\i<5/\(∀r∈rs,Ap r)/\q (.fr (.lst ((pB rs i 5).map i5)))
def C1(rs:F2):dR 86=(List.range 5).map λ(j:Nat)=>.tup [.int (j:Int),aZ (rs.getD j .skip)]:=by show YR λj=>?_;unfold dR;rw[X3,fW,fW];by_cases h:j<5;rw[RP h,eY h];change _\T.tup [.int j,aZ (rs.getD j .skip)];rw[vI,eY h];rfl;rw[Iz (show rs.length<=j by omega),Iz (by rw[pJ];omega)];rfl
def jg{c:Bool}{A:Prop}(h1:c=true->A)(h2:c=false->B):if c=true then A else B:=by
 cases c with
 |true=>calc h1 9
 |false=>calc h2 9
def getD_at(h:rs[j]?\r):rs.getD j .skip=r:=by rw[vI,h];rfl
section
variable{bU:Addr}
abbrev sS:χ:=["layout","function","program"]
def pD:az sS qaJ (ar lY):=457
def jU:(sS++(["place","row"]:χ)).Nodup:=by decide +kernel
def Az(D:Df K mg "calls_of" lY qaJ f fd)(M:MgB mg)(M1:ug K au):bP P w K mg base "calls_of" qaJ 1 (bQ K 2 (Ay au)):=by
 show D.fj (gf D.F pD 9 λbM A outer s H E Ox hr ts q hG=>?_);let nd:=pD.nd;let hu:=bH.dW hr;let np:∀{i:Nat},aY #[H,[],Ox] i:=gW;let aj:=M1;show#[_,(af (aJ (i:=2) nd 9 7 (Ψ 78) np)
  (aq (aA (Ψ (eI 9 19 (gK 19 M.enumerate 514) (λ_ _ _ _ _ _=>(e_ (n:=2) 9 (bq (aM (i:=03) jU 9 7 np) (bq (aM (i:=04) jU 9 7 np) dI)))) (λ_ _ _ _ _ _=>(j5 (VW.vc (c9 (bG hu (ν (ay (ae 04) 4)) 502) (c0 (bG hu (ν (ay (ae 04) 4)) 109)))))) (λ_ _ _ _ _ _=>(ah 03))))))),λ_=>?_]
 let(rs,f',rfl,hn,hq):=hG;show#[9,_,9,9,?_];change (dR 86).length<=sizeLine/\cU _ _ _ _ (dR 86) _;rw[C1];show#[by rw[bS,pJ];calc bW 70,gx (λ_ _ _ _ _=>trivial) (λj hj k s hk=>?_) hq];obtain⟨r,bV⟩:∃r,rs[j]?\r:=#[_,eY (Bf.mp hj)];rw[getD_at bV];unfold Tp at hk;rw[bV] at hk;show#[9,9,?_];cases r with
 |call x g as=>calc#[_,ai 9,_,ai 9,hk]
 |_=>calc#[_,ai 9,hk]
abbrev Rh:χ:=["table","home","name","told","part"]
def AA:az Rh qaK (ar xS):=457
def Mu(D:Df K mg "holds" xS qaK f fd):bP P w K mg base "holds" qaK 1 (bQ K 03 Mq):=by
 show D.fj (gf D.F AA 9 λbM A outer s H E Ox hr ts q hG=>?_);let nd:=AA.nd;let hu:=bH.dW hr;let np:∀{i:Nat},aY #[H,[],Ox] i:=gW;show#[_,(af (aJ (i:=03) nd 9 7 (Ψ ag) np)
  (af (cQ nH 9 (eG (ω 106)) (aM (i:=04) nd 9 7 np)
   (aq (bb (VW.vc (c9 (bG hu (ν (ay (ae 04) 4)) 109) (c0 (bG hu (ν (ay (ae 04) 4)) 124))))
    (aq (lq (i:=03) nd 9 7 (ν (ay (ae 04) 4)) k7 gH np))
    aE)))
  (aq (aA (Ψ (VE.vp (ah 03))))))),λ_=>?_]
 let(E,F,i,x,rfl,hq):=hG;show#[_,ai 9,eJ (λn ρ=>∃v b4,ρ=[aP (.tup [.lst (E.map Cr),.lst (F.map Cr)]),aP (.int i),aP 535,aP (.int v),b4]/\v=QF (pH i x) (E.take n)) #[_,none,9,9] ?_ ?_];rintro n e ρ he ⟨_,b4,rfl,rfl⟩;let hs:=QH (p:=pH i x) he;show#[_,ai 9,cJ (λz1=>#[_,ai 9,cJ (λz2=>?_) (λz2=>?_)]) (λz1=>?_)];let hp:pH i x e.1=true:=ο (Prod.ext z1 z2);show#[_,ai 9,_,_,9,?_];rw[hs];unfold WK;rw[ι hp];let hp:¬ pH i x e.1=true:=λz=>z2 (by rw[Θ z]);show#[_,_,9,?_];rw[hs];unfold WK;rw[θ hp];let hp:¬ pH i x e.1=true:=λz=>z1 (by rw[Θ z]);show#[_,_,9,?_];rw[hs];unfold WK;rw[θ hp];rintro ρ ⟨_,b4,rfl,rfl⟩;rw[NZ];calc hq
abbrev xX:χ:=qaL
def uz:az xX qaL (ar i0):=457
def uA(D:Df K mg "records_of" i0 qaL f fd)(M:YA K bU)(M1:ug K au)(Ri:bP P w K mg base "holds" qaK 1 (bQ K 03 Mq)):bP P w K mg base "records_of" qaL 2 (bQ K 03 (aes bU au)):=by show D.fj (gf D.F uz 9 λbM A outer s H E Ox hr ts q hG=>?_);let br:=M;let aj:=M1;show#[_,(aq (aA (Ψ (aw Ri hr (aa (ω (aQ br.cl br.E4 37)) (aa (ω (ay (ν (aQ 486 aj.f9 (ν 522))) 109)) (aa (ω (ay (ν (ay (ν (aQ 486 aj.bt (ν 522))) 109)) 124)) ak))))))),λ_=>?_];let(rs,bs,cs,o,i,h,p,r,l,x,rfl,bV,el,ex,hh,hp,hq):=hG;let hi:=(c7.mp bV).1;let er:=dc bV;rw[el] at er;show#[9,_,9,9,_,9,9,_,9,.int h,(lC hi).trans (by rw[hh];rfl),9,_,9,9,_,9,_,er,_,ex,9,bs,cs,h,x,9,?_];rw[QG hp];calc hq
abbrev C2:χ:=qaM
def AB:az C2 qaM (ar lZ):=457
def AD(D:Df K mg "may_meet" lZ qaM f fd)(ni:bP P w K mg base "records_of" qaL 2 (bQ K 03 (aes bU au))):bP P w K mg base "may_meet" qaM 03 (bQ K 03 (Tr bU au)):=by show D.fj (gf D.F AB 9 λbM A outer s H E Ox hr ts q hG=>?_);let hu:=bH.dW hr;show#[_,(aq (aA (Ψ (Jv hu (ν (j2 (ν (aw ni hr (aa 489 (aa 171 509)))) (ν (aw ni hr (aa 489 (aa 514 509)))))) 4)))),λ_=>?_];let(rs,bs,cs,o,i,j,h,h',x,y,x',k,k',v,rfl,hi,hj,hh,hh',hp,hq):=hG;calc#[9,rs,bs,cs,o,i,h,2,_,_,y,9,hi,9,ai 9,hh,hp,9,rs,bs,cs,o,j,h',1,_,_,x',9,hj,9,ai 9,hh',hp,hq]
abbrev AE:χ:=["facts","place","program","kind","told","other","row"]
def nq:az AE qaN (ar jS):=457
def xY(D:Df K mg "cell_ties" jS qaN f fd)(M:MgB mg)(M1:YA K bU)(M2:ug K au)(gy:bP P w K mg base "class_of" ["key"] 03 (bQ K 1 iX.xJ))(C3:bP P w K mg base "may_meet" qaM 03 (bQ K 03 (Tr bU au))):bP P w K mg base "cell_ties" qaN 04 (bQ K 2 (Mr bU au)):=by
 show D.fj (gf D.F nq 9 λbM A outer s H E Ox hr ts q hG=>?_);let nd:=nq.nd;let hu:=bH.dW hr;let np:∀{i:Nat},aY #[H,[],Ox] i:=gW;let br:=M1;let aj:=M2;show#[_,(af (aJ (i:=2) nd 9 7 (Ψ (aQ 486 aj.bt (ν 522))) np)
  (af (bb (h_ hu (ν (ay (ν (ay 124 109)) 4)) 502)
   (aq (aA 497))
   aE)
  (af (aJ (i:=03) nd 9 7 (Ψ (aw gy hr (aa (ω (ay (ν (ay 124 109)) 4)) ak))) np)
  (af (cP (i:=04) nd 9 7 497 np)
  (af (cQ nH 9 (gK 19 M.enumerate 514) (e_ (n:=2) 9 (bq (aM (i:=05) nd 9 7 np) (bq (aM (i:=06) nd 9 7 np) dI)))
   (aq (bb (VW.vc (c9 (bG hu (ν (ay (ae 06) 4)) 502) (c9 (bG hu (ν (aw gy hr (aa (ω (ay (ae 06) 4)) ak))) 236) (c0 (fP (aw C3 hr (aa 489 (aa 171 (aa (ah 05) ak)))))))))
    (aq (bA (dy 04 qu qv bo ba (aa (ω (bB (aa (ah 05) (aa 104 (aa (ah 03) ak))))) ak))))
    aE)))
  (aq (aA (eF 04 np)))))))),λ_=>?_]
 let(rs,bs,cs,o,i,h,rfl,B,hn,hi,hk,hh,hp,hq):=hG;obtain⟨r,bV⟩:∃r,rs[i]?\r:=#[_,eY hi];show#[9,_,9,9,_,9,_,dc bV,?_];let hky:=hk r (fM bV);cases r with
 |get x y k=>
  let e0:m_ rs i=cellK rs h y (eV k) rs.length:=by unfold m_;rw[bV,hh]
  rw[e0] at hq;show#[_,aaU,_,dc bV,_,aaX,9,B7 k,9,hky,fB _,j8 (λn ρ=>∃l b5 b6,ρ=[aP (jf bU au rs bs cs o),aP (.int (i:Int)),aP 453,aP (.str (eV k)),some (.lst l,true),b5,b6]/\l=(cellK rs h y (eV k) n).map i5) #[_,none,none,9,9] ?_ ?_];rintro n r2 ρ pT ⟨l,b5,b6,rfl,el⟩;let R':=(c7.mp pT).1;let hl:l.length<=n:=by rw[el,bS];unfold cellK;rw[bS];exact kJ (RQ _ _) (by rw[pJ];calc cM _)
  let hs:l.length<sizeLine:=by rw[π];omega
  let e1:=aaa (List.map i5) (ng (sR rs h y (eV k)) (λ(j:Nat)=>(((j:Int),"cell",eV k):xT)) n);let no:sR rs h y (eV k) n=false->∃l' b5 b6,[aP (jf bU au rs bs cs o),aP (.int (i:Int)),aP (.lst (rs.map aZ)),aP (.str (eV k)),some (.lst l,true),aP (.int (n:Int)),aP (aZ r2)]=[aP (jf bU au rs bs cs o),aP (.int (i:Int)),aP (.lst (rs.map aZ)),aP (.str (eV k)),some (.lst l',true),b5,b6]/\l'=(cellK rs h y (eV k) (n+1)).map i5:=λz=>#[_,_,_,9,by
   rw[z,θ iC,HX] at e1;rw[el];calc e1.symm]
  let yes:sR rs h y (eV k) n=true->∃l' b5 b6,[aP (jf bU au rs bs cs o),aP (.int (i:Int)),aP (.lst (rs.map aZ)),aP (.str (eV k)),some (.lst (l++[i5 ((n:Int),"cell",eV k)]),true),aP (.int (n:Int)),aP (aZ r2)]=[aP (jf bU au rs bs cs o),aP (.int (i:Int)),aP (.lst (rs.map aZ)),aP (.str (eV k)),some (.lst l',true),b5,b6]/\l'=(cellK rs h y (eV k) (n+1)).map i5:=λz=>#[_,_,_,9,by
   rw[z,ι 9,nG] at e1;rw[el];calc e1.symm]
  cases r2 with
  |set y' k' v=>
   obtain⟨h',hh'⟩:∃h',gG (bh rs) n\h':=by
    have:=B.inn pT (show ("set":Str)≠"def" by decide +kernel) (show ("set":Str)≠"skip" by decide +kernel);let e:gG (bh rs) n=(st (bh rs) n).head?:=by unfold gG;rw[c_ pT];rfl
    rw[e];cases hl:st (bh rs) n with
    |nil=>calc absurd hl this
    |cons a _=>exact#[a,9]
   let ec:sR rs h y (eV k) n=(decide (eV k'=eV k) && !decide (bitAnd (hv rs h y) (hv rs h' y')=0)):=by unfold sR;rw[pT,hh']
   let wg:=hk _ (fM pT);show#[9,9,_,aaU,_,aaW,9,B7 k',9,wg,?_];rw[iX.CJ];calc cJ (λz1=>#[9,rs,bs,cs,o,i,n,h,h',x,y,y',k,k',v,9,bV,pT,hh,hh',hp,jg (λz2=>#[bW 6,hs,yes (by rw[ec,ο z1];calc z2)]) (λz2=>no (by rw[ec,ο z1];calc z2))]) (λz1=>no (by rw[ec,ς z1];rfl))
  |_=>exact#[9,9,_,aaU,no (by unfold sR;rw[pT])]
  rintro ρ ⟨l,b5,b6,rfl,el⟩;rw[el];calc hq
 |_=>
  let e0:m_ rs i=[]:=by unfold m_;rw[bV]
  rw[e0] at hq;calc#[_,aaU,fB _,hq]
abbrev nt:χ:=["layout","place","row","told"]
def kZ:az nt qay (ar i4):=457
def oG:(nt++(["other"]:χ)).Nodup:=by decide +kernel
def uB(D:Df K mg "frame_ties" i4 qay f fd)(M:ug K au)(C4:bP P w K mg base "calls_of" qaJ 1 (bQ K 2 (Ay au))):bP P w K mg base "frame_ties" qay 2 (bQ K 2 (Ms au)):=by
 show D.fj (gf D.F kZ 9 λbM A outer s H E Ox hr ts q hG=>?_);let nd:=kZ.nd;let hu:=bH.dW hr;let np:∀{i:Nat},aY #[H,[],Ox] i:=gW;let aj:=M;let yr:=va hu;show#[_,(af (aJ (i:=2) nd 9 95 (Ψ 240) np)
  (af (bb (bG hu (ν 461) 502)
   (aq (aA (Ψ (eI 9 19 (eG (ω (aw C4 hr (aa 489 (aa 477 ak))))) (λ_ _ _ _ _ _=>(aM (i:=04) oG 9 7 np)) (λ_ _ _ _ _ _=>iK) (λ_ _ _ _ _ _=>(ω (bB (aa 500 (aa 104 (aa 477 ak))))))))))
   aE)
  (af (cP (i:=03) nd 9 7 (Ψ (bK (aa (ω (bB (aa (ω (ay (ν (aQ 486 aj.qi 37)) 109)) 475))) ak))) np)
  (af (bb (bG hu (ν 461) 502)
   (aq (bA (dy 03 qu qv bo ba (aa (ω (bB (aa (ω (ay 510 (ν (Kz yr (ν (aQ 486 aj.rE 37)) (ν 461))))) (aa 104 (aa 477 ak))))) ak))))
   aE)
  (aq (aA (eF 03 np))))))),λ_=>?_]
 let(rs,i,h,r,rfl,pg,bV,hh,hq):=hG;let hi:=(c7.mp bV).1;let hn:=pg.le;show#[9,_,9,_,dc bV,?_];let hd:(∀f ps,r≠.df f ps)->∃o,gF (bh rs) i\o:=λnf=>by
  let e:gG (bh rs) i=(st (bh rs) i).head?:=by unfold gG;rw[c_ bV];cases r<;>first|rfl|exact absurd 9 (nf _ _)
  rw[e] at hh;unfold gF;cases hl:st (bh rs) i with
  |nil=>rw[hl] at hh;cases hh
  |cons a l=>exact#[_,List.getLast?_eq_some_getLast 6]
 let ehd:∀o,gF (bh rs) i\o->h7 (KG rs) (i:Int)\.int (o:Int):=λo e=>(wW hi).trans (by rw[e];rfl);cases r with
 |df f' ps=>
  let e0:gB rs i=(xU rs f').map λ(j:Nat)=>(((j:Int),"call",f'):xT):=by unfold gB;rw[bV]
  rw[e0,yu] at hq;calc#[_,ai 9,9,_,ai 9,9,rs,f',9,by omega,#[by rw[bS];calc bW (kJ (RQ _ _) (by rw[pJ];omega)),gw (λj hj r pT=>#[_,ai 9,bW 6,pT]) hq]]
 |call x g as=>
  let(o,eo):=hd λ_ _ z=>nomatch z;let(_,(s',ps,og),hf):=pg.cl x g as (fM bV);let(f',e,h1,h2,h3,h4):=xF hf;let yC:=(c7.mp h2).1;let hdg:g6 ((bf rs rs.length).map λp=>(Sum.inr p.1:Key)) ((bf rs rs.length).map λp=>T.int (p.2:Int)) (Sum.inr g)\.int (s':Int):=by rw[Cf,h1];rfl
  let e0:gB rs i=([((o:Int),"head",""),((e:Int),"give",g)]:List xT):=by unfold gB Rf;rw[bV,eo];dsimp only;rw[h1];dsimp only;rw[h3];rfl
  rw[e0] at hq;calc#[_,ai 9,9,_,9,_,ehd o eo,bW 6,bW 6,_,ai 9,9,_,9,9,_,9,_,ai 9,_,hdg,.int (e:Int),(qh yC).trans (by rw[h3];rfl),_,ai 9,bW 6,by change 1<sizeLine;rw[π];decide,hq]
 |_=>
  let(o,eo):=hd λ_ _ z=>nomatch z;let e0:gB rs i=([((o:Int),"head","")]:List xT):=by unfold gB;rw[bV,eo];rfl
  rw[e0] at hq;calc#[_,aaU,9,_,9,_,ehd o eo,bW 6,bW 6,_,aaU,hq]
abbrev sT:χ:=["layout","place","told"]
def jh:az sT qay (ar gz):=457
def p6(D:Df K mg "whiles_round" gz qay f fd)(M:ug K au)(jQ:bP P w K mg base "set_of" qaB 1 (bQ K 1 EU)):bP P w K mg base "whiles_round" qay 2 (bQ K 2 (E5 au)):=by
 show D.fj (gf D.F jh 9 λbM A outer s H E Ox hr ts q hG=>?_);let nd:=jh.nd;let hu:=bH.dW hr;let np:∀{i:Nat},aY #[H,[],Ox] i:=gW;let aj:=M;show#[_,(af (aJ (i:=2) nd 9 7 (Ψ ag) np)
  (af (qV nH (y4 109 (ν gR))
   (af (bb (bG hu (ν 105) 502)
    (aq (lq (i:=2) nd 9 7 (ν (aw jQ hr (aa (ω (bK 57)) ak))) k7 gH np))
    aE)
   (aq (aJ (i:=1) nd 9 7 (Ψ (ay (ν (aQ 486 aj.qi 37)) 109)) np))))
  (aq (aA (Ψ (VE.vp 514)))))),λ_=>?_]
 let(rs,i,rfl,W,hn,hi,hq):=hG;show#[λm ρ=>∃(oi:Option Nat)(v:Int),ρ=[aP (c5 au rs),aP (oT oi),aP (.int v)]/\(∀j,oi\j->j<5)/\m=(match oi with|none=>0|some j=>j+1)/\bitOr v (wrO rs oi)=Tq rs i,#[_,some i,0,9,λj e=>by cases e;calc hi,9,Mp _],?_];rintro m ρ ⟨oi,v,rfl,hj,rfl,hv⟩;cases oi with
 |none=>rw[show wrO rs none=0 from 9,Ax] at hv;rw[hv];calc hq
 |some j=>
  let hj:=hj j 9;obtain⟨r,bV⟩:∃r,rs[j]?\r:=#[_,eY hj];let hs:=Rg W hj;let nx:∀v':Int,v'=bitOr v (if Xj rs j=true then Bn [j] else 0)->∃m'<j+1,∃(oi:Option Nat)(v2:Int),[aP (c5 au rs),aP (oT (gF (bh rs) j)),aP (.int v')]=[aP (c5 au rs),aP (oT oi),aP (.int v2)]/\(∀j,oi\j->j<rs.length)/\m'=(match oi with|none=>0|some j=>j+1)/\bitOr v2 (wrO rs oi)=Tq rs i:=λv' e=>by
   show#[_,?_,gF 23 j,v',9,λo eo=>?_,9,?_];cases eo:gF (bh rs) j with
   |none=>calc Nat.succ_pos j
   |some o=>have:=Aw W 70 eo;change o+1<j+1;omega
   have:=Aw W 70 eo;omega;rw[e,Hq,<- hs];exact hv
  show#[9,_,9,_,dc bV,?_];cases r with
  |n5 a=>
   let hw:Xj rs j=true:=by unfold Xj;rw[bV]
   calc#[_,ai 9,bW 6,9,[j],9,λk hk=>by rw[fE.mp hk];omega,9,_,9,_,wW hj,nx _ (by rw[hw,ι 9])]
  |_=>
   let hw:Xj rs j=false:=by unfold Xj;rw[bV]
   calc#[_,ai 9,9,_,9,_,wW hj,nx _ (by rw[hw,θ iC,Ax])]
abbrev oH:χ:=qaO
def ny:az oH qaO (ar fz):=457
def nz(D:Df K mg "may_come_ahead" fz qaO f fd)(M:ug K au)(jV:bP P w K mg base "whiles_round" qay 2 (bQ K 2 (E5 au))):bP P w K mg base "may_come_ahead" qaO 03 (bQ K 03 (Mt au)):=by
 show D.fj (gf D.F ny 9 λbM A outer s H E Ox hr ts q hG=>?_);let hu:=bH.dW hr;let aj:=M;show#[_,(af (bb (VW.vc (qP (h_ hu (ν (ay 511 109)) (ν (aQ 486 aj.Ci 37))) (qP (h_ hu (ν (ay 511 124)) (ν (aQ 486 aj.Ci 37))) (nV (mw 109 124)))))
    (aq (aA (Ψ mm)))
    aE)
   (aq (aA (Ψ (Jv hu (ν (j2 (ν (aw jV hr 238)) (ν (aw jV hr (aa 489 530))))) 4))))),λ_=>?_]
 let(rs,j,i,rfl,W,hn,hi,hj,hq):=hG;unfold xV at hq;show#[9,_,9,_,lC hj,9,_,9,aer (jg (λz=>?_) (λz=>#[9,_,9,_,lC hi,9,_,9,aer (jg (λz2=>?_) (λz2=>?_))]))];rw[z,T9,T9,T9] at hq;calc hq;rw[z,z2,HZ,T9,T9] at hq;calc hq;rw[z,z2,HZ,HZ] at hq;show cJ (λz3=>?_) (λz3=>?_);rw[ο (show j<i by have:=z3;omega),T9] at hq;calc hq;rw[ς (show ¬ j<i by have:=z3;omega),HZ] at hq;calc#[9,rs,j,9,W,hn,hj,9,rs,i,9,W,hn,hi,hq]
abbrev AF:χ:=["layout","place","told","other","row"]
def nA:az AF qay (ar jT):=457
def xZ(D:Df K mg "stop_ties" jT qay f fd)(M:MgB mg)(M1:ug K au)(Rj:bP P w K mg base "risky" qaC 2 (bQ K 1 Us.L8))(oI:bP P w K mg base "may_come_ahead" qaO 03 (bQ K 03 (Mt au))):bP P w K mg base "stop_ties" qay 04 (bQ K 2 (Ts au)):=by
 show D.fj (gf D.F nA 9 λbM A outer s H E Ox hr ts q hG=>?_);let nd:=nA.nd;let hu:=bH.dW hr;let np:∀{i:Nat},aY #[H,[],Ox] i:=gW;let aj:=M1;show#[_,(af (cP (i:=2) nd 9 7 497 np)
  (af (cQ nH 9 (gK 19 M.enumerate (ω 78)) (e_ 9 (bq (aM (i:=03) nd 9 7 np) (bq (aM (i:=04) nd 9 7 np) dI)))
   (aq (bb (VW.vc (c9 (fP (aw Rj hr 472)) (c9 (h_ hu 236 109) (c0 (fP (aw oI hr (aa 489 (aa (ah 03) 57))))))))
    (aq (bA (dy 2 qu qv bo ba (aa (ω (bB (aa (ah 03) 475))) ak))))
    aE)))
  (aq (aA (eF 2 np))))),λ_=>?_]
 let(rs,i,rfl,W,hn,hi,hR,hq):=hG;show#[fB _,9,_,9,j8 (λn ρ=>∃l b3 b4,ρ=[aP (c5 au rs),aP (.int i),some (.lst l,true),b3,b4]/\l=(pB rs i n).map i5) #[_,none,none,9,9] ?_ ?_];rintro n r2 ρ pT ⟨l,b3,b4,rfl,el⟩;let R':=(c7.mp pT).1;let hl:l.length<=n:=by rw[el,bS];unfold pB;rw[bS];exact kJ (RQ _ _) (by rw[pJ];calc cM _)
 let hs:l.length<sizeLine:=by rw[π];omega
 let e1:=aaa (List.map i5) (ng (vA rs i) (λj=>(((j:Int),"stop",""):xT)) n);let ec:vA rs i n=(sF r2 && !decide (n=i) && xV rs n i):=by unfold vA;rw[pT]
 let no:vA rs i n=false->∃l' b3 b4,[aP (c5 au rs),aP (.int (i:Int)),some (.lst l,true),aP (.int (n:Int)),aP (aZ r2)]=[aP (c5 au rs),aP (.int (i:Int)),some (.lst l',true),b3,b4]/\l'=(pB rs i (n+1)).map i5:=λz=>#[_,_,_,9,by
  rw[z,θ iC,HX] at e1;rw[el];calc e1.symm]
 let yes:vA rs i n=true->∃l' b3 b4,[aP (c5 au rs),aP (.int (i:Int)),some (.lst (l++[i5 ((n:Int),"stop","")]),true),aP (.int (n:Int)),aP (aZ r2)]=[aP (c5 au rs),aP (.int (i:Int)),some (.lst l',true),b3,b4]/\l'=(pB rs i (n+1)).map i5:=λz=>#[_,_,_,9,by
  rw[z,ι 9,nG] at e1;rw[el];calc e1.symm]
 show#[9,9,9,r2,9,hR r2 (fM pT),jg (λz1=>?_) (λz1=>no (by rw[ec,z1];rfl))];let en:decide ((n:Int)=(i:Int))=decide (n=i):=aad.mpr #[λz=>Int.ofNat_inj.mp z,λz=>by rw[z]];change if (!decide ((n:Int)=(i:Int)))=true then _ else _
 rw[en];calc jg (λz2=>#[9,rs,n,i,9,W,hn,hi,R',jg (λz3=>#[bW 6,hs,yes (by rw[ec,z1,z2,z3];rfl)]) (λz3=>no (by rw[ec,z1,z2,z3];rfl))]) (λz2=>no (by rw[ec,z1,z2];rfl));rintro ρ ⟨l,b3,b4,rfl,el⟩;rw[el];calc hq
end
end Nt
namespace VT
open PySem PySem.Spec PyProof.Rows L2
inductive S where
 |lf (t:T)
 |lst (xs:List S)
 |dk (ks:List Key) (ts:Λ)
 |ins (C:Addr) (ns:χ) (xs:List S)
def kT0:Key->T
 |.inl i=>.int i
 |.inr x=>.str x
def ckT(c:List Key×Key):T:=.tup [.tup (c.1.map kT0),kT0 c.2]
mutual
def SAt(K:qaf)(H:Hp)(A:zm):S->V->zm->Prop
 |.lf t,v,fp=>fp=[]/\At K H A t v
 |.lst xs,v,fp=>∃a vs p9,v=.ref a/\H a\.lst vs/\fp=a::p9/\Xk K H A xs vs p9
 |.dk ks ts,v,fp=>∃a vs,v=.ref a/\fp=[a]/\173=87/\H a\.dK 175/\aD K H A ts vs
 |.ins C ns xs,v,fp=>∃a dx vs p9,v=.ref a/\ns.length=87/\H a\.ins C dx (ns.zip vs)/\fp=a::p9/\Xk K H A xs vs p9
def Xk(K:qaf)(H:Hp)(A:zm):List S->qak->zm->Prop
 |[],vs,fp=>vs=[]/\fp=[]
 |x::xs,vs,fp=>∃v r f g,vs=v::r/\fp=f++g/\SAt K H A x v f/\Xk K H A xs r g
end
inductive Stp where
 |fld (C:Addr) (f:Str)
 |last
structure Mz where
 H0:Hp
 fp0:zm
 Ox:zm
 a:Addr
 k:Nat
def hid(H:Hp)(L:zm):Hp:=λb=>if b∈L then none else H b
structure Mf(K:qaf)(M:Mz)(O:HD)(fp:zm)(s:S)(H:Hp):Prop where
 sto:SAt K H (roots O++(fp++M.Ox)) s (.ref M.a) fp
 nd:fp.Nodup
 dis:∀b∈fp,b∉roots O/\b∉M.Ox
 fr:∀b∈fp,b∈M.fp0\/M.H0 b=none
 kp:∀b o,M.H0 b\o->b∉M.fp0->H b\o/\b∉roots O
abbrev zf(M:Mz)(O:HD)(H:Hp):Zc:=#[hid H (roots O),[],M.Ox]
section
variable{M:Mz}{Of:HD}{s:S}{Hf:Hp}{tm:qab}
structure MSt(K:qaf)(M:Mz)(ρ:En)(s:S)(σ:St)(H:Hp):Prop where
 ex:∃O fp,Mf K M O fp s H/\aB K (zf M O H) [] O ρ σ H
 pin:ρ[M.k]?\some (.pin M.a s.t,false)
end
structure MEn where
 nx:En->S->Prop
 rt:En->S->qam
 bk:En->S->Prop:=λ_ _=>False
 ct:En->S->Prop:=λ_ _=>False
structure agr(K:qaf)(M:Mz)(d:MEn)(D:Ends):Prop where
 nx:∀ρ s σ H,MSt K M ρ s σ H->d.nx ρ s->D.nx σ H
 rt:∀ρ s σ H r v O fp Of Hf,Mf K M Of fp s Hf->(∀b∈roots Of,∃u,Hf b\u/\nS u=true)->h9 K (zf M Of Hf) [] O ρ σ H r v->d.rt ρ s r->D.rt v H
 bk:∀ρ s σ H,MSt K M ρ s σ H->d.bk ρ s->D.bk σ H
 ct:∀ρ s σ H,MSt K M ρ s σ H->d.ct ρ s->D.ct σ H
abbrev FM:=MEn->En->S->Prop
def lM(X:Cx)(M:Mz)(g:FM):TS:=λD σ H=>∃ρ s d,MSt X.K M ρ s σ H/\g d ρ s/\agr X.K M d D
structure Bm(p:Prop):Prop where
 h:p
def MS(X:Cx)(M:Mz)(st:Stmt)(g:FM):Prop:=Bm (PS X st (lM X M g))
def mN:χ:=["layout","most","poke","frames","cells","counts","doings","place","ended"]
structure aet(K:qaf)(H H':Hp)(us:Λ)(u:T)(p l:Addr):Prop where
 same:aW H H'
 tup:∃v,H' p\.tup [.ref l,v]/\At K H' [] u v
 new:H l=none
 lst:∃vs,H' l\.lst vs/\aD K H' [] us vs
 i1:qN us=true
 i2:yS u=true
abbrev FMD:=MEn->(Λ->T->Prop)->En->S->Prop
structure C5(K:qaf)(x qual:Str)(st:Stmt)(f:Addr)(fd:FuncData):Prop where
 ex:∃(oc:Value)(od:qar)(dV kV doc pm:Value)(an:qar)(bM ct:Value)(BJ:Array (Option Value)),
  fd=W.fnOf x qual (cn st) (bJ st) 455 dV kV doc pm an bM ct/\K.lookup f=some #[oc,od,.func fd,BJ]/\W.codeIn K bM qual=true
 kp:W.keepIn K 536=true
section
def C5.ok{st:Stmt}{N:χ}{k:Nat}(F:C5 K x qual st f fd)(S:az N ps 455)(len:∀vs H Q E,sp vs H Q E->87=471)(fG:∀(bM:Value) (A:Around) (outer:List Env) (s:Shared) (H:Hp) (vs:qak) (Q:VK) (E:XK),bH k 44->sp vs H Q E ->
    ∃t,ko (hY iA P w K mg base N qual 455 f bM A outer s H E).vN (bJ st) t/\t {nx:=λ_ H'=>Q .bY H',rt:=Q} (start N vs) H):eD P w K mg base iA 93 f fd ps sp:=by
 let(oc,od,dV,kV,doc,pm,an,bM,ct,BJ,rfl,lk,fL):=F.ex;show DO lk fL S len λA outer s H vs Q E hr Sa=>?_;let(t,h,q):=fG bM A outer s H vs Q E hr Sa;calc#[t,h.vN,q]
end
section
variable{k:Nat}{G:Λ->(Λ->T->Prop)->Prop}{pos:Pos}{ds:qag}{yG:qak}{dts:Λ}
def lDR(X:Cx)(Z:Zc)(tm:qab)(f:En->(Λ->T->Prop)->Prop):TE:=λσ H Q=>∃ρ O q,aB X.K Z tm O ρ σ H/\f ρ q/\∀us u,q us u->∀p l H',aet X.K H H' us u p l->Q (.ref p) H'
def VDR(X:Cx)(Z:Zc)(e:Expr)(f:En->(Λ->T->Prop)->Prop):Prop:=Bx λtm=>PE X e (lDR X Z tm f)
instance{X:Cx}{Z:Zc}{e:Expr}{f:En->(Λ->T->Prop)->Prop}:CoeFun (VDR X Z e f) λ_=>∀tm,PE X e (lDR X Z tm f):=#[λh=>Bx.h h]
end
end VT
variable{M:VT.Mz}
namespace VT
open PySem PySem.Spec PyProof.Rows L2
open AutoSeq1 (wpAny_loadPart')
def qr{ds:qag}{o:Obj}{xs:Array Value}(h1:fd.defaults=.ref a)(h2:K.lookup a\o)(h3:496=.seq xs n)(hl:471=m+ds.length)(h:∀us:qag,517=m->∃k,bindArgs fd #[us,[]]=seqItems? fd.defaults >>= k/\k (some xs)=pure (ps.zip (us++ds))):Binds K fd ps ds:=λs us KX e=>by let(k,e1,e2):=h us (by rw[fU] at e;omega);calc BindsTo.of_defaults h1 (KX _ _ h2) h3 e1 e2
section
theorem Tw:∀n (as:zm) k,pz (List.replicate n false) as k=[]
 |0,_,_=>rfl
 |n+1,as,k=>Tw n as 93
theorem Mw:∀n (ρ:En),lu (List.replicate n false) ρ=[]
 |0,_=>rfl
 |n+1,ρ=>Mw n ρ.tail
theorem Tx:∀(ts:Λ),wc (List.replicate 25 false) ts=ts.map λt=>some (t,false)
 |[]=>rfl
 |t::ts=>by rw[vJ,HW,wc,Tx ts];rfl
def aeu{st:Stmt}{N:χ}{k:Nat}{G:Λ->(qam)->Prop}(F:C5 K x qual st f fd)(S:az N ps 455)(hn:n=471)(fG:∀(bM:Value) (A:Around) (outer:List Env) (s:Shared) (H:Hp) (E:XK) (Ox:zm),bH k 44->∀ts q,G ts q ->
    ∃g,kx (hY iA P w K mg base N qual 455 f bM A outer s H E).vN #[H,[],Ox] (bJ st) g/\(25=n->g {nx:=λ_=>q (.vw .bY),rt:=λ_ r=>q r} (ts.map (λt=>some (t,false))++List.replicate (N.length-25) none))) :
  eD P w K mg base iA 93 f fd ps (bQ K n G):=by
 show F.ok S (λvs H Q E h=>?_) (λbM A outer s H vs Q E hr h=>?_);let(ts,as,Ox,q,_,_,_,ha,_):=h;rw[<- hn,(gp ha).2.1,ND];let(ts,as,Ox,q,nd,nx,ox,ha,hG,kk):=h;let l1:=(gp ha).1;rw[ND] at l1;let(g,hg,hq):=fG bM A outer s H E Ox hr ts (q []) hG;subst l1;have:=yX (X:=(hY iA P w K mg base N qual 455 f bM A outer s H E).vN) (N:=N) (g:=g) nd nx ox ha kk (by rw[Tx];erw[Mw];calc hq 9);rw[Tw] at this;calc#[_,hg [],this]
end
end VT
namespace Nt
open PySem L2 VT Gen K5 Lay BS Iq MK
open PySem.Builtin (bitOr bitAnd)
open iX (jL Ir)
open Us (sF Ap Aq)
abbrev nB:Stmt:=inClass (top 043) 0
abbrev jW:Stmt:=top 47
abbrev kh:Stmt:=top 046
structure MgC(K:qaf)(mg:qae):Prop where
 sorted:mg "sorted"=none
 len:mg "len"=none
 range:mg "range"=none
 SL:∃a,mg "SILENT"\.ref a/\∀H,eZ K H a [.str "else",.str "end",.str "skip"]
def so:bootBuiltins "sorted"\.builtin "sorted":=by decide +kernel
structure oJ(rs:F2):Prop where
 pg:Pg rs
 rl:∀r∈rs,Ap r
 mn:∀r∈rs,(cR r).length<=10
 ky:∀r∈rs,iX.clR rs r/\iX.Yw r
theorem x6{rs:F2}(N:oJ rs):∀k,k<=5->(fu rs k).length<=k * 10
 |0,_=>by simp[fu]
 |k+1,h=>by let ih:=x6 N k 70;obtain⟨r,hr⟩:∃r,rs[k]?\r:=#[_,eY 70];have:=m8 rs k (cR r) (fu rs k);have:=N.mn r (fM hr);rw[sC];unfold L3;rw[hr];dsimp only;omega
def kR(rs:F2)(i:Nat)(r:Rw)(e:Ent):Bool:=decide (e.1.2∈Aq r) && ib e.2 i
def sU(rs:F2)(i:Nat):List xT:=match rs[i]? with
 |some r=>((fu rs 5).filter (kR rs i r)).map λe=>(e.1.1,"name",e.1.2)
 |none=>[]
def Mx(r:Rw):Bool:=match r with
 |.pR=>true
 |.fin=>true
 |.skip=>true
 |_=>false
def AG(rs:F2)(s:Bool)(i:Nat):List xT:=sU rs i++m_ rs i++gB rs i++if s=true then pB rs i 5 else []
def gO(rs:F2)(s:Bool)(i:Nat):List xT:=match rs[i]?,gG 23 i with
 |some r,some _=>if Mx r=true then [] else AG rs s i
 |_,_=>[]
def d5(rs:F2)(s:Bool):qan:=(List.range 5).map λi=>Bn ((gO rs s i).map λt=>t.1.toNat)
def x8(r:Rw):mB (.str (wd r)) [.str "else",.str "end",.str "skip"]=Mx r:=by rw[show ([.str "else",.str "end",.str "skip"]:Λ)=(["else","end","skip"]:χ).map T.str from 9,gL];cases r<;>rfl
def AH(N:oJ rs)(i:Nat):(sU rs i).length<=600:=by let h1:=x6 N 5 82;let h2:=N.pg.le;unfold sU;split;rw[bS];calc kJ (RQ _ _) 70;calc fB _
def x9{p:Nat->Bool}(n:Nat):((List.range n).filter p).length<=n:=kJ (RQ _ _) (by rw[pJ];calc cM _)
def AI(rs:F2)(i:Nat):(m_ rs i).length<=5:=by unfold m_;split;unfold cellK;rw[bS];calc x9 _;calc fB _
def vB(rs:F2)(i:Nat):(gB rs i).length<=5+2:=by unfold gB;split;unfold xU;rw[bS];calc kJ (x9 _) 70;simp;simp;calc fB _
def AJ(rs:F2)(i n:Nat):(pB rs i n).length<=n:=by unfold pB;rw[bS];calc x9 _
def My(CF C:Addr)(ts:Λ)(q:qam):Prop:=∃(rs:F2)(bs cs:List Ent)(o:Obj)(i:Nat),ts=[jf CF C rs bs cs o,.int (i:Int)]/\oJ rs/\i<5/\q (.fr (.lst ((sU rs i).map i5)))
def E6(CF C:Addr)(ts:Λ)(q:qam):Prop:=∃(rs:F2)(bs cs:List Ent)(o:Obj)(i:Nat)(s:Bool),ts=[jf CF C rs bs cs o,.int (i:Int),.bl s]/\oJ rs/\i<5/\bs.Perm (Ir (f7 rs))/\∀l:List xT,l.Perm (gO rs s i)->q (.fr (.lst (l.map i5)))
def MA(CF C:Addr)(ts:Λ)(q:T->Prop):Prop:=∃rs:F2,ts=[.lst 86]/\oJ rs/\∀bs cs o,bs.Perm (Ir (f7 rs))->q (jf CF C rs bs cs o)
section
variable{bU:Addr}
abbrev pF:χ:=["facts","place","used"]
def nC:az pF qaN (ar jW):=457
def ji:(pF++(["key","rows"]:χ)).Nodup:=by decide +kernel
def x_(D:Df K mg "name_ties" jW qaN f fd)(M:YA K bU)(M1:ug K au)(Xl:bP P w K mg base "uses" qaC 04 (bQ K 1 Us.Te))(Af:bP P w K mg base "has" qaA 1 (bQ K 2 jL)):bP P w K mg base "name_ties" qaN 05 (bQ K 2 (My bU au)):=by
 show D.fj (gf D.F nC 9 λbM A outer s H E Ox hr ts q hG=>?_);let nd:=nC.nd;let np:∀{i:Nat},aY #[H,[],Ox] i:=gW;let br:=M;let aj:=M1;show#[_,(af (aJ (i:=2) nd 9 95 (Ψ (aw Xl hr (aa (ω (ay (ν (aQ 486 aj.bt (ν 522))) 109)) ak))) np)
  (aq (aA (Ψ (eI (ts:=["key","rows"]) 9 19 (z0 (ω (aQ br.cl br.sQ 37))) (λ_ _ _ _ _ _=>(e_ (n:=2) 9 (bq (aM (i:=03) ji 9 7 np) (bq (aM (i:=04) ji 9 7 np) dI)))) (λ_ _ _ _ _ _=>(j5 (VW.vc (c9 (uU 454 124) (c0 (fP (aw Af hr (aa 500 57)))))))) (λ_ _ _ _ _ _=>(ω (bB (aa 79 (aa 104 75)))))))))),λ_=>?_]
 let(rs,bs,cs,o,i,rfl,N,hi,hq):=hG;obtain⟨r,bV⟩:∃r,rs[i]?\r:=#[_,eY hi];let e0:sU rs i=((fu rs rs.length).filter (kR rs i r)).map λe=>((e.1.1,"name",e.1.2):xT):=by unfold sU;rw[bV]
 rw[e0,yu] at hq;let hle:=x6 N 5 82;let hn:=N.pg.le;generalize hE:fu rs rs.length=E at hq hle;let ez:((eQ E).zip (eO E)).map Wz=E.map λe=>.tup [ktT (kK e.1),.int e.2]:=by unfold eQ eO;rw[List.zip_map',yu];rfl
 show#[9,_,9,9,_,9,_,dc bV,9,r,9,N.rl r (fM bV),λzs hz=>?_];show#[9,9,_,9,?_];rw[hE];show#[by unfold eQ eO;rw[bS,bS],?_];change (((eQ E).zip (eO E)).map Wz).length<=sizeLine/\cU _ _ _ _ (((eQ E).zip (eO E)).map Wz) _;rw[ez];show#[by rw[bS,π];omega,?_];show gx (u:=λe:Ent=>i5 (e.1.1,"name",e.1.2)) (p:=kR rs i r) (λ_ _ _ _ _=>trivial) (λe he k s hk=>?_) hq;show#[9,9,_,aaV,9,lU _,?_];let ein:mB (.str e.1.2) (zs.map T.str)=decide (e.1.2∈Aq r):=(gL _ _).trans (aad.mpr (hz _));change if mB (.str e.1.2) (zs.map T.str)=true then _ else _
 rw[ein];unfold kR at hk;show jg (λz1=>?_) (λz1=>?_);rw[z1,yn] at hk;show#[9,e.2,i,9,?_];show jg (λz2=>?_) (λz2=>?_);rw[z2,ι 9] at hk;calc#[_,aaU,_,aaV,bW 6,hk];rw[z2,θ iC] at hk;calc hk;rw[z1,HY,θ iC] at hk;calc hk
abbrev vC:χ:=["facts","place","strict","layout","told"]
def sV:az vC qaP (ar kh):=457
def C6(D:Df K mg "ties_of" kh qaP f fd)(M:MgC K mg)(M1:YA K bU)(M2:ug K au)(AK:bP P w K mg base "name_ties" qaN 05 (bQ K 2 (My bU au)))(AL:bP P w K mg base "cell_ties" qaN 04 (bQ K 2 (Mr bU au)))(ya:bP P w K mg base "frame_ties" qay 2 (bQ K 2 (Ms au)))(AN:bP P w K mg base "stop_ties" qay 04 (bQ K 2 (Ts au))):bP P w K mg base "ties_of" qaP 06 (bQ K 03 (E6 bU au)):=by
 show D.fj (gf D.F sV 9 λbM A outer s H E Ox hr ts q hG=>?_);let nd:=sV.nd;let np:∀{i:Nat},aY #[H,[],Ox] i:=gW;let br:=M1;let aj:=M2;let(ac,mc,V3):=M.SL;let MD:∀{pos},VP (hY iA P w K mg base vC "ties_of" (ar kh) f bM A outer s H E).vN #[H,[],Ox] (.Name "SILENT" pos) (fC (.tup [.str "else",.str "end",.str "skip"])):=iI 19 mc (v:=.ref ac) 9 λH A=>cj (V3 H) (aD.cons cO 488);show#[_,(af (aJ (i:=03) nd 9 7 (Ψ 522) np)
  (af (bb (VW.vc (qP (JO (ν (ay (ν (aQ 486 aj.f9 236)) 109)) (ν gR)) (nV (uU (ν (ay (ν (ay (ν (aQ 486 aj.bt 236)) 109)) 4)) (ν MD)))))
   (aq (aA 497))
   aE)
  (af (cP (i:=04) nd 9 7 (Ψ (cH (ν (cH (ν (aw AK hr 238)) (ν (aw AL hr 238)))) (ν (aw ya hr (aa (ah 03) 57))))) np)
  (af (bb (fP (VE.vp 514))
   (aq (bA (EA 04 (aw AN hr (aa (ah 03) 57)))))
   aE)
  (aq (aA (Ψ (aS (TP.mZ true) (TP.o9 true) 19 M.sorted so (aO (ae 04) aX))))))))),λ_=>?_]
 let(rs,bs,cs,o,i,b,rfl,N,hi,hp,hq):=hG;obtain⟨r,bV⟩:∃r,rs[i]?\r:=#[_,eY hi];show#[9,_,9,9,_,9,_,lC hi,?_];cases hh:gG (bh rs) i with
 |none=>
  let e0:gO rs b i=[]:=by unfold gO;rw[bV,hh]
  rw[e0] at hq;calc#[fB _,hq [] .nil]
 |some h=>
  let hn:=N.pg.le;let l1:=AH N i;let l2:=AI rs i;let l3:=vB rs i;let l4:=AJ rs i 5;let(l,el):=j7 r;let er:=dc bV;rw[el] at er;show#[9,_,9,_,er,_,aaU,9,9,?_];change if mB (.str (wd r)) [.str "else",.str "end",.str "skip"]=true then _ else _
  rw[x8];show jg (λz=>?_) (λz=>?_);let e0:gO rs b i=[]:=by unfold gO;rw[bV,hh];dsimp only;rw[ι z]
  rw[e0] at hq;calc#[fB _,hq [] .nil];let e0:gO rs b i=AG rs b i:=by unfold gO;rw[bV,hh];dsimp only;rw[z,θ iC]
  rw[e0] at hq;unfold AG at hq;let fin:∀L:List xT,L.length<=2000->(∀l:List xT,l.Perm L->q (.fr (.lst (l.map i5))))->TP.Lo true [.lst (L.map i5)] q:=λL hL hq=>#[_,9,by rw[bS];omega,λt ht=>by
   let(x,_,rfl):=k5.mp ht;exact#[_,_,_,9,_,9],λzs p=>by
   let(L',p1,rfl):=iX.Ae p;calc hq L' p1]
  show#[9,rs,bs,cs,o,i,9,N,hi,9,rs,bs,cs,o,i,h,9,N.pg.B,by omega,hi,λr hr=>(N.ky r hr).2,hh,hp,?_];show#[by rw[bS,bS,π];omega,9,rs,i,h,r,9,N.pg,bV,hh,by rw[fU,bS,bS,bS,π];omega,?_];rw[<- nG,<- nG];cases b with
  |false=>rw[θ iC,HX] at hq;calc fin _ (by rw[fU,fU];omega) hq
  |true=>rw[ι 9] at hq;show#[9,rs,i,9,N.pg.B.W,by omega,hi,N.rl,?_];show#[by rw[bS,bS,fU,fU,π];omega,?_];rw[<- nG];calc fin _ (by rw[fU,fU,fU];omega) hq
abbrev Rk:χ:=qaw
def AO:az Rk qaw (ar nB):=457
def ME(D:Dc K mg "Facts" "Facts.__init__" nB qaw bU f fd)(M:YA K bU)(M1:ug K au)(sL:zF P w K mg base "Layout" au qaw 2 1 (xa au))(MJ:bP P w K mg base "makers" qav 06 (VB K 1 iX.E3))(uC:bP P w K mg base "arrivals_of" qaH 04 (bQ K 1 (aeh au))):zF P w K mg base "Facts" bU qaw 07 1 (MA bU au):=by
 let(Mn,Hk,sM,sN,sO,sP):=sL;let(aev,YC,MM,MO,MQ,MR):=MJ;show D.fj (fnI D.F AO 9 λbM A outer s H E as Ox hr us q hl hG=>?_);let nd:=AO.nd;let br:=M;show#[_,(af (fQ 0 br.cl br.gA (ω (wU sM sP 42 19 sN sO 57)))
  (af (fQ 0 br.cl br.E4 (ω (VD.vp (Ek MR 42 19 MM MO MQ 57))))
  (aq (fQ 0 br.cl br.sQ (ω (aw uC hr (aa (ω 522) ak))))))),?_]
 let(rs,rfl,N,hq):=hG;let hn:=N.pg.le;let Bh:=N.pg.len.1;show#[9,9,rs,9,N.pg.B.W,by omega,by change 0<1000;decide,?_];show#[9,9,rs,9,N.pg.B.W,by omega,by omega,N.ky,λm h1 h2 bs cs p1 p2=>?_];rw[<- Xi h1 h2] at p1;show#[by change 1<1000;decide,?_];show#[9,9,_,9,9,rs,9,N.pg.B,by omega,N.mn,λo=>#[by change 2<1000;decide,?_]];calc hq bs cs o p1
end
end Nt
namespace BS
open PySem PySem.Builtin PyProof.Rows
structure Tn(net:qan)(i:Nat)(S:qao)(L:qan):Prop where
 len:L.length=38
 WL:∀y∈L,below 38 y
 bit:∀r j,ib (L.getD j 0) r=(decide (j<38) && ((decide (r<i) && ib (net.getD r 0) j) || (decide (r=i) && decide (j∈S))))
section
variable{L:qan}{S:qao}
def Tn.init:Tn net 0 [] (List.replicate 38 0):=by
 show#[ND,λy hy=>?_,λr j=>?_];rw[(List.mem_replicate.mp hy).2];calc cK _;let e:(List.replicate net.length (0:Int)).getD j 0=0:=by rw[vI,HV];split<;>rfl
 rw[e,dm];simp
def Tn.step{j0:Nat}(h:Tn net i S L)(hi:i<38)(e:L[j0]?\y):Tn net i (S++[j0]) (L.set j0 (bitOr y (1 * 2 ^ i))):=by
 let hj0:j0<L.length:=(c7.mp e).1;let hb:=h.WL y (fM e);show#[by rw[List.length_set];calc h.len,λz hz=>?_,λr j=>?_];rcases XY hz with q|q
 calc h.WL z q;rw[q];calc d4 hb (iV hi);by_cases ej:j=j0;subst ej;let e1:(L.set j (bitOr y (1 * 2 ^ i))).getD j 0=bitOr y (1 * 2 ^ i):=by rw[vI,DC hj0];rfl
 let b:=h.bit r j;rw[getD_some e] at b;let hjn:j<net.length:=by rw[<- h.len];exact hj0
 rw[e1,dZ,xx,b,ο hjn,yn,yn];by_cases er:r=i;subst er;simp;simp[er];let e1:(L.set j0 (bitOr y (1 * 2 ^ i))).getD j 0=L.getD j 0:=by rw[vI,uG (Ne.symm ej),<- vI]
 rw[e1,h.bit r j];have:(decide (j∈S++[j0]))=decide (j∈S):=by apply aad.mpr;simp[ej]
 rw[this]
def Tn.next(h:Tn net i (mem y) L)(e:net[i]?\y)(h0:0<=y):Tn net 525 [] L:=by
 show#[h.len,h.WL,λr j=>?_];rw[h.bit r j]
 congr 1
 by_cases er:r=i;subst er;let e2:decide (j∈mem y)=ib y j:=by
  cases q:ib y j with
  |true=>calc ο ((mem_iff h0).mpr q)
  |false=>exact ς λz=>by rw[(mem_iff h0).mp z] at q;cases q
 rw[getD_some e,e2];simp;let e1:decide (r<i)=decide (r<i+1):=aad.mpr 70;rw[e1,ς er];simp
def Tn.fin(h:Tn net 38 [] L):Turn net L:=by
 show#[h.len,h.WL,λr j=>?_];rw[h.bit r j];by_cases hr:r<38;simp[hr];have:net.getD r 0=0:=by rw[vI,Iz 70];rfl
 rw[this,dm];simp
end
end BS
namespace Nt
open PySem L2 VT Gen K5 Lay BS Iq MK
open PySem.Builtin (bitOr bitAnd bitNot)
open iX (jL Ir iw fK)
abbrev cL:Stmt:=top 045
abbrev C7:Stmt:=top 56
abbrev sW:Stmt:=top 58
abbrev yb:Stmt:=top 057
abbrev oK:Stmt:=top 059
abbrev bR:Stmt:=top 60
structure MgS(mg:qae):Prop where
 len:mg "len"=none
 range:mg "range"=none
 enumerate:mg "enumerate"=none
abbrev p7(net:qan):T:=.lst (net.map .int)
def Hr(a b:qao):fK (a++b)=fK a++fK b:=nG
def MT(a:qan)(i:Nat)(r:Int):p7 (a.set i r)=.lst ((a.map T.int).set i (T.int r)):=by change T.lst ((a.set i r).map T.int)=_;rw[List.map_set]
def Net(net:qan):Prop:=38<=64/\∀y∈net,below 38 y
def E7(ts:Λ)(q:qam):Prop:=∃(net:qan)(x:Int),ts=[p7 net,.int x]/\Net net/\below 38 x/\q (.vw (.int (lst net x)))
def Xm(m:Nat)(h:m<=64):(0:Int)<=(m:Int)/\(m:Int)<=1000000/\(1:Int).natAbs<2 ^ 64:=#[by omega,by omega,by decide]
def Xn{k:Nat}(h:net[k]?\y):h7 (net.map T.int) (k:Int)\.int y:=ai (by rw[fW,h];rfl)
def Xo(ks:qao):∀(x:Int)(b:Nat),ib (ks.foldl (λt (k:Nat)=>bitOr t (1 * 2 ^ ((k:Int)).toNat)) x) b=(ib x b || decide (b∈ks)):=by
 induction ks with
 |nil=>intro x b;simp
 |cons k ks ih=>
  intro x b;rw[YS,ih,dZ,i9,xx,Bool.or_assoc]
  congr 1
  rw[YT];simp
def E8(ks:qao)(b:Nat):ib (Bn ks) b=decide (b∈ks):=by unfold Bn;rw[Xo,BS.dm,HZ]
def MV{ks ls:qao}(h:ks.Perm ls):Bn ks=Bn ls:=g9 λb=>by rw[E8,E8];calc aad.mpr h.mem_iff
def Hs{ks:qao}(h:∀k∈ks,k<n):below n (Bn ks):=by
 have:∀(ks:qao)(x:Int),(∀k∈ks,k<n)->below n x->below n (ks.foldl (λt (k:Nat)=>bitOr t (1 * 2 ^ ((k:Int)).toNat)) x):=by
  intro ks;induction ks with
  |nil=>calc λx _ h=>h
  |cons k ks ih=>exact λx h hx=>ih _ (λk hk=>h k (iB _ hk)) (d4 hx (by rw[i9];calc iV (h k iz)))
 calc this ks 0 h (cK n)
def TOk(rs:F2)(t:xT):Prop:=∃j:Nat,j<5/\t.1=(j:Int)
theorem MW{rs:F2}:∀k,k<=5->∀e∈fu rs k,∃j:Nat,j<5/\e.1.1=(j:Int)
 |0,_,e,he=>by simp[fu] at he
 |k+1,h,e,he=>by
  let ih:=MW (rs:=rs) k 70;rw[sC] at he;unfold L3 at he;split at he
  rename_i r _
  have:∀(xs:χ)(E:List Ent),(∀e∈E,∃j:Nat,j<5/\e.1.1=(j:Int))->∀e∈sA rs k E xs,∃j:Nat,j<5/\e.1.1=(j:Int):=by
   intro xs;induction xs with
   |nil=>calc λE h=>h
   |cons x xs ih=>
    show λE hE=>ih _ λe he=>?_;let he:e∈eU E ((k:Int),x) (W4 rs x k):=he;unfold eU at he;split at he;let(e',h1,rfl):=k5.mp he;have:=hE e' h1;split<;>calc this;rcases fO.mp he with z|z
    calc hE e z;rw[fE.mp z];exact#[k,by omega,9]
  calc this _ _ ih e he;calc ih e he
def C8(hn:n<=5){p:Nat->Bool}{f:Nat->xT}(hf:∀j,(f j).1=(j:Int)):∀t∈((List.range n).filter p).map f,TOk rs t:=λt ht=>by let(j,hj,rfl):=k5.mp ht;have:=Bf.mp (N0.mp hj).1;calc#[j,by omega,hf j]
theorem E9(N:oJ rs){s:Bool}:∀t∈gO rs s i,TOk rs t:=λt ht=>by
 unfold gO at ht;split at ht
 rename_i r h er eh
 split at ht;cases ht
 rename_i hs
 let hi:=(c7.mp er).1;unfold AG at ht;rcases fO.mp ht with ht|ht
 rcases fO.mp ht with ht|ht
 rcases fO.mp ht with ht|ht
 unfold sU at ht;rw[er] at ht;let(e,he,rfl):=k5.mp ht;calc MW 5 82 e (N0.mp he).1;unfold m_ at ht;split at ht;calc C8 82 (λ_=>rfl) t ht;cases ht;let hd:TOk rs (((gF (bh rs) i).getD 0:Nat),"head",""):=by
  cases e:gF (bh rs) i with
  |none=>calc#[0,by omega,9]
  |some o=>have:=Aw N.pg.B.W 70 e;exact#[o,by omega,9]
 unfold gB at ht;rw[er] at ht;cases r with
 |df f ps=>calc C8 82 (λ_=>rfl) t ht
 |call x g as=>
  rcases dQ.mp ht with rfl|ht
  calc hd;rw[fE.mp ht];let(_,(s',ps,og),hf):=N.pg.cl x g as (fM er);let(f',e,h1,h2,h3,h4):=xF hf;show#[e,(c7.mp h4).1,?_];change Rf rs g=_;unfold Rf;rw[h1];dsimp only;rw[h3];rfl
 |_=>rw[fE.mp ht];exact hd
 split at ht;calc C8 82 (λ_=>rfl) t ht;cases ht;cases ht
def MY(N:oJ rs)(s:Bool)(i:Nat):(gO rs s i).length<=900:=by let l1:=AH N i;let l2:=AI rs i;let l3:=vB rs i;let l4:=AJ rs i 5;let hn:=N.pg.le;unfold gO;split;split;calc fB _;unfold AG;rw[fU,fU,fU];split;omega;simp;omega;calc fB _
def C9(N:oJ rs)(s:Bool):Net (d5 rs s):=by
 let el:(d5 rs s).length=rs.length:=by unfold d5;rw[bS,pJ]
 let hn:=N.pg.le;show#[by omega,λy hy=>?_];rw[el];let(i,hi,rfl):=k5.mp hy;show Hs λk hk=>?_;let(t,ht,rfl):=k5.mp hk;let(j,hj,e):=E9 N t ht;rw[e,i9];calc hj
def C_(ts:Λ)(q:qam):Prop:=∃(rs:F2)(s:Bool),ts=[.lst 86,.bl s]/\oJ rs/\q (.fr (p7 (d5 rs s)))
def Dd(ts:Λ)(q:qam):Prop:=∃(rs:F2)(x:Int)(s:Bool),ts=[.lst 86,.int x,.bl s]/\oJ rs/\below 5 x/\q (.vw (.int (lst (d5 rs s) x)))
def E_(ts:Λ)(q:qam):Prop:=∃net:qan,ts=[p7 net]/\Net net/\∀out,Turn net out->q (.fr (p7 out))
def MZ(ts:Λ)(q:qam):Prop:=∃(net:qan)(x:Int),ts=[p7 net,.int x]/\Net net/\below 38 x/\∀out,Turn net out->q (.vw (.int (lst out x)))
def AQ(ts:Λ)(q:qam):Prop:=∃(net:qan)(x y:Int),ts=[p7 net,.int x,.int y]/\Net net/\below 38 x/\below 38 y/\∀out,Turn net out->q (.vw (.int (bitAnd (lst out x) (lst net y))))
section
variable{bU:Addr}
abbrev AR:χ:=["program","strict","facts","told","place"]
def vD:az AR qaQ (ar cL):=457
def yc:(AR++(["tie"]:χ)).Nodup:=by decide +kernel
def Ht{dv:Value}(F:C5 K "net_of" "net_of" cL f fd)(m:mg "net_of"\.ref f)(b:Binds K fd qaQ [])(b2:Binds K fd qaQ [dv])(M:MgS mg)(Rm:zF P w K mg base "Facts" bU qaw 07 1 (MA bU au))(jQ:bP P w K mg base "set_of" qaB 1 (bQ K 1 EU))(Hu:bP P w K mg base "ties_of" qaP 06 (bQ K 03 (E6 bU au))):bP P w K mg base "net_of" qaQ 09 (bQ K 2 C_):=by
 let(aeU,aew,Ro,Rp,Rq,Rr):=Rm;show#[f,fd,m,F.kp,b,aeu F vD 9 λbM A outer s H E Ox hr ts q hG=>?_];let nd:=vD.nd;let np:∀{i:Nat},aY #[H,[],Ox] i:=gW;show#[_,(af (aJ (i:=2) nd 9 7 (Ψ (wU Ro Rr 42 19 Rp Rq (aa 489 ak))) np)
  (af (cP (i:=03) nd 9 7 497 np)
  (af (cQ nH 9 (cX 19 M.range 22) (aM (i:=04) nd 9 7 np)
   (aq (bA (dy 03 qu qv bo ba (aa (ω (aw jQ hr (aa (ω (eI (ts:=["tie"]) 9 19 (eG (ω (aw Hu hr (aa 514 (aa 500 57))))) (λ_ _ _ _ _ _=>(aM (i:=05) yc 9 7 np)) (λ_ _ _ _ _ _=>iK) (λ_ _ _ _ _ _=>(ω (ay (ae 05) 4))))) ak))) ak)))))
  (aq (aA (eF 03 np)))))),λ_=>?_]
 let(rs,b',rfl,N,hq):=hG;let hn:=N.pg.le;let eL:(rs.map aZ).length=rs.length:=bS _;show#[9,rs,9,N,λbs cs o hp=>?_];show#[fB _,(by change -(2 ^ 62:Int)<=((rs.map aZ).length:Int);omega),(by change ((rs.map aZ).length:Int)<(2 ^ 62:Int);omega),?_];show dz (λk ρ=>∃l b4,ρ=[aP 453,aP (.bl b'),aP (jf bU au rs bs cs o),some (.lst l,true),b4]/\l=((List.range k).map λi=>Bn ((gO rs b' i).map λt=>t.1.toNat)).map T.int) #[_,none,9,9] ?_ ?_;rintro k ρ hk ⟨l,b4,rfl,el⟩;rw[eL,i9] at hk;rw[H_];show#[9,9,rs,bs,cs,o,k,b',9,N,hk,hp,λL p=>?_];let hL:=p.length_eq;let hl:=MY N b' k;let ok:∀t∈L,TOk rs t:=λt ht=>E9 N t (p.mem_iff.mp ht);show#[by rw[bS];calc bW 70,?_];show gw (f:=i5) (u:=λt=>T.int t.1) (λt _ r hr=>#[_,aaU,hr]) ?_;let e1:L.map (λt=>T.int t.1)=nT (L.map λt=>t.1.toNat):=by change _=(L.map λt=>t.1.toNat).map λ(k:Nat)=>T.int (k:Int);rw[yu];show IB λt ht=>?_;let(j,_,e):=ok t ht;change T.int t.1=T.int ((t.1.toNat:Nat):Int);rw[e,i9]
 let e2:Bn (L.map λt=>t.1.toNat)=Bn ((gO rs b' k).map λt=>t.1.toNat):=MV (p.map _);show#[9,L.map λt=>t.1.toNat,aaa (λx=>[T.lst x]) e1,λj hj=>?_,?_,_,_,9,?_];let(t,ht,rfl):=k5.mp hj;let(j,hj,e):=ok t ht;rw[e,i9];omega;rw[el,bS,bS,pJ,π];omega;rw[e2,el,T5,nG,nG];rfl;rintro ρ ⟨l,b4,rfl,el⟩;rw[el,eL,i9];calc hq
abbrev Xp:χ:=["net","rows","told","waiting","fresh"]
def Fb:az Xp qaR (ar C7):=457
def Ru(D:Df K mg "back" C7 qaR f fd)(M:MgS mg)(d_:bP P w K mg base "members" qaB 2 (bQ K 1 iw)):bP P w K mg base "back" qaR 03 (bQ K 2 E7):=by
 show D.fj (gf D.F Fb 9 λbM A outer s H E Ox hr ts q hG=>?_);let nd:=Fb.nd;let np:∀{i:Nat},aY #[H,[],Ox] i:=gW;show#[_,(af (aJ (i:=2) nd 9 7 (Ψ (VE.vp 171)) np)
  (af (cP (i:=03) nd 9 7 (Ψ (aw d_ hr 57)) np)
  (af (qV nH (yV 449 4)
   (af (aJ (i:=04) nd 9 7 (Wq IU yU (adR 489 (v_ 03 acz acA vX p_)) (ν (Wo 124))) np)
   (af (lq (i:=2) nd 9 7 (ae 04) k7 gH np)
   (aq (bA (EA 03 (aw d_ hr 472)))))))
  (aq (aA (Ψ (VE.vp 514))))))),λ_=>?_]
 let(net,x,rfl,(hl,hn),hx,hq):=hG;show#[9,x,9,kJ (bits_le hx) hl,?_];show#[λm ρ=>∃t W fr,m<=64/\ρ=[aP (p7 net),aP (.int x),aP (.int t),some (.lst (fK W),true),fr]/\Bk net x t W m,#[38,x,mem x,none,hl,9,Bk.init hx],?_];rintro m ρ ⟨t,W,fr,hm,rfl,B⟩;show cJ (λh=>?_) (λh=>?_);let h':(0:Int)<((fK W).length:Int):=h;rw[bS] at h';obtain⟨W',k,rfl⟩:∃W' k,W=W'++[k]:=#[W.dropLast,W.getLast (by intro z;subst z;simp at h'),(acw _).symm];let hkb:=B.WL.bit (B.wt k 6);let hy:net[k]?\net[k]:=eY hkb;let(hb,m',hm',B'):=B.step hn hy;let UY:=B'.agk;let e1:(fK (W'++[k]))[(fK (W'++[k])).length-1]?\.int (k:Int):=by simp[fK]
 let e2:(fK (W'++[k])).dropLast=fK W':=by simp[fK]
 show#[9,.int (k:Int),e1,.int net[k],Xn hy,?_];rw[e2];show#[9,_,9,kJ (bits_le hb) hl,?_,m',hm',_,_,aP (.int (bitAnd net[k] (bitNot t))),by omega,?_,B'];rw[bS,bS];rw[fU] at UY;calc bW 70;rw[Hr W' (mem _)];rfl;let h':¬ (0:Int)<((fK W).length:Int):=h;rw[bS] at h';let e:W=[]:=NC.mp 70;subst e;rw[<- B.is hn hx] at hq;calc hq
abbrev M6:χ:=["net","told","row","others","other"]
def vE:az M6 ["net"] (ar sW):=457
def Hv(D:Df K mg "turned" sW ["net"] f fd)(M:MgS mg)(d_:bP P w K mg base "members" qaB 2 (bQ K 1 iw)):bP P w K mg base "turned" ["net"] 03 (bQ K 1 E_):=by
 show D.fj (gf D.F vE 9 λbM A outer s H E Ox hr ts q hG=>?_);let nd:=vE.nd;let np:∀{i:Nat},aY #[H,[],Ox] i:=gW;show#[_,(af (cP (i:=1) nd 9 7 (Ψ (q9 (bK 509) 22)) np)
  (af (cQ nH 9 (gK 19 M.enumerate 489) (e_ (n:=2) 9 (bq (aM (i:=2) nd 9 7 np) (bq (aM (i:=03) nd 9 7 np) dI)))
   (aq (cQ nH 9 (eG (ω (aw d_ hr (aa (ah 03) ak)))) (aM (i:=04) nd 9 7 np)
    (aq (Ql 1 (ae 04) (ν (qR 4 124)) k7 gH)))))
  (aq (aA (eF 1 np))))),λ_=>?_]
 let(net,rfl,(hl,hn),hq):=hG;let el2:((net.map T.int).length:Int)=(net.length:Int):=by rw[bS]
 let el:(((net.map T.int).length:Int)).toNat=net.length:=by rw[bS];omega
 show#[bW 6,by rw[el2];omega,by rw[el2];omega,?_,?_];rw[el];calc bW (by simp;omega);let e0:(List.replicate (((net.map T.int).length:Int)).toNat [T.int 0]).flatten=(List.replicate net.length (0:Int)).map T.int:=by
  rw[el,List.map_replicate];generalize net.length=n;induction n with
  |zero=>rfl
  |succ n ih=>rw[HW,X7,ih];rfl
 show#[λi ρ=>∃L b2 b3 b4,ρ=[aP (p7 net),some (p7 L,true),b2,b3,b4]/\Tn net i [] L,#[_,none,none,none,by change _=[aP (T.lst _),some (T.lst ((List.replicate 38 (0:Int)).map T.int),true),none,none,none];rw[<- e0];rfl,Tn.init],?_,?_]
 . rintro i t ρ hi ⟨L,b2,b3,b4,rfl,B⟩;unfold dR at hi;rw[X3,fW] at hi;cases hy:net[i]? with
   |none=>rw[hy] at hi;cases hi
   |some y=>
    rw[hy] at hi;cases hi;let Wd:i<net.length:=(c7.mp hy).1;let hyb:=hn y (fM hy);show#[9,9,9,y,9,kJ (bits_le hyb) hl,?_];show eJ (λt ρ=>∃L b4,ρ=[aP (p7 net),some (p7 L,true),aP (.int (i:Int)),aP (.int y),b4]/\Tn net i ((mem y).take t) L) #[L,b4,9,B] ?_ ?_;rintro t j ρ hj ⟨L,b4,rfl,B⟩;let hjm:j∈mem y:=fM hj;let hjn:j<net.length:=hyb.bit ((mem_iff hyb.1).mp hjm);let PZ:j<L.length:=by rw[B.len];exact hjn
    let ej:L[j]?\L[j]:=eY PZ;show#[j,.int L[j],?_,by rw[fW,ej];rfl,Xm i 70,L.set j (bitOr L[j] (1 * 2 ^ (i:Int).toNat)),_,by rw[MT];rfl,?_];unfold vQ;rw[ι 70,ι (by rw[bS];omega),i9];have:=B.step Wd ej;rw[List.take_succ,hj];exact this
    . rintro ρ ⟨L,b4,rfl,B⟩;rw[NZ] at B;exact#[L,_,_,_,9,B.next hy hyb.1]
 rintro ρ ⟨L,b2,b3,b4,rfl,B⟩;let e:(dR (net.map T.int)).length=net.length:=by unfold dR;rw[List.length_mapIdx,bS]
 rw[e] at B;calc hq L B.fin
abbrev Rv:χ:=qaR
def AS:az Rv qaR (ar yb):=457
def M7(D:Df K mg "forth" yb qaR f fd)(M:MgS mg)(sX:bP P w K mg base "back" qaR 03 (bQ K 2 E7))(M8:bP P w K mg base "turned" ["net"] 03 (bQ K 1 E_)):bP P w K mg base "forth" qaR 04 (bQ K 2 MZ):=by show D.fj (gf D.F AS 9 λbM A outer s H E Ox hr ts q hG=>?_);let nd:=AS.nd;show#[_,(aq (aA (Ψ (aw sX hr (aa (ω (aw M8 hr (aa 489 ak))) 57))))),λ_=>?_];let(net,x,rfl,(hl,hn),hx,hq):=hG;show#[9,net,9,#[hl,hn],λout Tu=>#[9,out,x,9,#[by rw[Tu.1];calc hl,by rw[Tu.1];calc Tu.2.1],by rw[Tu.1];calc hx,hq out Tu]]
abbrev Hw:χ:=qaS
def sY:az Hw qaS (ar oK):=457
def De(D:Df K mg "between" oK qaS f fd)(Rx:bP P w K mg base "forth" qaR 04 (bQ K 2 MZ))(sX:bP P w K mg base "back" qaR 03 (bQ K 2 E7)):bP P w K mg base "between" qaS 05 (bQ K 03 AQ):=by show D.fj (gf D.F sY 9 λbM A outer s H E Ox hr ts q hG=>?_);let nd:=sY.nd;show#[_,(aq (aA (Ψ (j2 (ν (aw Rx hr 238)) (ν (aw sX hr (aa 489 530))))))),λ_=>?_];let(net,x,y,rfl,N,hx,hy,hq):=hG;calc#[9,net,x,9,N,hx,λout Tu=>#[9,net,y,9,N,hy,hq out Tu]]
abbrev Dh:χ:=qaT
def pG:az Dh qaT (ar bR):=457
def AU{dv:Value}(F:C5 K "slice_of" "slice_of" bR f fd)(m:mg "slice_of"\.ref f)(b:Binds K fd qaT [])(b2:Binds K fd qaT [dv])(sX:bP P w K mg base "back" qaR 03 (bQ K 2 E7))(sZ:bP P w K mg base "net_of" qaQ 09 (bQ K 2 C_)):bP P w K mg base "slice_of" qaT 10 (bQ K 03 Dd):=by
 show#[f,fd,m,F.kp,b,aeu F pG 9 λbM A outer s H E Ox hr ts q hG=>?_];let nd:=pG.nd;show#[_,(aq (aA (Ψ (aw sX hr (aa (ω (aw sZ hr (aa 489 530))) 57))))),λ_=>?_];let(rs,x,b',rfl,N,hx,hq):=hG;let el:(d5 rs b').length=rs.length:=by unfold d5;rw[bS,pJ]
 calc#[9,rs,b',9,N,9,_,x,9,C9 N b',by rw[el];calc hx,hq]
end
end Nt
namespace fS
open PySem L2 VT Gen
open yR (cf)
def top(i:Nat):Stmt:=PySem.Challenge.pw_slicewise_k44_slices_of_several_sets.main.body.getD i (.Pass #[0,0,0,0])
abbrev oM:Stmt:=top 62
abbrev yd:Stmt:=top 63
abbrev oN:Stmt:=top 64
abbrev M9:Stmt:=top 65
abbrev s_call:Stmt:=top 066
abbrev s_:Stmt:=top 67
abbrev M_:Stmt:=top 68
abbrev Di:Stmt:=top 069
abbrev oO:Stmt:=top 070
structure Xq(mg:qae):Prop where
 len:mg "len"=none
 range:mg "range"=none
 tuple:mg "tuple"=none
 sum:mg "sum"=none
def Tz(ts:Λ)(q:qam):Prop:=∃(ns:qan)(j:Nat),ts=[.lst (ns.map .int),.int (j:Int)]/\q (.vw (.int (ns.getD j 0)))
def M'(ts:Λ)(q:qam):Prop:=∃(c:Int)(m:Nat),ts=[.int c,.int (m:Int)]/\2<=m/\m<=20/\q (.fr (.lst ((fm c m).map .str)))
section
abbrev Hx:χ:=qaU
def tf:az Hx qaU (ar oM):=457
def Dj(D:Df K mg "_law_cell_at" oM qaU f fd)(M:Xq mg):bP P w K mg base "_law_cell_at" qaU 1 (bQ K 2 Tz):=by
 show D.fj (gf D.F tf 9 λbM A outer s H E Ox hr ts q hG=>?_);let nd:=tf.nd;show#[_,(af (bb (mw 109 22)
    (aq (aA (Ψ (ay 37 109))))
    aE)
   (aq (aA (Ψ ag)))),λ_=>?_]
 let(ns,j,rfl,hq):=hG;show F5 (λh=>?_) (λh=>?_);let h':=Θ h;rw[bS] at h';let hj:j<ns.length:=by omega
 show#[.int (ns.getD j 0),ai ?_,hq];rw[fW,eY hj,List.getD,eY hj];rfl;let h':¬ (j<((ns.map T.int).length:Int)):=λz=>h (ο z);rw[bS] at h';let e:ns.getD j 0=0:=by rw[List.getD,Iz 70];rfl
 rw[e] at hq;calc hq
abbrev Ry:χ:=["_law_cell","_law_many","_law_letters","_law_size","_law_at","_law_words_here","_law_k","_law_word","_law_j","_law_number"]
def AV:az Ry qaV (ar yd):=457
def Na(D:Df K mg "_law_words" yd qaV f fd)(M:Xq mg):bP P w K mg base "_law_words" qaV 1 (bQ K 2 M'):=by
 show D.fj (gf D.F AV 9 λbM A outer s H E Ox hr ts q hG=>?_);let nd:=AV.nd;let hu:=bH.dW hr;let np:∀{i:Nat},aY #[H,[],Ox] i:=gW;show#[_,(af (aJ (i:=2) nd 9 7 (Ψ aC) np)
  (af (aJ (i:=0) nd 9 7 (Ψ (bz 37 447)) np)
  (af (aJ (i:=03) nd 9 7 (Ψ (cH 4 (ν (bz 37 4)))) np)
  (af (aJ (i:=04) nd 9 7 (Ψ (bz 176 236)) np)
  (af (cP (i:=05) nd 9 7 497 np)
  (af (cQ nH 9 (cX 19 M.range 109) (aM (i:=06) nd 9 7 np)
   (af (aJ (i:=07) nd 9 7 (Ψ aC) np)
   (af (cQ nH 9 (cX 19 M.range 236) (aM (i:=08) nd 9 7 np)
    (af (aJ (i:=09) nd 9 7 (Ψ (cH (ν (bO 176 (ν (cH (ae 08) 4)))) (ν (gU (ae 08) (ae 08))))) np)
    (af (bb (bG hu (ae 08) (ae 04))
     (aq (lq (i:=09) nd 9 7 (ae 06) Oo Ju np))
     aE)
    (aq (aJ (i:=07) nd 9 7 (Ψ (cH (ae 07) (ν (ay 124 (ν (bz (ae 09) 4)))))) np)))))
   (aq (bA (dy 05 qu qv bo ba (aa (ah 07) ak)))))))
  (af (bb (bG hu 84 4)
   (aq (gk 05 (ω (cH (ν (ay (ae 05) 4)) (ν (ay 124 84)))) 4))
   aE)
  (aq (aA (eF 05 np)))))))))),λ_=>?_]
 let(c,m,rfl,hm2,agO,hq):=hG;let e12:=adg;let hz:1+c % 10 ^ (12:Int).toNat % 07=(o4 c:Int):=by rw[e12];exact (SE c).symm
 show#[#[by decide,by decide,by decide],15,15,#[by decide,by decide],(by rw[hz];omega),fB _,by omega,by omega,dz (λk ρ=>∃kv wv jv nv,ρ=[aP (.int (Ee c)),aP (.int m),aP (.str cf),aP (.int (o4 c:Int)),aP (.int (SA c:Int)),some (.lst (((List.range k).map λk=>c6 c k (o4 c)).map .str),true),kv,wv,jv,nv]) #[none,none,none,none,?_] ?_ ?_];let ha:c % 10 ^ (12:Int).toNat / 07 % (1+c % 10 ^ (12:Int).toNat % 07)=(SA c:Int):=by rw[hz,e12];exact (adf c).symm
 rw[ha,hz,e12];rfl;rintro k ρ hk ⟨kv,wv,jv,nv,rfl⟩;show#[by omega,by omega,dz (λj ρ=>∃jv nv,ρ=[aP (.int (Ee c)),aP (.int m),aP (.str cf),aP (.int (o4 c:Int)),aP (.int (SA c:Int)),some (.lst (((List.range k).map λk=>c6 c k (o4 c)).map .str),true),aP (.int (0+k)),aP (.str (c6 c k j)),jv,nv]) #[_,_,9] ?_ ?_];rintro j ρ hj ⟨jv,nv,rfl⟩;show#[#[by decide,by decide],#[by omega,by omega],.inl #[by omega,by omega],?_];let last:∀n:Int,n=Gn c k j->∃c',h7 cf.cps.toList (n % 26)\c'/\(c6 c k j).length+(Str.mk ([c'].toArray)).length<=sizeLine/\(c6 c k j++#[([c'].toArray)])=c6 c k (j+1):=by rintro n rfl;show#[_,uW _,?_,(B5 c k j).symm];rw[j6,π];change j+1<=16777216;omega
 show cJ (λh=>?_) (λh=>?_);let hja:j=SA c:=by let h:=h;omega
 let(c',h1,h2,h3):=last (Ee c / 49 / (0+j+1)+(0+j) * (0+j)+(0+(k:Int))) (by unfold Gn;rw[ι hja];erw[H_]);calc#[by decide,gY,c',h1,h2,_,_,by rw[<- h3];rfl];let hja:¬ j=SA c:=λz=>h 70;let(c',h1,h2,h3):=last (Ee c / 49 / (0+(j:Int)+1)+(0+(j:Int)) * (0+(j:Int))) (by unfold Gn;rw[θ hja];erw[H_,Int.add_zero]);calc#[by decide,gY,c',h1,h2,_,_,by rw[<- h3];rfl];rintro ρ ⟨jv,nv,rfl⟩;show#[?_,aP (.int (0+(k:Int))),aP (.str (c6 c k (o4 c))),jv,nv,?_];rw[bS,bS,pJ,π];omega;rw[T5,nG,nG];rfl;rintro ρ ⟨kv,wv,jv,nv,rfl⟩;show#[#[by decide,by decide],15,cJ (λh=>?_) (λh=>?_)];let hc:=h;let e0:h7 (((List.range m).map λk=>c6 c k (o4 c)).map T.str) 0\T.str (c6 c 0 (o4 c)):=by show ai (j:=0) ?_;rw[fW,fW,RP 70];rfl
 show#[_,e0,#[by decide,by decide],15,gY,_,uW _,?_,1,?_,?_];rw[j6,π];change o4 c+1<=16777216;omega;unfold vQ;rw[ι 15,ι (by rw[bS,bS,pJ];omega)];rfl;let e:(fm c m).map T.str=(((List.range m).map λk=>c6 c k (o4 c)).map T.str).set 1 (T.str (c6 c 0 (o4 c)++#[([n4 (Ee c / 147)].toArray)])):=by unfold fm;rw[ι hc,List.map_set]
 rw[e] at hq;calc hq;let hc:=h;let e:(fm c m).map T.str=(((List.range m).map λk=>c6 c k (o4 c)).map T.str):=by unfold fm;rw[θ hc]
 rw[e] at hq;calc hq
end
def ix(ts:Λ)(q:qam):Prop:=∃(n:Int)(ys:χ),ts=[.int n,.lst 465]/\172=06/\0<=n/\n<2147483648/\∀o,dX ys o->q (.vw (mD o))
def aex(ts:Λ)(q:qam):Prop:=∃(n:Int)(ys:χ),ts=[.int n,.lst 465]/\172=06/\(∀y∈ys,y.length<=100)/\0<=n/\n<2147483648/\∀k,wD ys k->q (.vw (B7 k))
def TB(ts:Λ)(q:qam):Prop:=∃(n:Int)(x:Str)(ys:χ)(pl:Plan),ts=[.int n,.str x,.lst 465,.lst 534]/\172=06/\pl≠[]/\518<=03/\(∀p∈pl,p.2.length<=04)/\x∈ys/\0<=n/\n<2147483648 /\
 ∀f as,ij ys pl (.call x f as)->q (.vw (aZ (.call x f as)))
structure Given(ys:χ)(pl:Plan):Prop where
 y6:172=06
 sm:∀y∈ys,y.length<=100
 p3:518<=03
 p4:∀p∈pl,p.2.length<=04
def Fc(ts:Λ)(q:qam):Prop:=∃(n:Int)(ys:χ)(pl:Plan),ts=[.int n,.lst 465,.lst 534]/\Given ys pl/\0<=n/\n<2147483648/\∀r,ij ys pl r->q (.vw (aZ r))
section
abbrev Hy:χ:=qaW
def Dk:az Hy qaW (ar oN):=457
def Dl(D:Df K mg "_law_operand" oN qaW f fd):bP P w K mg base "_law_operand" qaW 1 (bQ K 2 ix):=by
 show D.fj (gf D.F Dk 9 λbM A outer s H E Ox hr ts q hG=>?_);let hu:=bH.dW hr;show#[_,(af (bb (yV (ν (bz 37 4)) 4)
    (aq (aA 459))
    aE)
   (af (bb (bG hu (ν (bz 37 4)) 4)
     (aq (aA (Ψ (qQ (ν (bz (ν (cH (ν (gU (ν (gU 37 4)) 447)) 37)) (ν (gU 4 447)))) 447))))
     aE)
   (aq (aA (Ψ (qQ 84 4)))))),λ_=>?_]
 let(n,ys,rfl,Hz,V1,Wu,hq):=hG;show#[15,cJ (λ_=>?_) (λ_=>?_)];let(y,hy,e):=mE Hz (m:=04) 15 15;calc#[#[by decide,by decide],15,_,e,hq (.nm y) hy];show#[15,cJ (λ_=>?_) (λ_=>?_)];show#[.inr #[by decide,by decide],#[by decide,by decide,by decide],.inl #[by omega,by omega],#[by decide,by decide,by decide],.inl #[by decide,by decide],15,#[by decide,by decide,by decide],hq (.nu _) ?_];rw[adh];calc#[by omega,by omega];calc#[#[by decide,by decide],15,hq (.nu _) #[by omega,by omega]]
abbrev aey:χ:=qaW
def Xr:az aey qaW (ar M9):=457
def Xs(D:Df K mg "_law_key" M9 qaW f fd)(c1:bP P w K mg base "_law_operand" qaW 1 (bQ K 2 ix)):bP P w K mg base "_law_key" qaW 2 (bQ K 2 aex):=by
 let(ki,i6,cz,cA,cC,cD):=c1;show D.fj (gf D.F Xr 9 λbM A outer s H E Ox hr ts q hG=>?_);let hu:=bH.dW hr;show#[_,(af (bb (bG hu (ν (bz 37 4)) 4)
    (aq (aA (Ψ (cH 502 (ν 170)))))
    aE)
   (aq (aA (Ψ (dj cD 42 19 cz cA cC (aa (ω 241) 57)))))),λ_=>?_]
 let(n,ys,rfl,Hz,hsm,V1,Wu,hq):=hG;show#[15,cJ (λ_=>?_) (λ_=>?_)];let(y,hy,e):=mE Hz (m:=2) 15 15;show#[#[by decide,by decide],15,_,e,?_,hq (.fld y) hy];rw[afS,π];have:=hsm y hy;omega;calc#[#[by decide,by decide],9,_,ys,9,Hz,by omega,by omega,λo ho=>hq (.op o) ho]
abbrev Xu:χ:=["_law_number","_law_name","_law_words_here","_law_later","_law_other","_law_parameters","_law_operands","_law_k"]
def Fd:az Xu qaX (ar s_call):=457
def Rz(D:Df K mg "_law_call" s_call qaX f fd)(M:Xq mg)(c1:bP P w K mg base "_law_operand" qaW 1 (bQ K 2 ix)) :
  bP P w K mg base "_law_call" qaX 2 (bQ K 04 TB):=by
 let(ki,i6,cz,cA,cC,cD):=c1;show D.fj (gf D.F Fd 9 λbM A outer s H E Ox hr ts q hG=>?_);let nd:=Fd.nd;let np:∀{i:Nat},aY #[H,[],Ox] i:=gW;show#[_,(af (Vh (ω (ay 236 (ν (bz 37 449)))) (e_ 9 (bq (aM (i:=04) nd 9 7 np) (bq (aM (i:=05) nd 9 7 np) dI))))
   (af (cP (i:=06) nd 9 7 497 np)
   (af (cQ nH 9 (cX 19 M.range 448) (aM (i:=07) nd 9 7 np)
     (aq (bA (dy 06 qu qv bo ba (aa (ω (dj cD 42 19 cz cA cC (aa (ω (bO 37 (ν (cH 449 (ae 07))))) 530))) ak)))))
   (aq (aA (Ψ (bB (aa 104 (aa 171 (aa 500 (aa (ω (ic kM oY 19 M.tuple Eb (aO (ae 06) aX))) ak))))))))))),λ_=>?_]
 let(n,x,ys,pl,rfl,Hz,fY,hp3,hp4,hx,V1,Wu,hq):=hG;let afW:0<pl.length:=by cases pl with|nil=>exact absurd 9 fY|cons a r=>simp
 let eL:((pl.map cv).length:Int)=pl.length:=by rw[bS]
 let h0:0<=n % ((pl.map cv).length:Int):=Bq n 70;let h1:n % ((pl.map cv).length:Int)<pl.length:=by rw[eL];exact IC n 70
 let(j,hj):=qw h0;let PZ:j<pl.length:=by omega
 obtain⟨p,hp⟩:∃p:Str×χ,p=pl[j]:=#[_,9];let(fn,ps):=p;let oa:(fn,ps)∈pl:=by rw[hp];exact Ft PZ
 let NR:ps.length<=04:=hp4 _ oa;show#[70,cv (fn,ps),?_,9,?_];rw[hj];show ai ?_;rw[fW,eY PZ,<- hp];rfl;show#[9,fB _,by omega,by change ((ps.map T.str).length:Int)<2 ^ 62;rw[bS];omega,?_];show dz (λk ρ=>∃kv os as,ρ=[aP (.int n),aP 535,aP 521,aP 492,aP (.str fn),aP (.tup (ps.map .str)),some (.lst os,true),kv]/\os=as.map mD/\as.length=k/\∀a∈as,dX ys a)
  #[none,[],[],9,9,9,λ_ z=>nomatch z] ?_ ?_
 rintro k ρ hk ⟨kv,_,as,rfl,rfl,rfl,pO⟩;let yp:as.length<ps.length:=by rw[bS,i9] at hk;exact hk
 show#[#[by omega,by omega],9,_,ys,9,Hz,?_,?_,λo ho=>#[?_,_,_,as++[o],9,?_,by simp,λa ha=>?_]];calc Int.ediv_nonneg V1 70;calc Int.lt_of_le_of_lt (Int.ediv_le_self _ V1) Wu;rw[bS,π];omega;rw[nG];rfl;rcases fO.mp ha with z|z
 calc pO a z;rw[fE.mp z];calc ho;rintro ρ ⟨kv,_,as,rfl,rfl,hlen,pO⟩;show#[by change 04<=sizeLine;rw[π];decide,hq fn as #[hx,#[ps,oa,?_],pO]];rw[hlen,bS];rfl
end
def fits(h:n<=1001):n<sizeLine:=by rw[π];omega
def bW(h:n<=08):n<=sizeLine:=small 70
def GH(q:qam)(n:Int)(ys:χ)(pl:Plan)(y z:Str):FS:=λd ρ=>(∃wv,ρ=[aP (.int n),aP 521,aP 492,aP (.int (n % 13)),aP (.str y),aP (.str z),aP (.int (n / 208)),wv])/\∀ρ r,q r->d.rt ρ r
def aez:GT:=λts q=>∃(rs:F2)(ck:χ)(c:Int)(ys:χ)(pl:Plan),ts=[.lst 86,.lst (ck.map .str),.int c,.lst 465,.lst 534]/\Given ys pl/\5<=1000/\ck.length<=1000 /\
 ∀new eM,rh ys pl ck new eM->q [.lst ((rs++new).map aZ),.lst (eM.map .str)] (.vw .bY)
section
abbrev Nb:χ:=["_law_number","_law_words_here","_law_later","_law_kind","_law_name","_law_other","_law_rest","_law_word"]
def vF:az Nb qaY (ar s_):=457
theorem HA(D:Df K mg "_law_simple" s_ qaY f fd)(c1:bP P w K mg base "_law_operand" qaW 1 (bQ K 2 ix))(c2:bP P w K mg base "_law_key" qaW 2 (bQ K 2 aex))(c3:bP P w K mg base "_law_call" qaX 2 (bQ K 04 TB)) :
  bP P w K mg base "_law_simple" qaY 03 (bQ K 03 Fc):=by
 let(ki,i6,cz,cA,cC,cD):=c1;let(agC,ags,TC,TF,TH,TJ):=c2;let(agt,aeV,Xv,Xw,Xx,Xy):=c3;show D.fj (gf D.F vF 9 λbM A outer s H E Ox hr ts q hG=>?_);let nd:=vF.nd;let hu:=bH.dW hr;let np:∀{i:Nat},aY #[H,[],Ox] i:=gW;let(n,ys,pl,rfl,G,V1,Wu,hq):=hG;let(y,hy,ey):=mE G.y6 (m:=04) 15 15;let(z,hz,ez):=mE G.y6 (m:=04) 15 15;show#[_,(af (aJ (i:=03) nd 9 7 (Ψ (bz 37 4)) np)
   (af (aJ (i:=04) nd 9 7 459 np)
   (af (aJ (i:=05) nd 9 7 459 np)
   (af (aJ (i:=06) nd 9 7 (Ψ 241) np)
   (af (bb (mw 236 4)
     (aq (aA (Ψ (bB (aa 104 (aa 500 (aa (ω (dj cD 42 19 cz cA cC (aa (ah 06) 57))) ak)))))))
     aE)
   (af (bb (mw 236 4)
     (af (aJ (i:=07) nd 9 7 (Ψ (ay (ν (bK (aa 104 (aa 104 (aa 104 (aa 104 (aa 104 475))))))) (ν (bz (ae 06) 4)))) np)
     (aq (aA (Ψ (bB (aa 104 (aa 500 (aa (ω (dj cD 42 19 cz cA cC (aa (ω (bO (ae 06) 4)) 57))) (aa (ah 07) (aa (ω (dj cD 42 19 cz cA cC (aa (ω (bO (ae 06) 4)) 57))) ak))))))))))
     aE)
   (af (bb (bG hu 236 4)
     (aq (aA (Ψ (bB (aa 104 472)))))
     aE)
   (af (bb (mw 236 4)
     (aq (aA (Ψ (bB (aa 104 (aa 500 (aa (ah 05) (aa (ω (dj TJ 42 19 TC TF TH (aa (ah 06) 57))) ak))))))))
     aE)
   (af (bb (mw 236 4)
     (aq (aA (Ψ (bB (aa 104 (aa (ah 05) (aa (ω (dj TJ 42 19 TC TF TH (aa (ah 06) 57))) (aa (ω (dj cD 42 19 cz cA cC (aa (ω (bO (ae 06) 4)) 57))) ak))))))))
     aE)
   (af (bb (VW.vc (c9 (bG hu 236 4) (c0 (h_ hu 124 (ν (bK ak))))))
     (aq (aA (Ψ (dj Xy 42 19 Xv Xw Xx (aa (ah 06) (aa 500 (aa 171 530)))))))
     aE)
   (kx.weak (u:=(GH q n ys pl y z)) (af (bb (VW.vc (c9 (bG hu 236 4) (c0 (bG hu (ν (bz (ae 06) 4)) 4))))
     (aq (aA (Ψ (bB (aa 104 (aa (ω (ay 109 (ν (cH 4 (ν (bz (ν (bO (ae 06) 4)) 4)))))) ak))))))
     aE)
   (af (bb (VW.vc (c9 (bG hu 236 4) (c0 (bG hu (ν (bz (ae 06) 4)) 4))))
     (aq (aA (Ψ (bB 463))))
     aE)
   (aq (aA (Ψ (bB (aa 104 (aa 500 (aa (ah 05) ak))))))))) ?w_cutS))))))))))),λ_=>?_]
 case w_cutS=>
  rintro d ρ ⟨⟨wv,rfl⟩,kk⟩;show cJ (λ_=>?_) (λ_=>?_);show#[15,cJ (λ_=>?_) (λ_=>?_)];let(x,hx,ex):=B8 G.y6 (n / 208 / 03);calc#[#[by decide,by decide],15,_,ex,bW 6,kk _ _ (hq (.fail x) hx)];calc cJ (λ_=>#[15,cJ (λ_=>#[bW 6,kk _ _ (hq .skip trivial)]) (λ_=>#[bW 6,kk _ _ (hq (.put y (.nm z)) #[hy,hz])])]) (λ_=>#[bW 6,kk _ _ (hq (.put y (.nm z)) #[hy,hz])]);exact gX 9 (cJ (λ_=>#[15,cJ (λ_=>#[bW 6,kk _ _ (hq .skip trivial)]) (λ_=>#[bW 6,kk _ _ (hq (.put y (.nm z)) #[hy,hz])])]) (λ_=>gX 9 #[bW 6,kk _ _ (hq (.put y (.nm z)) #[hy,hz])]))
 let m0:0<=n / 208:=by omega
 let m1:n / 208<2147483648:=by omega
 let dv:∀e:Int,0<e->0<=n / 208 / e/\n / 208 / e<2147483648:=λe he=>#[Int.ediv_nonneg m0 70,Int.lt_of_le_of_lt (Int.ediv_le_self _ m0) m1];show#[15,#[by decide,by decide],15,_,ey,#[by decide,by decide],15,_,ez,#[by decide,by decide],cJ (λ_=>?_) (λ_=>?_)];calc#[9,_,ys,9,G.y6,m0,m1,λo ho=>#[bW 6,hq (.put y o) #[hy,ho]]];show cJ (λ_=>?_) (λ_=>?_);let(op,Bi,eop):=adk (n / 208);calc#[bW 6,15,_,eop,#[by decide,by decide],9,_,ys,9,G.y6,(dv 07 15).1,(dv 07 15).2,λo ho=>#[#[by decide,by decide],9,_,ys,9,G.y6,(dv 420 15).1,(dv 420 15).2,λo2 Ig=>#[bW 6,hq (.uc y o op o2) #[hy,ho,Bi,Ig]]]];show cJ (λ_=>#[bW 6,hq (.new y) hy]) (λ_=>cJ (λ_=>?_) (λ_=>?_));calc#[9,_,ys,9,G.y6,G.sm,m0,m1,λk hk=>#[bW 6,hq (.get y z k) #[hy,hz,hk]]];show cJ (λ_=>?_) (λ_=>?_);calc#[9,_,ys,9,G.y6,G.sm,m0,m1,λk hk=>#[#[by decide,by decide],9,_,ys,9,G.y6,(dv 090 15).1,(dv 090 15).2,λo ho=>#[bW 6,hq (.set z k o) #[hz,hk,ho]]]];show cJ (λ_=>#[fB _,y9 pl,9,Gp pl,?_]) (λ_=>gX 9 #[#[_,9],λ_ _ h=>h]);cases pl with
 |nil=>calc gX 9 #[#[_,9],λ_ _ h=>h]
 |cons p pl=>calc Vq 9 #[9,_,y,ys,p::pl,9,G.y6,by simp,G.p3,G.p4,hy,m0,m1,λfn as hs=>hq _ hs]
end
def Nc(q:Λ->qam)(rs:F2)(ck:χ)(c n mv:Int)(ys:χ)(pl:Plan):FS:=λd ρ=>(∃nv,ρ=[some (.lst 86,true),some (.lst (ck.map .str),true),aP (.int c),aP 521,aP 492,aP (.int n),aP (.int mv),nv]) /\
 ∀ρ,q (lu [true,true,false,false,false] ρ) (.vw .bY)->d.nx ρ
def tq(l:χ):plainT (.lst (l.map .str))=true:=by erw[plainT];calc iN (λ_=>by simp[plainT]) l
def AW(l:χ):dep (.lst (l.map .str))<=100:=by have:=mF (f:=T.str) (n:=0) (λ_=>by simp[dep]) l;erw[dep];omega
section
abbrev aeA:χ:=["_law_rows","_law_stack","_law_cell","_law_words_here","_law_later","_law_number","_law_move","_law_name"]
def Nd:az aeA qaZ (ar M_):=457
def Xz(D:Df K mg "_law_lay" M_ qaZ f fd)(M:Xq mg)(c1:bP P w K mg base "_law_operand" qaW 1 (bQ K 2 ix))(c2:bP P w K mg base "_law_simple" qaY 03 (bQ K 03 Fc)) :
  bP P w K mg base "_law_lay" qaZ 04 (BX K [true,true,false,false,false] aez):=by
 let(ki,i6,cz,cA,cC,cD):=c1;let(aeB,YD,Nf,Ng,Nh,Ni):=c2;show D.fj (fnV D.F Nd 9 λbM A outer s H E as Ox hr ts q hl hG=>?_);let nd:=Nd.nd;let hu:=bH.dW hr;let(rs,ck,c,ys,pl,rfl,G,EI,hs1,hq):=hG;let n0:0<=c / 08 * 48271 % 2147483647:=Bq _ 15;let n2:c / 08 * 48271 % 2147483647<2147483648:=by omega
 let d3:0<=c / 08 * 48271 % 2147483647 / 03/\c / 08 * 48271 % 2147483647 / 03<2147483648:=#[by omega,by omega];let HB:(rs.map aZ).length<sizeLine:=by rw[bS];exact fits 70
 let aeC:(ck.map T.str).length<sizeLine:=by rw[bS];exact fits 70
 let one:=λ{r eM} h=>by have:=hq [r] eM h;rw[nG] at this;exact this
 let push:∀x:Str,(ck++[x]).map T.str=ck.map T.str++[T.str x]:=λx=>by rw[nG];rfl
 show#[_,(af (aJ (i:=05) nd 9 7 (Ψ (bz (ν (gU (ν (bO 124 4)) 4)) 4)) (Ec 15))
   (af (aJ (i:=06) nd 9 7 (Ψ (bz 124 4)) (Ec 15))
   (kx.weak (u:=85) (aq (bb (VW.vc (c9 (bG hu (ae 06) 4) (c0 (mw (ν (aS aT aV 19 M.len l0 (aO 109 aX))) 4))))
     (af (bA (dy 0 qu qv bo ba (aa (ω (bB (aa 104 (aa (ω (dj cD 42 19 cz cA cC (aa (ah 05) (aa (ah 03) ak)))) ak)))) ak)))
     (aq (bA (dy 1 qu qv bo ba 463))))
     (kx.weak (u:=85) (aq (bb (VW.vc (c9 (bG hu (ae 06) 4) (c0 (mw (ν (aS aT aV 19 M.len l0 (aO 109 aX))) 4))))
       (af (bA (dy 1 qu qv bo ba 463))
       (aq (bb (bG hu (ν (bz (ae 05) 4)) 4)
         (aq (bA (dy 0 qu qv bo ba (aa (ω (bB (aa 104 (aa (ω (dj cD 42 19 cz cA cC (aa (ω (bO (ae 05) 4)) (aa (ah 03) ak)))) ak)))) ak))))
         (af (aJ (i:=07) nd 9 7 (Ψ (ay 236 (ν (bz (ν (bO (ae 05) 4)) 4)))) (Ec 15))
         (af (bA (dy 0 qu qv bo ba (aa (ω (bB (aa 104 (aa (ah 07) ak)))) ak)))
         (aq (bA (dy 0 qu qv bo ba (aa (ω (bB (aa 104 (aa (ah 07) (aa (ah 07) (aa 104 509)))))) ak)))))))))
       (kx.weak (u:=85) (aq (bb (VW.vc (c9 (bG hu (ae 06) 4) (c9 (h_ hu 109 (ν (bK ak))) (c0 (bG hu (ν (ay 109 (ν (qT 4)))) 502)))))
         (af (bA (dy 0 qu qv bo ba (aa (ω (bB 463)) ak)))
         (aq (gk 1 104 (ν (qT 4)))))
         (kx.weak (u:=85) (aq (bb (VW.vc (c9 (bG hu (ae 06) 4) (c0 (h_ hu 109 (ν (bK ak))))))
           (af (bA (dy 0 qu qv bo ba (aa (ω (bB 463)) ak)))
           (aq (bA (v_ 1 acz acA vX p_))))
           (kx.weak (u:=85) (aq (bA (dy 0 qu qv bo ba (aa (ω (dj Ni 42 19 Nf Ng Nh (aa (ah 05) (aa (ah 03) 472)))) ak)))) ?w5))) ?w4))) ?w3))) ?w2))) ?w1))),?_]
 case w5=>
  rintro d ρ ⟨⟨nv,rfl⟩,kk⟩;exact#[9,_,ys,pl,9,G,n0,n2,λr hs=>#[HB,kk _ (one (.inr (.inr (.inr (.inr (.inr #[r,hs,9,9]))))))]]
 case w4=>
  rintro d ρ ⟨⟨nv,rfl⟩,kk⟩;show cJ (λ_=>#[fB _,tq ck,9,AW ck,?_]) (λ_=>gX 9 #[#[nv,9],kk]);rcases List.eq_nil_or_concat ck with e|⟨s0,x,e⟩
  subst e;calc gX 9 #[#[nv,9],kk];let en:eqT (.lst (ck.map .str)) (.lst [])=false:=by rw[e];cases s0<;>simp[eqT,Jn]
  show Vq (by change (!eqT (.lst (ck.map .str)) (.lst []))=true;rw[en];rfl) #[bW 6,HB,9,T.str x,?_,?_];rw[e];simp;let e2:(ck.map T.str).dropLast=s0.map T.str:=by rw[e];simp
  show kk _ ?_;rw[e2];exact one (.inr (.inr (.inr (.inr (.inl #[s0,x,by rw[e,List.concat_eq_append],9,9])))))
 case w3=>
  rintro d ρ ⟨⟨nv,rfl⟩,kk⟩;show cJ (λ_=>#[fB _,tq ck,9,AW ck,?_]) (λ_=>gX 9 #[#[nv,9],kk]);rcases List.eq_nil_or_concat ck with e|⟨s0,x,e⟩
  subst e;calc gX 9 (gX 9 #[#[nv,9],kk]);let en:eqT (.lst (ck.map .str)) (.lst [])=false:=by rw[e];cases s0<;>simp[eqT,Jn]
  let ex:h7 (ck.map T.str) (-1)\T.str x:=by rw[e,List.concat_eq_append,nG];exact qH _ _
  show Vq (by change (!eqT (.lst (ck.map .str)) (.lst []))=true;rw[en];rfl) #[_,ex,cJ (λhx=>?_) (λ_=>#[#[nv,9],kk])];let Ii:=hx;subst Ii;let Wc:(ck.map T.str).length=s0.length+1:=by rw[e];simp
  show#[bW 6,HB,s0.length,?_,kk _ ?_];unfold vQ;rw[Wc,θ 15,ι 70]
  congr 1
  omega;let e2:(ck.map T.str).set s0.length (T.str "else")=(s0++([("else":Str)]:χ)).map T.str:=by rw[e];simp
  change q [.lst (rs.map aZ++[aZ .pR]),.lst ((ck.map T.str).set s0.length (T.str "else"))] _;rw[e2];exact one (.inr (.inr (.inr (.inl #[s0,by rw[e];simp,9,9]))))
 case w2=>
  rintro d ρ ⟨⟨nv,rfl⟩,kk⟩;show cJ (λ_=>cJ (λ_=>#[aeC,15,cJ (λ_=>?_) (λ_=>?_)]) (λ_=>#[#[nv,9],kk])) (λ_=>gX 9 #[#[nv,9],kk]);show#[#[by decide,by decide],9,_,ys,9,G.y6,d3.1,d3.2,λo ho=>#[bW 6,HB,kk _ ?_]];have:=one (.inr (.inl #[o,ho,9,9]));rw[push] at this;calc this;let(y,hy,ey):=mE G.y6 (m:=04) 15 15;show#[#[by decide,by decide],15,_,ey,bW 6,HB,bW 6,?_,kk _ ?_];rw[fU,bS];calc fits (by simp;omega);have:=hq [.n5 (.nm y),.uc y (.nm y) "minus" (.nu 1)] _ (.inr (.inr (.inl #[y,hy,9,9])));rw[push,nG] at this;rw[yt];exact this
 case w1=>
  rintro d ρ ⟨⟨nv,rfl⟩,kk⟩;show cJ (λ_=>cJ (λ_=>#[9,_,ys,9,G.y6,n0,n2,λo ho=>#[bW 6,HB,aeC,kk _ ?_]]) (λ_=>#[#[nv,9],kk])) (λ_=>gX 9 #[#[nv,9],kk]);have:=one (.inl #[o,ho,9,9]);rw[push] at this;exact this
 calc#[#[by decide,by decide],.inr #[by decide,by decide],15,15,#[none,9],λ_ h=>h]
end
def TK(ts:Λ)(q:qam):Prop:=∃(c:Int)(ys:χ),ts=[.int c,.lst 465]/\172=06/\∀pl,B9 ys pl->1<=518->518<=03->q (.fr 492)
section
abbrev Nj:χ:=["_law_cell","_law_words_here","_law_number","_law_plan_here","_law_k","_law_parameters"]
def Fe:az Nj qba (ar Di):=457
def Dm:(Nj++(["_law_j"]:χ)).Nodup:=by decide +kernel
def RA(D:Df K mg "_law_plan" Di qba f fd)(M:Xq mg):bP P w K mg base "_law_plan" qba 1 (bQ K 2 TK):=by
 show D.fj (gf D.F Fe 9 λbM A outer s H E Ox hr ts q hG=>?_);let nd:=Fe.nd;let np:∀{i:Nat},aY #[H,[],Ox] i:=gW;show#[_,(af (aJ (i:=2) nd 9 95 (Ψ (bz 37 447)) np)
  (af (cP (i:=03) nd 9 7 497 np)
  (af (cQ nH 9 (cX 19 M.range (ν (cH 4 (ν (bz 124 4))))) (aM (i:=04) nd 9 7 np)
   (af (aJ (i:=2) nd 9 95 (Ψ (bz (ν (cH (ν (cH (ν (gU 124 124)) (ν (gU 4 124)))) (ae 04))) 4)) np)
   (af (D5 (i:=05) (ts:=["_law_j"]) nd 9 7 9 19 (cX 19 M.range (ν (bz 124 4))) (λ_ _ _ _ _ _=>(aM (i:=06) Dm 9 7 np)) (λ_ _ _ _ _ _=>iK) (λ_ _ _ _ _ _=>(ω (ay 109 (ν (bz (ν (cH (ν (bO 124 4)) (ae 06))) 4))))) np)
   (aq (bA (dy 03 qu qv bo ba (aa (ω (bB (aa (ω (ay 109 (ae 04))) (aa (ω (ic kM oY 19 M.tuple Eb (aO (ae 05) aX))) ak)))) ak)))))))
  (aq (aA (eF 03 np)))))),λ_=>?_]
 let(c,ys,rfl,Hz,hq):=hG;show#[#[by decide,by decide,by decide],(by change (0:Int)<10 ^ (09:Int).toNat;decide),fB _,(by change (0:Int)<03;decide),?_];let m0:0<=c % (10:Int) ^ (09:Int).toNat:=Bq _ 15;let m1:c % (10:Int) ^ (09:Int).toNat<1000000000:=by rw[adi];exact IC _ 15
 let t0:0<=c % (10:Int) ^ (09:Int).toNat % 03:=Bq _ 15;let t1:c % (10:Int) ^ (09:Int).toNat % 03<03:=IC _ 15;show#[(by change -(2 ^ 62:Int)<=1+c % 10 ^ (09:Int).toNat % 03;omega),(by change 1+c % 10 ^ (09:Int).toNat % 03<(2 ^ 62:Int);omega),?_];show dz (λk ρ=>∃n kv pv ts pl,ρ=[aP (.int c),aP 521,aP (.int n),some (.lst ts,true),kv,pv]/\ts=pl.map cv/\0<=n/\n<2147483648/\518=k/\B9 ys pl)
  #[_,none,none,_,[],9,9,m0,by omega,9,λk f ps e=>by simp at e] ?_ ?_
 rintro k ρ hk ⟨n,kv,pv,_,pl,rfl,rfl,p0,p1,rfl,bZ⟩;let hk3:pl.length<03:=by omega
 show#[.inl #[by omega,by omega],.inl #[by decide,by decide],(by change (0:Int)<2147483647;decide),9,(by change (0:Int)<03;decide),?_];let g0:0<=(n * n+48271 * n+(0+(pl.length:Int))) % 2147483647:=Bq _ 15;let g1:(n * n+48271 * n+(0+(pl.length:Int))) % 2147483647<2147483647:=IC _ 15;let u0:0<=(n * n+48271 * n+(0+(pl.length:Int))) % 2147483647 % 03:=Bq _ 15;let u1:(n * n+48271 * n+(0+(pl.length:Int))) % 2147483647 % 03<03:=IC _ 15;show#[(by change -(2 ^ 62:Int)<=(n * n+48271 * n+(0+(518:Int))) % 2147483647 % 03;omega),(by change (n * n+48271 * n+(0+(518:Int))) % 2147483647 % 03<(2 ^ 62:Int);omega),?_];show#[by rw[iM];calc small (by change ((n * n+48271 * n+(0+(518:Int))) % 2147483647 % 03).toNat<=1000;omega),?_];show ie (λ_=>true) (λt=>match t with | .int j=>.str (ys.getD (((n * n+48271 * n+(0+(518:Int))) % 2147483647 / 03+j) % 04).toNat Str.empty)|_=>.bY) ?_ ?_;intro t ht _ r hr;let(i,hi,e):=YM.mp ht;let(_,rfl):=lz (by rw[eY hi,e]:(rangeT _ _)[i]?\t);rw[ι 9] at hr;calc#[#[by decide,by decide],(by change (0:Int)<04;decide),_,Ka Hz _,hr];generalize hn':(n * n+48271 * n+(0+(pl.length:Int))) % 2147483647=n' at g0 g1 u0 u1;let SU:pl.length<ys.length:=by omega
 let ek:h7 (ys.map T.str) (0+(pl.length:Int))\T.str ys[pl.length]:=by rw[H_];show ai ?_;rw[fW,eY SU];rfl
 let eps:(((rangeT 0 (n' % 03).toNat).filter λ_=>true).map λt=>match t with | .int j=>T.str (ys.getD ((n' / 03+j) % 04).toNat Str.empty)|_=>.bY)=((List.range (n' % 03).toNat).map λj=>ys.getD ((n' / 03+((j:Nat):Int)) % 04).toNat Str.empty).map T.str:=by unfold rangeT;rw[List.filter_eq_self.mpr (λ_ _=>rfl),yu,yu];apply IB;intro j _;change T.str (ys.getD ((n' / 03+(0+(j:Int))) % 04).toNat Str.empty)=T.str (ys.getD ((n' / 03+(j:Int)) % 04).toNat Str.empty);rw[H_]
 rw[eps];show#[_,ek,bW 6,by rw[bS];calc fits 70,n',_,_,_,pl++[(ys[518],(List.range (n' % 03).toNat).map λj=>ys.getD ((n' / 03+((j:Nat):Int)) % 04).toNat Str.empty)],9,?_,g0,by omega,by simp,?_];rw[nG];rfl;intro k' f' WW e;by_cases di:k'<518;rw[pI di] at e;calc bZ k' f' WW e;by_cases he:k'=518;subst he;rw[uF 82,Nat.sub_self] at e;erw[XZ,Option.some.injEq,Prod.mk.injEq] at e;let(e1,e2):=e;subst e1 e2;calc#[eY SU,n' / 03,(n' % 03).toNat,by omega,9];rw[Iz (by simp;omega)] at e;cases e;rintro ρ ⟨n,kv,pv,_,pl,rfl,rfl,p0,p1,hlen,bZ⟩;calc hq pl bZ 70 70
end
def AX(ts:Λ)(q:qam):Prop:=∃(ns:qan)(ys:χ)(pl:Plan),ts=[.lst (ns.map .int),.lst 465,.lst 534]/\ns.length<=63/\Given ys pl/\1<=518 /\
 ∀rs,Pre ys pl 518 rs->5<=60->q (.fr 453)
def Ff(f:α->T)(ns:List α)(lo hi:Option Int):∃ms:List α,t_ (ns.map f) lo hi=ms.map f/\ms.length<=ns.length:=by unfold t_;rw[bS,<- List.map_drop,<- List.map_take];show#[_,9,?_];rw[NW,X8];omega
def Nk(f:α->T)(ts:List α)(k:Nat)(h:k<=25):t_ (ts.map f) (some (k:Int)) none=(ts.drop k).map f:=by unfold t_;rw[bS,HT.OB,HT.IZ,Nat.min_eq_left h,<- List.map_drop,<- List.map_take,X0 (by rw[X8];omega)]
theorem ints_map:∀ms:qan,intsOf (ms.map T.int)\ms
 |[]=>rfl
 |m::ms=>by erw[kn,intsOf,ints_map ms];rfl
section
abbrev bt:χ:=["_law_cells","_law_words_here","_law_plan_here","_law_rows","_law_k","_law_stack","_law_start","_law_stop","_law_share","_law_cell","_law_word"]
def tu:az bt qbb (ar oO):=457
def Dn(D:Df K mg "_law_program" oO qbb f fd)(M:Xq mg)(c1:bP P w K mg base "_law_operand" qaW 1 (bQ K 2 ix))(c2:bP P w K mg base "_law_lay" qaZ 04 (BX K [true,true,false,false,false] aez)) :
  bP P w K mg base "_law_program" qbb 05 (bQ K 03 AX):=by
 let(ki,i6,cz,cA,cC,cD):=c1;let(agD,agu,aeD,aeE,aeF,aeG):=c2;show D.fj (gf D.F tu 9 λbM A outer s H E Ox hr ts q hG=>?_);let nd:=tu.nd;let hu:=bH.dW hr;let np:∀{i:Nat},aY #[H,[],Ox] i:=gW;let npf:∀{is:qao},∀i∈is,aY #[H,[],Ox] i:=λi _=>gW;let(ns,ys,pl,rfl,hns,G,Yn,hq):=hG;show#[_,(af (cP (i:=03) nd 9 7 497 np)
   (af (cQ nH 9 (cX 19 M.range 450) (aM (i:=04) nd 9 7 np)
     (af (bA (dy 03 qu qv bo ba (aa (ω (bB (aa 104 (aa (ω (ay (ν (ay 124 (ae 04))) 4)) (aa (ω (ay (ν (ay 124 (ae 04))) 4)) ak))))) ak)))
     (af (cP (i:=05) nd 9 7 497 np)
     (af (aJ (i:=06) nd 9 7 (Ψ (bO (ν (gU (ae 04) 22)) 450)) np)
     (af (aJ (i:=07) nd 9 7 (Ψ (bO (ν (gU (ν (cH (ae 04) 4)) 22)) 450)) np)
     (af (aJ (i:=08) nd 9 7 (Ψ (mx 37 (j3 (ae 06)) (j3 (ae 07)))) np)
     (af (cQ nH 9 (eG (ah 08)) (aM (i:=09) nd 9 7 np)
       (aq (bb (mw (ν (cH 449 448)) (ν (qQ 4 (ν (gU 4 (ν (qQ (ν (qQ 450 4)) (ae 04))))))))
         (aq (bA (JE aeG 42 19 aeD aeE aeF (D7 03 (D7 05 (qY (ah 09) (qY 171 (qY (ω (mx 124 (j3 (ν (cH (ae 04) 4))) DY)) Pj))))))))
         aE)))
     (Pf [05] (af (cQ nH 9 (eG (ah 05)) (aM (i:=10) nd 9 7 np)
       (aq (bA (dy 03 qu qv bo ba (aa (ω (bB 463)) ak)))))
     (af (bA (dy 03 qu qv bo ba (aa (ω (bB (aa 104 (aa (ω (dj cD 42 19 cz cA cC (aa (ω (bz (ν (aS (t7 9) Ge 19 M.sum ac6 (aO (ae 08) aX))) 447)) 57))) ak)))) ak)))
     (aq (bb (VW.vc (c9 (bG hu (ν (bz (ae 04) 4)) 4) (c0 (bG hu (ν (bz (ν (aS aT aV 19 M.len l0 (aO (ae 08) aX))) 4)) 4))))
       (aq (bA (dy 03 qu qv bo ba (aa (ω (bB 463)) ak))))
       aE)))) npf))))))))
   (aq (aA (eF 03 np))))),λ_=>?_]
 let hp3:=G.p3;let eT:((pl.map cv).length)=pl.length:=bS _;show#[fB _,by omega,by omega,?_];show dz (λk ρ=>∃kv a5 a6 a7 a8 a9 a10 rt rs,ρ=[aP (.lst (ns.map .int)),aP 521,aP 492,some (.lst rt,true),kv,a5,a6,a7,a8,a9,a10]/\rt=rs.map aZ/\Pre ys pl k rs/\5+03 * (518-k)<=60)
  #[none,none,none,none,none,none,none,_,[],9,9,.zero,by simp;omega] ?_ ?_
 rintro k ρ hk ⟨kv,a5,a6,a7,a8,a9,a10,_,rs,rfl,rfl,mh,hlen⟩;rw[eT,i9] at hk;obtain⟨p,hp⟩:∃p:Str×χ,p=pl[k]:=#[_,9];let(fn,p9):=p;let hpk:pl[k]?\(fn,p9):=by rw[eY hk,hp]
 let et:h7 (pl.map cv) (0+(k:Int))\cv (fn,p9):=by rw[H_];show ai ?_;rw[fW,hpk];rfl
 let hk3:k<03:=by omega
 let agv:(rs.map aZ).length<sizeLine:=by rw[bS];exact fits 70
 show#[_,et,_,aaU,_,et,_,aaV,bW 6,agv,fB _,.inl #[by omega,by omega],#[by omega,by omega],
  .inl #[by omega,by omega],#[by omega,by omega],?_]
 let(ms,ems,hms):=Ff T.int ns (some ((0+(k:Int)) * ((ns.map T.int).length:Int) / ((pl.map cv).length:Int))) (some ((0+(k:Int)+1) * ((ns.map T.int).length:Int) / ((pl.map cv).length:Int)));change oZ (t_ (ns.map T.int) (some ((0+(k:Int)) * ((ns.map T.int).length:Int) / ((pl.map cv).length:Int))) (some ((0+(k:Int)+1) * ((ns.map T.int).length:Int) / ((pl.map cv).length:Int)))) _ _ _ _;rw[ems];show eJ (λi ρ=>∃b6 b7 b9 TL rt st body ck,ρ=[aP (.lst (ns.map .int)),aP 521,aP 492,some (.lst rt,true),aP (.int (0+(k:Int))),some (.lst st,true),b6,b7,aP (.lst (ms.map .int)),b9,TL]/\rt=(rs++[Rw.df fn p9]++body).map aZ/\st=ck.map .str/\Body ys (pl.drop 93) ck body/\5+1+body.length+ck.length+03 * (518-1-k)<=58)
  #[_,_,_,_,_,_,[],[],9,by simp;rfl,9,.nil,by simp;omega] ?_ ?_
 rintro i z ρ hi ⟨b6,b7,b9,TL,_,_,body,ck,rfl,rfl,rfl,hB,hb⟩;show#[.inl #[by decide,by decide],cJ (λh=>?_) (λ_=>#[b6,b7,_,TL,_,_,body,ck,9,9,9,hB,hb])];let hg:=h;let agw:t_ (pl.map cv) (some (0+(k:Int)+1)) none=(pl.drop (k+1)).map cv:=by
  have:(0+(k:Int)+1)=((k+1:Nat):Int):=by omega
  rw[this];exact Nk cv pl 93 hk
 let Nl:(rs++[Rw.df fn p9]++body).length=rs.length+1+body.length:=by erw[fU,NF]
 rw[bS,bS,eT,Nl] at hg;show#[rs++[Rw.df fn p9]++body,ck,z,ys,pl.drop 93,?_,#[G.y6,G.sm,by rw[X8];omega,λp hp=>G.p4 p (acC hp)],by rw[Nl];omega,by omega,λnw eM aeH=>?_];rw[<- agw];rfl;let hlr:=Pz aeH;show#[b6,b7,_,TL,_,_,body++nw,eM,9,?_,9,.step hB aeH,by rw[fU];omega];rw[yt];rintro ρ ⟨b6,b7,b9,TL,_,_,body,ck,rfl,rfl,rfl,hB,hb⟩;let Nl:(rs++[Rw.df fn p9]++body).length=rs.length+1+body.length:=by erw[fU,NF]
 show eJ (f:=T.str) (xs:=ck) (λi ρ=>∃TL rt,ρ=[aP (.lst (ns.map .int)),aP 521,aP 492,some (.lst rt,true),aP (.int (0+(k:Int))),aP (.lst (ck.map .str)),b6,b7,aP (.lst (ms.map .int)),b9,TL]/\rt=(rs++[Rw.df fn p9]++body++List.replicate i Rw.fin).map aZ)
  #[TL,_,9,by simp] ?_ ?_
 rintro i x ρ hi ⟨c10,_,rfl,rfl⟩;let ZQ:i<ck.length:=(c7.mp hi).1;show#[bW 6,by rw[bS,fU,Nl,ND];calc fits 70,_,_,9,?_];rw[List.replicate_succ',<- yt,nG (l₂:=[Rw.fin])];rfl;rintro ρ ⟨c10,_,rfl,rfl⟩;let agx:(rs++[Rw.df fn p9]++body++List.replicate ck.length Rw.fin).length=rs.length+1+body.length+ck.length:=by rw[fU,Nl,ND]
 let v0:0<=ms.sum % 10 ^ (06:Int).toNat:=by rw[adj];exact Bq _ 15
 let v1:ms.sum % 10 ^ (06:Int).toNat<2147483648:=by rw[adj];have:=IC ms.sum (show (0:Int)<1000000 by decide);omega
 show#[ms,ints_map ms,#[by decide,by decide,by decide],15,9,_,ys,9,G.y6,v0,v1,λo ho=>#[bW 6,by rw[bS,agx];calc fits 70,(by change (0:Int)<2;decide),?_]];let fin:∀sk:F2,(sk=[]\/sk=[Rw.skip])->Pre ys pl (k+1) (rs++(Rw.df fn p9::(body++(List.replicate ck.length Rw.fin++(Rw.give o::sk)))))/\(rs++(Rw.df fn p9::(body++(List.replicate ck.length Rw.fin++(Rw.give o::sk))))).length+03 * (pl.length-(k+1))<=60:=λsk hsk=>by
  show#[.succ mh hpk hB ho hsk,?_];have:sk.length<=1:=by obtain rfl|rfl:=hsk<;>simp
  erw[fU,vJ,ND];omega
 let e0:(rs++[Rw.df fn p9]++body++List.replicate ck.length Rw.fin).map aZ++[aZ (Rw.give o)]=(rs++(Rw.df fn p9::(body++(List.replicate ck.length Rw.fin++(Rw.give o::[]))))).map aZ:=by simp[yt]
 let e1:(rs++[Rw.df fn p9]++body++List.replicate ck.length Rw.fin).map aZ++[aZ (Rw.give o)]++[aZ Rw.skip]=(rs++(Rw.df fn p9::(body++(List.replicate ck.length Rw.fin++(Rw.give o::[Rw.skip]))))).map aZ:=by simp[yt]
 show cJ (λ_=>?_) (λ_=>gX 9 #[_,_,_,_,_,_,_,_,_,9,e0,fin [] 7]);show#[(by change (0:Int)<2;decide),cJ (λ_=>?_) (λ_=>#[_,_,_,_,_,_,_,_,_,9,e0,fin [] 7])];show#[bW 6,?_,#[_,_,_,_,_,_,_,_,_,9,e1,fin [.skip] 95]];calc fits (by simp;omega);rintro ρ ⟨kv,a5,a6,a7,a8,a9,a10,_,rs,rfl,rfl,mh,hlen⟩;rw[eT,i9] at mh;calc hq rs mh 70
end
end fS
namespace i7
open PySem L2 VT Gen K5 Lay BS Iq MK
open PySem.Builtin (bitOr bitAnd)
open Nt (nT Mx x8 oJ d5 jg)
open Us (Ap oF)
open yR (cW)
open Nm (kD)
def top(i:Nat):Stmt:=PySem.Challenge.pw_slicewise_k44_slices_of_several_sets.main.body.getD i (.Pass #[0,0,0,0])
abbrev Dp:Stmt:=top 071
abbrev oP:Stmt:=top 72
abbrev nD:Stmt:=top 73
structure MgL(mg:qae):Prop where
 len:mg "len"=none
 range:mg "range"=none
def Fh(h:cW x=true):x.length<=08:=by unfold cW at h;rw[pK,pK] at h;have:=Θ h.2.1;omega
def R4(ys:χ):Rw->Prop
 |.df _ ps=>471<=04
 |.give a=>dX ys a
 |.put _ a=>dX ys a
 |.uc _ a _ b=>dX ys a/\dX ys b
 |.get _ r k=>r∈ys/\wD ys k
 |.set r k a=>r∈ys/\wD ys k/\dX ys a
 |.call _ _ as=>as.length<=04/\∀a∈as,dX ys a
 |.wC a=>dX ys a
 |.n5 a=>dX ys a
 |_=>True
def HC(hp:∀p∈pl,p.2.length<=04)(h:ij ys pl r):R4 ys r:=by
 cases r with
 |put x a=>calc h.2
 |uc x a op b=>calc#[h.2.1,h.2.2.2]
 |get x r k=>calc#[h.2.1,h.2.2]
 |set r k a=>calc h
 |call x f as=>let(h1,(ps,h2,h3),h4):=h;calc#[by rw[h3];calc hp _ h2,h4]
 |_=>first|trivial|calc 482
def RB(hp:∀p∈pl,p.2.length<=04){ck body}(h:Body ys pl ck body):∀r∈body,R4 ys r:=by
 induction h with
 |nil=>intro r hr;cases hr
 |step _ h2 ih=>
  intro r hr;rcases fO.mp hr with hr|hr
  calc ih r hr;obtain⟨o,ho,rfl,_⟩|⟨o,ho,rfl,_⟩|⟨y,hy,rfl,_⟩|⟨s0,_,rfl,_⟩|⟨s0,x,_,rfl,_⟩|⟨r',bV,rfl,_⟩:=h2<;>erw[dQ,gQ,aah] at hr
  subst hr;calc ho;subst hr;calc ho;obtain rfl|rfl:=hr
  calc hy;calc#[hy,by decide,by decide];subst hr;trivial;subst hr;trivial;subst hr;calc HC hp bV
def XA(hp:∀p∈pl,p.2.length<=04)(h:Pre ys pl n rs):∀r∈rs,R4 ys r:=by
 induction h with
 |zero=>intro r hr;cases hr
 |@succ k rs f ps ck body o sk _ hk hb ho hs ih=>
  intro r hr;rcases fO.mp hr with hr|hr
  calc ih r hr;rcases List.mem_cons.mp hr with rfl|hr
  calc hp _ (fM hk);rcases fO.mp hr with hr|hr
  calc RB (λp h=>hp p (acC h)) hb r hr;rcases fO.mp hr with hr|hr
  rw[(List.mem_replicate.mp hr).2];trivial;rcases dQ.mp hr with rfl|hr
  calc ho;obtain rfl|rfl:=hs
  cases hr;rw[fE.mp hr];trivial
def XB(h:Pre ys pl n rs)(h1:1<=n):∃f ps,rs[0]?\.df f ps:=by
 induction h with
 |zero=>omega
 |@succ k rs f ps ck body o sk hp hk hb ho hs ih=>
  by_cases z:1<=k;let(f',WW,e):=ih z;calc#[f',WW,by rw[pI (c7.mp e).1];calc e];have:k=0:=by omega
  subst this;cases hp;calc#[f,ps,9]
section
variable(hn:∀y∈ys,cW y=true)
include hn
def Dq(h:x∈ys):kD 535:=.inl #[x,9,by have:=Fh (hn x h);omega]
def i8{o:nJ}(h:dX ys o):kD (mD o):=by
 cases o with
 |nm x=>calc Dq hn h
 |nu i=>calc .inr #[i,9]
def Fi{k:Ky}(h:wD ys k):kD (B7 k):=by
 cases k with
 |fld x=>calc .inl #[_,9,by
  have:=Fh (hn x h);let e:(((".":String):Str)++x).length=1+x.length:=by change (((".":String):Str).cps++x.cps).size=_;rw[Array.size_append];rfl
  rw[e];omega]
 |op o=>calc i8 hn h
def aeI(h:R4 ys r):Ap r/\iX.Yw r:=by
 show#[#[λt ht=>?_,?_,?_],?_];cases r with
 |give a=>rw[fE.mp ht];calc i8 hn h
 |wC a=>rw[fE.mp ht];calc i8 hn h
 |n5 a=>rw[fE.mp ht];calc i8 hn h
 |put x a=>rw[fE.mp ht];calc i8 hn h
 |uc x a op b=>
  rcases dQ.mp ht with rfl|ht
  calc i8 hn h.1;rw[fE.mp ht];calc i8 hn h.2
 |get x y k=>
  rcases dQ.mp ht with rfl|ht
  calc Dq hn h.1;rw[fE.mp ht];calc Fi hn h.2
 |set y k a=>
  rcases dQ.mp ht with rfl|ht
  calc Dq hn h.1;rcases dQ.mp ht with rfl|ht
  calc Fi hn h.2.1;rw[fE.mp ht];calc i8 hn h.2.2
 |call x f as=>let(a,ha,rfl):=k5.mp ht;calc i8 hn (h.2 a ha)
 |_=>cases ht
 cases r with
 |call x f as=>change (as.map mD).length<=10;rw[bS];have:=h.1;omega
 |_=>simp[oF]
 rintro x a op y rfl;have:=hn y h.2;calc#[this,by have:=Fh this;omega];cases r with
 |get x y k=>calc Fi hn h.2
 |set y k a=>calc Fi hn h.2.1
 |_=>trivial
def XC(h:Pre ys pl 518 rs)(le:5<=60)(p4:∀p∈pl,p.2.length<=04):oJ rs:=by
 let pg:=Xh h le hn p4;let r4:=XA p4 h;show#[pg,λr hr=>(aeI hn (r4 r hr)).1,λr hr=>?_,λr hr=>#[?_,(aeI hn (r4 r hr)).2]];have:=r4 r hr;cases r with
 |df f ps=>change 471<=10;have:471<=04:=this;omega
 |_=>simp[Nt.cR]
 cases r with
 |call x g as=>calc pg.cl x g as hr
 |_=>trivial
end
def TM(ts:Λ)(q:qam):Prop:=∃(rs:F2)(f:Str)(ps:χ),ts=[.lst 86]/\5<=100/\rs[0]?\.df f ps/\∀ks:qao,ks≠[]->(∀k∈ks,k<5)->173<=5->q (.fr (.lst (nT ks)))
def Fj(ts:Λ)(q:qam):Prop:=∃(ks:qao)(c:Int)(n:Nat),ts=[.lst (nT ks),.int c]/\ks≠[]/\(∀k∈ks,k<n)/\n<=100/\173<=100/\∀x,below n x->q (.vw (.int x))
def IvR(rs:F2)(k:Nat):En->Prop:=λρ=>∃(l:qao)(lt:Λ)(wi:Bool)(b3 b4:Option (T×Bool)),ρ=[aP 453,some (.lst lt,true),aP (.bl wi),b3,b4]/\lt=nT l/\(∀j∈l,j<k)/\490<=k/\(0<k->l≠[])
def aeJ(rs:F2):FS:=λd ρ=>∃(k:Nat)(r:Rw)(l:qao)(wi:Bool),ρ=[aP 453,some (.lst (nT l),true),aP (.bl wi),aP (.int (k:Int)),aP (.str (wd r))]/\(∀j∈l,j<k)/\490<=k/\k<100/\(l≠[]\/(wi=true/\Mx r=false))/\∀ρ',IvR rs 93 ρ'->d.nx ρ'
def TN(rs:F2):FS:=λd ρ=>∃(k:Nat)(r:Rw)(l:qao)(wi:Bool),ρ=[aP 453,some (.lst (nT l),true),aP (.bl wi),aP (.int (k:Int)),aP (.str (wd r))]/\(∀j∈l,j<k+1)/\490<=k+1/\l≠[]/\∀ρ',IvR rs 93 ρ'->d.nx ρ'
section
abbrev XD:χ:=["_law_program_here","_law_some","_law_within","_law_k","_law_word"]
def Fm:az XD qbc (ar Dp):=457
def RC(D:Df K mg "_law_real" Dp qbc f fd)(M:MgL mg):bP P w K mg base "_law_real" qbc 1 (bQ K 1 TM):=by
 show D.fj (gf D.F Fm 9 λbM A outer s H E Ox hr ts q hG=>?_);let nd:=Fm.nd;let hu:=bH.dW hr;let np:∀{i:Nat},aY #[H,[],Ox] i:=gW;let(rs,f0,ps0,rfl,hn,h0,hq):=hG;show#[_,(af (cP (i:=1) nd 9 7 497 np)
  (af (aJ (i:=2) nd 9 7 (Ψ mm) np)
  (af (cQ nH 9 (cX 19 M.range 22) (aM (i:=03) nd 9 7 np)
   (af (aJ (i:=04) nd 9 7 (Ψ (ay (ν (ay 37 236)) 4)) np)
   (af (bb (bG hu (ae 04) 502)
    (aq (aJ (i:=2) nd 9 7 (Ψ mm) np))
    aE)
   (kx.weak (u:=(aeJ rs)) (af (bb (VW.vc (c9 (fP (VE.vp 514)) (c0 (JN (ae 04) (ν (bB (aa 104 475)))))))
    (aq (bA (dy 1 qu qv bo ba (aa (ah 03) ak))))
    aE)
   (kx.weak (u:=(TN rs)) (aq (bb (bG hu (ae 04) 502)
    (aq (aJ (i:=2) nd 9 7 (Ψ mm) np))
    aE)) ?w9)) ?w7))))
  (aq (aA (eF 1 np)))))),λ_=>?main]
 case w9=>
  rintro d ρ ⟨k,r,l,wi,rfl,h1,h2,h3,kk⟩;exact cJ (λ_=>kk _ #[l,_,_,_,_,9,9,h1,h2,λ_=>h3]) (λ_=>kk _ #[l,_,_,_,_,9,9,h1,h2,λ_=>h3])
 case w7=>
  rintro d ρ ⟨k,r,l,wi,rfl,h1,h2,h3,h4,kk⟩;let neg:l≠[]->TN rs d [aP (.lst (rs.map aZ)),some (.lst (nT l),true),aP (.bl wi),aP (.int (k:Int)),aP (.str (wd r))]:=λe=>#[k,r,l,wi,9,λj hj=>Be (h1 j hj),by omega,e,kk];cases wi with
  |false=>calc neg (h4.resolve_right λz=>nomatch z.1)
  |true=>
   show#[Gen.wz 9,9,9,?_];change if (!mB (.str (wd r)) [.str "else",.str "end",.str "skip"])=true then _ else _
   rw[x8];show jg (λz=>#[by rw[bS,π];omega,k,r,l++[k],true,?_,λj hj=>?_,by rw[fU];calc Nat.succ_le_succ h2,by simp,kk]) (λz=>neg (h4.resolve_right λy=>?_));change _=[_,some (T.lst ((l++[k]).map λk:Nat=>T.int (k:Int)),true),_,_,_];rw[nG];rfl;rcases fO.mp hj with hj|hj
   calc Be (h1 j hj);rw[fE.mp hj];calc qx k;rw[y.2] at z;cases z
 case main=>
 let eL:(rs.map aZ).length=rs.length:=bS _;show#[Gen.wz 9,(by change -(2 ^ 62:Int)<=((rs.map aZ).length:Int);omega),(by change ((rs.map aZ).length:Int)<(2 ^ 62:Int);omega),?_];show dz (IvR rs) #[[],_,false,none,none,9,9,λj hj=>(nomatch hj),cM _,λh=>absurd h (Fu _)] ?_ ?_;rintro k ρ hk ⟨l,_,wi,b3,b4,rfl,rfl,h1,h2,h3⟩;rw[eL,i9] at hk;rw[H_];obtain⟨r,bV⟩:∃r,rs[k]?\r:=#[_,eY hk];let(t1,et1):=j7 r;let aeK:=dc bV;rw[et1] at aeK;show#[_,aeK,_,aaU,?_];show cJ (λz=>#[k,r,l,true,9,h1,h2,by omega,?_,λ_ h=>h]) (λz=>#[k,r,l,wi,9,h1,h2,by omega,?_,λ_ h=>h]);let z:wd r="def":=z;let(f',WW,rfl):=V4 z;calc .inr #[9,9];show .inl (h3 (Nat.pos_of_ne_zero λe=>?_));subst e;rw[h0] at bV;cases bV;calc z 9;rintro ρ ⟨l,_,wi,b3,b4,rfl,rfl,h1,h2,h3⟩;rw[eL,i9] at h1 h2 h3;calc hq l (h3 (c7.mp h0).1) h1 h2
abbrev HF:χ:=["_law_real_here","_law_cell","_law_rows","_law_k"]
def tw:az HF qbd (ar oP):=457
def Dr(D:Df K mg "_law_rows_by" oP qbd f fd)(M:MgL mg):bP P w K mg base "_law_rows_by" qbd 1 (bQ K 2 Fj):=by
 show D.fj (gf D.F tw 9 λbM A outer s H E Ox hr ts q hG=>?_);let nd:=tw.nd;let hu:=bH.dW hr;let np:∀{i:Nat},aY #[H,[],Ox] i:=gW;show#[_,(af (aJ (i:=2) nd 9 7 (Ψ ag) np)
  (af (cQ nH 9 (cX 19 M.range 22) (aM (i:=03) nd 9 7 np)
   (aq (bb (bG hu (ν (bz (ν (bO 109 (ν (cH 236 4)))) 4)) 4)
    (aq (aJ (i:=2) nd 9 7 (Ψ (qS 124 (ν (qR 4 (ν (ay 37 236)))))) np))
    aE)))
  (aq (aA (Ψ (qS 124 (ν (qR 4 (ν (ay 37 (ν (bz 109 22)))))))))))),λ_=>?_]
 let(ks,c,n,rfl,fY,hk,hn,hl,hq):=hG;let eL:(nT ks).length=ks.length:=bS _;let aeL:∀{j:Nat}(hj:j<ks.length),h7 (nT ks) (j:Int)\.int ((ks[j]:Nat):Int):=λ{j} hj=>ai (by change (ks.map _)[j]?=_;rw[fW,eY hj];rfl);let sh:∀{j:Nat}(hj:j<ks.length),below n (1 * 2 ^ (((ks[j]:Nat):Int)).toNat)/\ks[j]<n:=λ{j} hj=>#[by rw[i9];calc iV (hk _ (Ft hj)),hk _ (Ft hj)];show#[(by change -(2 ^ 62:Int)<=((nT ks).length:Int);omega),(by change ((nT ks).length:Int)<(2 ^ 62:Int);omega),?_];show dz (λk ρ=>∃v b3,ρ=[aP (.lst (nT ks)),aP (.int c),aP (.int v),b3]/\below n v) #[_,none,9,cK n] ?_ ?_;rintro k ρ wg ⟨v,b3,rfl,hv⟩;rw[eL,i9] at wg;rw[H_];let(s1,s2):=sh wg;show#[#[by change (0:Int)<(k:Int)+1;omega,by change (k:Int)+1<1073741824;omega],(by change (0:Int)<05;decide),cJ (λ_=>?_) (λ_=>#[v,_,9,hv])];calc#[_,aeL wg,#[by omega,by omega,by decide],_,_,9,d4 hv s1];rintro ρ ⟨v,b3,rfl,hv⟩;let hp:0<ks.length:=X5.mpr fY;let a0:0<=c % (ks.length:Int):=Bq _ 70;let a1:c % (ks.length:Int)<ks.length:=IC _ 70;let(j,hj):=qw a0;let di:j<ks.length:=by omega
 let(s1,s2):=sh di;show#[by change (0:Int)<((nT ks).length:Int);omega,.int ((ks[j]:Nat):Int),?_,#[by omega,by omega,by decide],hq _ (d4 hv s1)];change h7 (nT ks) (c % ((nT ks).length:Int))=_;rw[eL,hj];calc aeL di
end
end i7
namespace i7
open PySem L2 VT Gen K5 Lay BS Iq MK
open PySem.Builtin (bitOr bitAnd)
open Nt (nT Mx x8 oJ d5 jg Net C9)
open yR (cW)
def RD(ts:Λ)(q:qam):Prop:=∃ns:qan,ts=[.lst (ns.map .int)]/\ns.length<=63/\q (.vw (.bl true))
section
variable(hn:∀y∈net,below net.length y)
include hn
def ye{x:Int}(hx:below 38 x)(h:closed net x):lst net x=x:=(c8 hn hx).unique #[dA _,h,λ_ h _=>h]
def XE{x:Int}(hx:below 38 x)(hy:below 38 y):lst net (bitOr x y)=bitOr (lst net x) (lst net y):=by
 let lx:=c8 hn hx;let ly:=c8 hn hy;show (c8 hn (d4 hx hy)).unique #[xy (cw lx.has (cZ _ _)) (cw ly.has (dO _ _)),λk y e hk=>?_,λc h1 h2=>xy (lx.out c (cw (cZ _ _) h1) h2) (ly.out c (cw (dO _ _) h1) h2)];rw[dZ,N1] at hk;obtain z|z:=hk
 calc cw (lx.LL k y e z) (cZ _ _);calc cw (ly.LL k y e z) (dO _ _)
def RE{x:Int}(hx:below 38 x)(hy:below 38 y):lst net (bitAnd (lst net x) (lst net y))=bitAnd (lst net x) (lst net y):=by show ye hn (oy (oA hn hx)) λk y e hk b hb=>?_;rw[lL,pK] at hk ⊢;calc#[(c8 hn hx).LL k y e hk.1 b hb,(c8 hn hy).LL k y e hk.2 b hb]
end
section
abbrev aeM:χ:=["_law_script","_law_words_here","_law_program_here","_law_real_here","_law_strict","_law_ones","_law_others","_law_first","_law_second","_law_both","_law_amid"]
def Nn:az aeM qbe (ar nD):=457
def XF(D:Df K mg "law" nD qbe f fd)(M:MgL mg)(iy:bP P w K mg base "_law_cell_at" qaU 1 (bQ K 2 fS.Tz))(RF:bP P w K mg base "_law_words" qaV 1 (bQ K 2 fS.M'))(XG:bP P w K mg base "_law_plan" qba 1 (bQ K 2 fS.TK))(HG:bP P w K mg base "_law_program" qbb 05 (bQ K 03 fS.AX))(XH:bP P w K mg base "_law_real" qbc 1 (bQ K 1 TM))(vG:bP P w K mg base "_law_rows_by" qbd 1 (bQ K 2 Fj))(d6:bP P w K mg base "slice_of" qaT 10 (bQ K 03 Nt.Dd))(sZ:bP P w K mg base "net_of" qaQ 09 (bQ K 2 Nt.C_))(HH:bP P w K mg base "between" qaS 05 (bQ K 03 Nt.AQ)):eD P w K mg base iA 11 f fd qbe (bQ K 1 RD):=by
 show gf D.F Nn 9 λbM A outer s H E Ox hr ts q hG=>?_;let nd:=Nn.nd;let hu:=bH.dW hr;let np:∀{i:Nat},aY #[H,[],Ox] i:=gW;show#[_,(af (aJ (i:=1) nd 9 7 (Ψ (aw RF hr (aa (ω 452) 509))) np)
  (af (aJ (i:=2) nd 9 7 (Ψ (aw HG hr (aa (ω (mx 37 (j3 4) (j3 4))) (aa 171 (aa (ω (aw XG hr (aa (ω 452) 57))) ak))))) np)
  (af (aJ (i:=03) nd 9 7 (Ψ (aw XH hr 530)) np)
  (af (aJ (i:=04) nd 9 7 (Ψ (DX hu (ν (bz (ν (bO (ν 452) 4)) 4)) 4)) np)
  (af (aJ (i:=05) nd 9 7 (Ψ (aw vG hr (aa (ah 03) (aa (ω (bz (ν 452) 447)) ak)))) np)
  (af (aJ (i:=06) nd 9 7 (Ψ (aw vG hr (aa (ah 03) (aa (ω (bz (ν 452) 447)) ak)))) np)
  (af (aJ (i:=07) nd 9 7 (Ψ (aw d6 hr (aa 514 (aa (ah 05) 472)))) np)
  (af (aJ (i:=08) nd 9 7 (Ψ (aw d6 hr (aa 514 (aa (ah 06) 472)))) np)
  (af (bb (h_ hu (ν (aw d6 hr (aa 514 (aa (ω (qS (ae 05) (ae 06))) 472)))) (ν (qS (ae 07) (ae 08))))
   (aq (aA (Ψ mm)))
   aE)
  (af (bb (VW.vc (qP (h_ hu (ν (aw d6 hr (aa 514 (aa (ah 07) 472)))) (ae 07)) (nV (h_ hu (ν (aw d6 hr (aa 514 (aa (ah 08) 472)))) (ae 08)))))
   (aq (aA (Ψ mm)))
   aE)
  (af (aJ (i:=09) nd 9 7 (Ψ (j2 (ae 07) (ae 08))) np)
  (af (bb (VW.vc (qP (h_ hu (ν (aw d6 hr (aa 514 (aa (ah 09) 472)))) (ae 09)) (nV (h_ hu (ν (aw d6 hr (aa 514 (aa (ω ag) 472)))) 4))))
   (aq (aA (Ψ mm)))
   aE)
  (af (aJ (i:=10) nd 9 7 (Ψ (aw HH hr (aa (ω (aw sZ hr (aa 514 472))) (aa (ah 05) (aa (ah 06) ak))))) np)
  (aq (aA (Ψ (DX hu (ν (j2 (ae 10) (ae 08))) (ae 10)))))))))))))))))),λ_=>?_]
 let(ns,rfl,h63,hq):=hG;let Hz:(fm (ns.getD 0 0) 06).length=06:=B6 _ _;let hnm:∀y∈fm (ns.getD 0 0) 06,yR.cW y=true:=Ca;show#[9,ns,0,9,9,_,06,9,by decide,by decide,?_];generalize fm (ns.getD 0 0) 06=ys at Hz hnm ⊢;let(ms,ems,hms):=fS.Ff T.int ns (some 04) (some 34);show#[9,ns,1,9,9,_,ys,9,Hz,λpl j1 h1 h3=>?_];let p4:∀p∈pl,p.2.length<=04:=λp hp=>by have:=(Ke Hz j1 p.1 p.2 hp).2;omega
 show#[9,ms,ys,pl,by rw[<- ems];rfl,by omega,#[Hz,λy hy=>by have:=Fh (hnm y hy);omega,h3,p4],h1,λrs mh hlen=>?_];let N:=XC hnm mh hlen p4;let(f0,ps0,h0):=XB mh h1;show#[9,rs,f0,ps0,9,by omega,h0,λks k1 k2 k3=>?_];show#[9,ns,1,9,#[by decide,by decide],(by change (0:Int)<2;decide),?_];obtain⟨b,hb⟩:∃b,b=decide (ns.getD 1 0 / 03 % 2=1):=#[_,9];let No:=C9 N b;let el:(d5 rs b).length=rs.length:=by unfold d5;rw[bS,pJ]
 let hn:=No.2;let sl:∀{x:Int}{q':qam},below rs.length x->q' (.vw (.int (lst (d5 rs b) x)))->Nt.Dd [.lst (rs.map aZ),.int x,.bl (decide (ns.getD 1 0 / 03 % 2=1))] q':=λ{x q'} hx h=>by rw[<- hb];exact#[rs,x,b,9,N,hx,h]
 let h10:(0:Int)<10 ^ (09:Int).toNat:=by decide
 show#[9,ns,2,9,#[by decide,by decide,by decide],h10,9,ks,_,5,9,k1,k2,by omega,by omega,λx hx=>?_];show#[9,ns,03,9,#[by decide,by decide,by decide],h10,9,ks,_,5,9,k1,k2,by omega,by omega,λy hy=>?_];let Ii:below (d5 rs b).length x:=by rw[el];exact hx
 let UW:below (d5 rs b).length y:=by rw[el];exact hy
 let bx:=oA hn Ii;let by':=oA hn UW
 rw[el] at bx by'
 let cx:=ye hn (by rw[el];calc bx) (c8 hn Ii).LL;let cy:=ye hn (by rw[el];calc by') (c8 hn UW).LL;show#[9,sl hx #[9,sl hy #[9,sl (d4 hx hy) ?_]]];show gX (c:=!decide (lst 519 (bitOr x y)=bitOr (lst 519 x) (lst 519 y))) (by rw[ο (XE hn Ii UW)];rfl) ?_;show#[9,sl bx ?_];show gX (c:=!decide (lst 519 (lst 519 x)=lst 519 x)) (by rw[ο cx];rfl) ?_;show#[9,sl by' ?_];show gX (c:=!decide (lst 519 (lst 519 y)=lst 519 y)) (by rw[ο cy];rfl) ?_;show#[9,sl (oy bx) ?_];show gX (c:=!decide (lst 519 (bitAnd (lst 519 x) (lst 519 y))=bitAnd (lst 519 x) (lst 519 y))) (by rw[ο (RE hn Ii UW)];rfl) ?_;show#[9,sl (cK _) ?_];show gX (c:=!decide (lst 519 0=0)) (by rw[ο (LP hn)];rfl) ?_;show#[9,rs,b,by rw[hb];rfl,N,9,_,x,y,9,No,Ii,UW,λout Tu=>?_];change q (.vw (.bl (decide (bitAnd (bitAnd (lst out x) (lst 519 y)) (lst 519 y)=bitAnd (lst out x) (lst 519 y)))));rw[ο (g9 λk=>by rw[lL,lL,Bool.and_assoc,Bool.and_self])];calc hq
end
end i7
namespace fA
open PySem L2 VT
def aeN(X:K.In h)(G:h.Ns mainGlobals mg){st:Stmt}{oc:Value}{od an:qar}{BJ:Array 474}{kV doc pm bM ct:Value}(a:W.nsIn K mainGlobals x\some 536)(l:K.lookup f=some #[oc,od,.func 97,BJ])(c:W.codeIn K bM x=true)(k:W.keepIn K 536=true)(hb:∀(kV doc pm:Value) (an:qar) (bM ct:Value) (us:qag),517=471->bindArgs 97 #[us,[]]=pure (ps.zip us)) :
  ∃f fd,Df K mg x st ps f fd:=by
 let F:=qK (st:=st) l c k;calc#[f,_,F,Br X G a,F.binds hb]
theorem Np{C:qag->Prop}(h:C []):∀us:qag,517=0->C us
 |[],_=>h
theorem tD{C:qag->Prop}(h:∀a,∀us:qag,517=n->C (a::us)):∀us:qag,517=n+1->C us
 |a::us,e=>h a us (Nat.succ.inj e)
def aeO{C:qag->Prop}(h:∀a,C [a]):∀us:qag,517=1->C us:=tD λa=>Np (h a)
def bn1{C:qag->Prop}(h:∀a,C [a]):∀us:qag,517=1->C us:=aeO h
def bn2{C:qag->Prop}(h:∀a b,C [a,b]):∀us:qag,517=2->C us:=tD λa=>bn1 (h a)
def bn3{C:qag->Prop}(h:∀a b c,C [a,b,c]):∀us:qag,517=03->C us:=tD λa=>bn2 (h a)
abbrev pE:Program:=PySem.Challenge.pw_slicewise_k44_slices_of_several_sets
def qE:Program:=W.view pE [1,2,03,05,06,07,08,09,10,11,12,13,014,015,16,017,019,20,21,022,024,025,26,27,28,30,031,32,34,35,36,037,038,039,40,41,043,044,046,47,48,49,50,51,52,53,54,56,057,58,059,62,63,64,65,066,67,68,069,070,071,72,73]
def tF:χ:=["USED_PLACES","net_of","slice_of"]
def TQ:zm:=[0,1,2,03,04,05,06,07,08,09,10,11,12,13,014,015,16,017,018,019,20,21,022,023,024,025,26,27,28,029,30,031,32,033,34,35,36,037,038,039,40,41,042,043,044,045,046,47,48,49,50,51,52,53,54,55,56,057,58,059,60,061,62,63,64,65,066,67,68,069,070,071,72,73,074,075,076,077,078,079,080,081,082,083,084,085,086,087,88,89,090,091,092,093,094,095,096,097,098,099,100,101,102,103,111,112,113,114,115,116,117,118,119,120,121,122,125,126,127,128,129,130,131,132,133,134,135,136,137,138,139,140,141,142,143,144,145,146,147,148,149,150,151,152,153,154,155,156,157,158,159,160,161,162,163,164,165,166,167,168,169,177,178,179,180,181,182,183,184,185,186,187,188,191,192,193,194,195,196,197,198,199,200,201,202,203,204,205,206,207,208,209,210,211,212,213,214,215,216,217,218,219,220,221,222,223,224,225,226,227,228,229,230,231,232,233,234,235,243,244,245,246,247,248,249,250,251,252,253,254,257,258,259,260,261,262,263,264,265,266,267,268,269,270,271,272,273,274,275,276,277,278,279,280,281,282,283,284,285,286,287,288,289,290,291,292,293,294,295,296,297,298,299,300,301,302,303,304,305,306,307,308,309,310,311,312,313,314,315,316,317,318,319,320,321,322,323,324,325,326,327,328,329,330,331,332,333,334,335,336,337,338,339,340,341,342,343,344,345,346,347,348,349,350,351,352,353,354,355,356,357,358,359,360,361,362,363,364,365,366,367,368,369,370,371,372,373,374,375,376,377,378,379,380,381,382,383,384,385,386,387,388,389,390,391,392,393,394,395,396,397,398,399,400,401,402,403,404,405,406,407,408,409,410,411,412,413,414,415,416,417,418,419,420,421,422,423,424,425,426,427,428,429,430,431,432,433,434,435,436,437,438,439,440,441,442,443,444,445,446]
abbrev OV:=Option 474
abbrev OO:=Option Obj
abbrev N(K:qaf)(x:Str):=W.nsIn K mainGlobals x
abbrev Lk(K:qaf)(a:Addr):=List.lookup a K
abbrev R(a:Addr):OV:=some (some 110)
abbrev fo(x q:Str)(st:Stmt)(pm:Value)(c:Addr):OO:=some #[.type "function",none,.func (W.fnOf x q (cn st) (bJ st) 455 .none .none .none pm none (.ref c) .none),83]
abbrev cI(K:qaf)(c:Value)(q:Str):=W.codeIn K c q
abbrev kI(K:qaf)(f:Addr):=W.keepIn K 536
abbrev fI(K:qaf)(c:Addr)(x:Str):=W.findIn K (.ref c) x
abbrev Q4:=OV×OO×Bool×Bool
def q4(K:qaf)(x:Str)(f c:Addr):Q4:=(N K x,Lk K f,cI K (.ref c) x,kI K f)
def v4(x:Str)(st:Stmt)(f:Addr)(pm:Value)(c:Addr):Q4:=(R f,fo x x st pm c,true,true)
def BN:χ->(qag->Prop)->Prop
 |[],C=>C []
 |_::ps,C=>∀v,BN ps λus=>C (v::us)
theorem bnA:∀{ps:χ}{C:qag->Prop},BN ps C->∀us:qag,517=471->C us
 |[],_,h,[],_=>h
 |_::_,_,h,v::us,e=>bnA (h v) us (Nat.succ.inj e)
def dM{D:Prop}(X:K.In h)(G:h.Ns mainGlobals mg){st:Stmt}{c:Addr}{pm:Value}(e:q4 K x f c=v4 x st f pm c)(k:∀{f:Addr} {fd:FuncData},Df K mg x st ps f fd->D)(hb:∀(kV doc pm:Value) (an:qar) (bM ct:Value),BN ps λus=>bindArgs 97 #[us,[]]=pure (ps.zip us):=by erw[BN];intros;rfl):D:=by unfold q4 v4 at e;erw[Prod.mk.injEq] at e;let(_,_,d):=aeN X G e.1 e.2.1 e.2.2.1 e.2.2.2 λa b c d e f=>bnA (hb a b c d e f);calc k d
def Tk(P:Program)(w:World)(base:Heap):Prop:=True
def dN(z:Tk P w base)(X:K.In h)(G:h.Ns mainGlobals mg){st:Stmt}{c:Addr}{pm:Value}(e:q4 K x f c=v4 x st f pm c)(k:∀{f:Addr} {fd:FuncData},Df K mg x st ps f fd->bP P w K mg base x ps n sp)(hb:∀(kV doc pm:Value) (an:qar) (bM ct:Value),BN ps λus=>bindArgs 97 #[us,[]]=pure (ps.zip us):=by erw[BN];intros;rfl):bP P w K mg base x ps n sp:=dM X G e k hb
abbrev tU(l:Array Value):OO:=some #[.type "tuple",none,.seq l 0,83]
abbrev kE(w:World)(x:Str)(t:Tok)(r:Addr):DictEntry:=#[PyData.keyHash w.params x,.str x t,.ref r]
abbrev Iw:Value:=.str "law_slicewise_k44_slices_of_several_sets" 726
abbrev mD1:Value:=.str "slicewise.bits" 187
abbrev mD2:Value:=.str "slicewise.comes" 405
abbrev mD3:Value:=.str "slicewise.layouts" 336
abbrev TR:Value:=.str "slicewise.makers" 435
abbrev Iy:Value:=.str "slicewise.net" 542
abbrev XI:Value:=.str "slicewise.rows" 212
abbrev mD8:Value:=.str "slicewise.slices" 676
abbrev tX0:=(Q4×Q4)×(Q4×(Q4×Q4))
abbrev TU:=OV×OV
abbrev XJ:=Bool×Bool
abbrev tX3:=TU×(OV×TU)
abbrev tX4:=(((Q4×Q4)×(Q4×Q4))×tX0)×(tX0×tX0)
abbrev tX5:=(OV×Bool)×(Bool×TU)
abbrev tX6:=OO×Bool
abbrev XX:Type:=((((((TU×(OV×OO))×((OV×OO)×(OV×(OO×OV))))×(((OO×OV)×(OO×OV))×((OO×OO)×(OO×(OO×OO)))))×((((OO×OO)×(OO×OV))×tX3)×(tX3×tX3)))×(((((OV×Bool)×tX6)×(XJ×(Bool×(Bool×OV))))×((XJ×TU)×tX3))×(((TU×(Bool×OO))×(XJ×(Bool×XJ)))×(tX5×(TU×(Bool×tX6))))))×(((((XJ×XJ)×tX5)×((TU×tX6)×((Bool×OO)×(OV×tX6))))×((((Bool×OO)×(OV×OO))×(XJ×(Q4×(Q4×Q4))))×(tX0×tX0)))×(tX4×tX4)))
def FF(K:qaf):XX:=(((((((N K "LETTERS",N K "LONGEST_NAME"),(N K "DIVISIONS",Lk K 34)),((N K "NAME_MAKERS",Lk K 35),(N K "SILENT",(Lk K 36,N K "CLOSERS")))),(((Lk K 89,N K "OPENERS"),(Lk K 88,N K "USED_PLACES")),((Lk K 49,Lk K 56),(Lk K 55,(Lk K 54,Lk K 53))))),((((Lk K 52,Lk K 51),(Lk K 50,N K "isinstance")),((N K "int",N K "str"),(N K "bool",(N K "len",N K "all")))),(((N K "tuple",N K "zip"),(N K "range",(N K "list",N K "enumerate"))),((N K "min",N K "sum"),(N K "sorted",(N K "set",N K "Layout")))))),(((((fI K 120 "__init__",W.isFn K (.ref 117)),(Lk K 117,cI K (.ref 116) "Layout.__init__")),((kI K 117,W.plainGet K 120 Str.empty),(W.hasDictIn K 120,(W.plainOver K 120,fI K 120 "__setattr__")))),(((W.makesIn K 120,kI K 120),(fI K 120 "program",fI K 120 "heads")),((fI K 120 "ends",fI K 120 "elses"),(fI K 120 "homes",(fI K 120 "defs",fI K 120 "main"))))),((((N K "Sets",fI K 186 "__init__"),(W.isFn K (.ref 183),Lk K 183)),((cI K (.ref 182) "Sets.__init__",kI K 183),(W.plainGet K 186 Str.empty,(W.hasDictIn K 186,W.plainOver K 186)))),(((fI K 186 "__setattr__",W.makesIn K 186),(kI K 186,(fI K 186 "names",fI K 186 "cells"))),((N K "Facts",fI K 252 "__init__"),(W.isFn K (.ref 249),(Lk K 249,cI K (.ref 248) "Facts.__init__"))))))),((((((kI K 249,W.plainGet K 252 Str.empty),(W.hasDictIn K 252,W.plainOver K 252)),((fI K 252 "__setattr__",W.makesIn K 252),(kI K 252,(fI K 252 "layout",fI K 252 "table")))),(((fI K 252 "arrivals",N K "net_of"),(Lk K 269,cI K (.ref 268) "net_of")),((kI K 269,Lk K 264),(N K "slice_of",(Lk K 364,cI K (.ref 363) "slice_of"))))),((((kI K 364,Lk K 357),(N K "law",Lk K 446)),((cI K (.ref 445) "law",kI K 446),(q4 K "set_of" 21 20,(q4 K "has" 28 27,q4 K "members" 033 32)))),(((q4 K "is_name" 41 40,q4 K "is_field" 48 47),(q4 K "class_of" 63 62,(q4 K "operands" 68 67,q4 K "uses" 73 72))),((q4 K "makes" 080 079,q4 K "risky" 087 086),(q4 K "shape" 103 102,(q4 K "first_defs" 096 095,q4 K "calls_of" 129 128)))))),(((((q4 K "yes_row" 136 135,q4 K "no_row" 143 142),(q4 K "row_behind" 150 149,q4 K "next_rows" 157 156)),((q4 K "all_nexts" 162 161,q4 K "spread" 169 168),(q4 K "list_of" 209 208,(q4 K "read_cells" 228 227,q4 K "call_wants" 235 234)))),(((q4 K "wants" 221 220,q4 K "grown" 216 215),(q4 K "makers" 197 196,(q4 K "holds" 204 203,q4 K "records_of" 302 301))),((q4 K "may_meet" 295 294,q4 K "cell_ties" 288 287),(q4 K "frame_ties" 307 306,(q4 K "whiles_round" 328 327,q4 K "may_come_ahead" 321 320))))),((((q4 K "stop_ties" 314 313,q4 K "arrivals_of" 263 262),(q4 K "name_ties" 281 280,q4 K "ties_of" 276 275)),((q4 K "back" 335 334,q4 K "turned" 349 348),(q4 K "forth" 342 341,(q4 K "between" 356 355,q4 K "_law_cell_at" 371 370)))),(((q4 K "_law_words" 378 377,q4 K "_law_operand" 385 384),(q4 K "_law_key" 392 391,(q4 K "_law_call" 399 398,q4 K "_law_simple" 406 405))),((q4 K "_law_lay" 413 412,q4 K "_law_plan" 418 417),(q4 K "_law_program" 425 424,(q4 K "_law_real" 432 431,q4 K "_law_rows_by" 439 438))))))))
def VV(w:World):XX:=(((((((some (some (.str yR.cf 214)),some (some (.int 08 216))),(R 34,tU ([.str "over" 218,.str "rest" 219].toArray))),((R 35,tU ([.str "put" 221,.str "do" 222,.str "new" 223,.str "get" 224,.str "call" 225].toArray)),(R 36,(tU ([.str "else" 227,.str "end" 228,.str "skip" 229].toArray),R 89)))),(((tU ([.str "give" 309,.str "end" 310].toArray),R 88),(tU ([.str "def" 305,.str "if" 306,.str "while" 307].toArray),R 49)),((some #[.type "dict",none,.dict ([kE w "give" 244 50,kE w "put" 246 51,kE w "do" 248 52,kE w "get" 251 53,kE w "set" 254 54,kE w "if" 258 55,kE w "while" 260 56].toArray) 07,83],tU ([.int (1) 261].toArray)),(tU ([.int (1) 259].toArray),(tU ([.int (1) 255,.int (2) 256,.int (03) 257].toArray),tU ([.int (2) 252,.int (03) 253].toArray)))))),((((tU ([.int (2) 249,.int (04) 250].toArray),tU ([.int (2) 247].toArray)),(tU ([.int (1) 245].toArray),some none)),((some none,some none),(some none,(some none,some none)))),(((some none,some none),(some none,(some none,some none))),((some none,some none),(some none,(some none,R 120)))))),(((((some (some (.ref 117)),true),(fo "__init__" "Layout.__init__" Lay.jD mD3 116,true)),((true,true),(true,(true,some (some (.builtin "object.__setattr__")))))),(((true,true),(some none,some none)),((some none,some none),(some none,(some none,some none))))),((((R 186,some (some (.ref 183))),(true,fo "__init__" "Sets.__init__" iX.sg TR 182)),((true,true),(true,(true,true)))),(((some (some (.builtin "object.__setattr__")),true),(true,(some none,some none))),((R 252,some (some (.ref 249))),(true,(fo "__init__" "Facts.__init__" Nt.nB Iy 248,true))))))),((((((true,true),(true,true)),((some (some (.builtin "object.__setattr__")),true),(true,(some none,some none)))),(((some none,R 269),(some #[.type "function",none,.func (W.fnOf "net_of" "net_of" (cn Nt.cL) (bJ Nt.cL) (ar Nt.cL) (.ref 264) (.none) (.none) Iy none (.ref 268) (.none)),83],true)),((true,tU ([.bool false].toArray)),(R 364,(some #[.type "function",none,.func (W.fnOf "slice_of" "slice_of" (cn Nt.bR) (bJ Nt.bR) (ar Nt.bR) (.ref 357) (.none) (.none) mD8 none (.ref 363) (.none)),83],true))))),((((true,tU ([.bool false].toArray)),(R 446,fo "law" "law" i7.nD Iw 445)),((true,true),(v4 "set_of" Nt.sx 21 mD1 20,(v4 "has" iX.LW 28 mD1 27,v4 "members" iX.oC 033 mD1 32)))),(((v4 "is_name" Nm.ke 41 XI 40,v4 "is_field" Nm.lJ 48 XI 47),(v4 "class_of" iX.lQ 63 XI 62,(v4 "operands" Us.lV 68 XI 67,v4 "uses" Us.CW 73 XI 72))),((v4 "makes" Nt.qp 080 XI 079,v4 "risky" Us.qq 087 XI 086),(v4 "shape" K5V.mP 103 (.str "slicewise.programs" 303) 102,(v4 "first_defs" Lay.iQ 096 (.str "slicewise.programs" 303) 095,v4 "calls_of" Nt.lY 129 mD3 128)))))),(((((v4 "yes_row" Nx.oq 136 mD3 135,v4 "no_row" Nx.rP 143 mD3 142),(v4 "row_behind" Nx.iS 150 mD3 149,v4 "next_rows" Nx.jK 157 mD2 156)),((v4 "all_nexts" Nt.jP 162 mD2 161,v4 "spread" Nt.sy 169 mD2 168),(v4 "list_of" iX.oE 209 TR 208,(v4 "read_cells" iX.iY 228 TR 227,v4 "call_wants" iX.iZ 235 TR 234)))),(((v4 "wants" iX.xH 221 TR 220,v4 "grown" iX.xG 216 TR 215),(v4 "makers" iX.sf 197 TR 196,(v4 "holds" Nt.xS 204 TR 203,v4 "records_of" Nt.i0 302 Iy 301))),((v4 "may_meet" Nt.lZ 295 Iy 294,v4 "cell_ties" Nt.jS 288 Iy 287),(v4 "frame_ties" Nt.i4 307 Iy 306,(v4 "whiles_round" Nt.gz 328 Iy 327,v4 "may_come_ahead" Nt.fz 321 Iy 320))))),((((v4 "stop_ties" Nt.jT 314 Iy 313,v4 "arrivals_of" Nt.hJ 263 Iy 262),(v4 "name_ties" Nt.jW 281 Iy 280,v4 "ties_of" Nt.kh 276 Iy 275)),((v4 "back" Nt.C7 335 mD8 334,v4 "turned" Nt.sW 349 mD8 348),(v4 "forth" Nt.yb 342 mD8 341,(v4 "between" Nt.oK 356 mD8 355,v4 "_law_cell_at" fS.oM 371 Iw 370)))),(((v4 "_law_words" fS.yd 378 Iw 377,v4 "_law_operand" fS.oN 385 Iw 384),(v4 "_law_key" fS.M9 392 Iw 391,(v4 "_law_call" fS.s_call 399 Iw 398,v4 "_law_simple" fS.s_ 406 Iw 405))),((v4 "_law_lay" fS.M_ 413 Iw 412,v4 "_law_plan" fS.Di 418 Iw 417),(v4 "_law_program" fS.oO 425 Iw 424,(v4 "_law_real" i7.Dp 432 Iw 431,v4 "_law_rows_by" i7.oP 439 Iw 438))))))))
def Ds(w:World)(os:OsState):HE.lookA pE qE tF [] [] (HE.eW (w.withFollow "special-get-raises" false).params) (W.boot_heap (w.withFollow "special-get-raises" false).params) (w.withFollow "special-get-raises" false) 2681 os\(true,(W.openGood qE tF).1,(W.openGood qE tF).2.1):=by
 rw[PySem.W.Fast.te2848547177322276819]
 kernel_rfl
def HI(w:World)(os:OsState):HE.lookA pE qE tF [] [] (HE.eW (w.withFollow "special-get-raises" true).params) (W.boot_heap (w.withFollow "special-get-raises" true).params) (w.withFollow "special-get-raises" true) 2681 os\(true,(W.openGood qE tF).1,(W.openGood qE tF).2.1):=by
 rw[PySem.W.Fast.te2848547177322276819]
 kernel_rfl
def agy(w:World)(os:OsState):HE.lookA pE qE tF [] [] (HE.eW (w).params) (W.boot_heap (w).params) (w) 2681 os\(true,(W.openGood qE tF).1,(W.openGood qE tF).2.1) :=
 W.byRow2 "special-get-raises" (P:=λw=>∀os,HE.lookA pE qE tF [] [] (HE.eW (w).params) (W.boot_heap (w).params) (w) 2681 os\(true,(W.openGood qE tF).1,(W.openGood qE tF).2.1)) Ds HI w os
def Dt(w:World)(os:OsState):HE.lookB pE qE tF [] [] (HE.eW (w.withFollow "special-get-raises" false).params) (w.withFollow "special-get-raises" false) 2681 os=some (W.openGood qE tF).2.2:=by
 rw[PySem.W.Fast.te312265020846911052]
 kernel_rfl
def HJ(w:World)(os:OsState):HE.lookB pE qE tF [] [] (HE.eW (w.withFollow "special-get-raises" true).params) (w.withFollow "special-get-raises" true) 2681 os=some (W.openGood qE tF).2.2:=by
 rw[PySem.W.Fast.te312265020846911052]
 kernel_rfl
def agz(w:World)(os:OsState):HE.lookB pE qE tF [] [] (HE.eW (w).params) (w) 2681 os=some (W.openGood qE tF).2.2 :=
 W.byRow2 "special-get-raises" (P:=λw=>∀os,HE.lookB pE qE tF [] [] (HE.eW (w).params) (w) 2681 os=some (W.openGood qE tF).2.2) Dt HJ w os
def Du(w:World)(os:OsState):HE.lookC pE TQ FF (HE.eW (w.withFollow "special-get-raises" false).params) (w.withFollow "special-get-raises" false) 2681 os\VV (w.withFollow "special-get-raises" false):=by
 rw[PySem.W.Fast.te3135357915001837337]
 kernel_rfl
def HK(w:World)(os:OsState):HE.lookC pE TQ FF (HE.eW (w.withFollow "special-get-raises" true).params) (w.withFollow "special-get-raises" true) 2681 os\VV (w.withFollow "special-get-raises" true):=by
 rw[PySem.W.Fast.te3135357915001837337]
 kernel_rfl
def runC(w:World)(os:OsState):HE.lookC pE TQ FF (HE.eW (w).params) (w) 2681 os\VV (w) :=
 W.byRow2 "special-get-raises" (P:=λw=>∀os,HE.lookC pE TQ FF (HE.eW (w).params) (w) 2681 os\VV (w)) Du HK w os
theorem XM:PySem.Challenge.rw_slicewise_k44_slices_of_several_sets.wellSaid=true:=by kernel_rfl
abbrev KE(w:World):qaf:=HE.Kf TQ (HE.wy pE 6042 w)
abbrev dE:DefRec:=HE.ade i7.nD
theorem hd:PySem.W.LeftO pE qE tF (HE.Py qE [] []) (λs=>TQ.map s.heap.get?) (λw=>TQ.map (HE.wy pE 6042 w)) 6042/\∀w,FF (KE w)=VV w:=HE.head (p:=pE) (q:=qE) (loose:=tF) (lv:=[]) (R:=[]) (as:=TQ) (N:=6042) (M:=2681) (F:=FF) (v:=VV) 462 9 (λs=>by kernel_rfl) 9 agy agz runC
def XN{l:PySem.W.OpenLaw}{fa:Addr}(X:K.In h)(G:h.Ns mainGlobals mg)(hfa:mg "law"\.ref fa)(hF:FF K=VV w) :
  ∃fd:FuncData,(∀(s:Shared)(v:Value),BindsTo s fd #[[v],[]] [("_law_script",v)])/\∀base:Heap,K.In base->base.Ns mainGlobals mg->eD l.prog w K mg base iA 11 fa fd qbe (bQ K 1 i7.RD):=by
 let Q {β:Type} (f:XX->β):=aaa f hF;let k0:=Bp X G (Q (·.1.1.2.1.1.2.2) :);let XO:=Bp X G (Q (·.1.1.2.1.2.1.1) :);let XQ:=Bp X G (Q (·.1.1.2.1.2.1.2) :);let RG:=Bp X G (Q (·.1.1.2.1.2.2.1) :);let jX:=Bp X G (Q (·.1.1.2.1.2.2.2.1) :);let XR:=Bp X G (Q (·.1.1.2.1.2.2.2.2) :);let AY:=Bp X G (Q (·.1.1.2.2.1.1.1) :);let Nq:=Bp X G (Q (·.1.1.2.2.1.1.2) :);let gC:=Bp X G (Q (·.1.1.2.2.1.2.1) :);let yf:=Bp X G (Q (·.1.1.2.2.1.2.2.1) :);let dP:=Bp X G (Q (·.1.1.2.2.1.2.2.2) :);let XS:=Bp X G (Q (·.1.1.2.2.2.1.1) :);let XT:=Bp X G (Q (·.1.1.2.2.2.1.2) :);let kj:=Bp X G (Q (·.1.1.2.2.2.2.1) :);let Nr:=Bp X G (Q (·.1.1.2.2.2.2.2.1) :);let e:=hfa.symm.trans (Br X G (Q (·.2.1.2.1.1.2.1) :));cases e;let aj:Lay.ug K 120:=#[#[(Q (·.1.2.1.1.2.1.2) :),(Q (·.1.2.1.1.2.2.1) :),(Q (·.1.2.1.1.2.2.2.1) :),(Q (·.1.2.1.1.2.2.2.2) :)],(Q (·.1.2.1.2.1.2.1) :),(Q (·.1.2.1.2.1.2.2) :),(Q (·.1.2.1.2.2.1.1) :),(Q (·.1.2.1.2.2.1.2) :),(Q (·.1.2.1.2.2.2.1) :),(Q (·.1.2.1.2.2.2.2.1) :),(Q (·.1.2.1.2.2.2.2.2) :)];let vH:=qK (st:=Lay.jD) (Q (·.1.2.1.1.1.2.1) :) (Q (·.1.2.1.1.1.2.2) :) (Q (·.1.2.1.1.2.1.1) :);let HL:Dc K mg "Layout" "Layout.__init__" Lay.jD qaw 120 117 _:=#[vH,Br X G (Q (·.1.1.2.2.2.2.2.2) :),vH.binds (λ_ _ _ _ _ _=>(fA.bn2 λ_ _=>rfl)),#[(Q (·.1.2.1.2.1.1.1) :),(Q (·.1.2.1.1.1.1.1) :),(Q (·.1.2.1.1.1.1.2) :),(Q (·.1.2.1.2.1.1.2) :)]];let dC:iX.StC K 186:=#[#[(Q (·.1.2.2.1.2.2.1) :),(Q (·.1.2.2.1.2.2.2.1) :),(Q (·.1.2.2.1.2.2.2.2) :),(Q (·.1.2.2.2.1.1.1) :)],(Q (·.1.2.2.2.1.2.2.1) :),(Q (·.1.2.2.2.1.2.2.2) :)];let Fn:=qK (st:=iX.sg) (Q (·.1.2.2.1.1.2.2) :) (Q (·.1.2.2.1.2.1.1) :) (Q (·.1.2.2.1.2.1.2) :);let RH:Dc K mg "Sets" "Sets.__init__" iX.sg qaD 186 183 _:=#[Fn,Br X G (Q (·.1.2.2.1.1.1.1) :),Fn.binds (λ_ _ _ _ _ _=>(fA.bn3 λ_ _ _=>rfl)),#[(Q (·.1.2.2.2.1.1.2) :),(Q (·.1.2.2.1.1.1.2) :),(Q (·.1.2.2.1.1.2.1) :),(Q (·.1.2.2.2.1.2.1) :)]];let br:Nt.YA K 252:=#[#[(Q (·.2.1.1.1.1.1.2) :),(Q (·.2.1.1.1.1.2.1) :),(Q (·.2.1.1.1.1.2.2) :),(Q (·.2.1.1.1.2.1.1) :)],(Q (·.2.1.1.1.2.2.2.1) :),(Q (·.2.1.1.1.2.2.2.2) :),(Q (·.2.1.1.2.1.1.1) :)];let AZ:=qK (st:=Nt.nB) (Q (·.1.2.2.2.2.2.2.1) :) (Q (·.1.2.2.2.2.2.2.2) :) (Q (·.2.1.1.1.1.1.1) :);let Nu:Dc K mg "Facts" "Facts.__init__" Nt.nB qaw 252 249 _:=#[AZ,Br X G (Q (·.1.2.2.2.2.1.1) :),AZ.binds (λ_ _ _ _ _ _=>(fA.bn2 λ_ _=>rfl)),#[(Q (·.2.1.1.1.2.1.2) :),(Q (·.1.2.2.2.2.1.2) :),(Q (·.1.2.2.2.2.2.1) :),(Q (·.2.1.1.1.2.2.1) :)]];let M5:K5V.Mg5 K mg:=#[jX,gC,dP,k0,XO,RG,AY,yf,Nq,#[89,Br X G (Q (·.1.1.1.1.2.2.2.2) :),λH=>.inr #[_,_,_,(Q (·.1.1.1.2.1.1.1) :),9,9,Gen.wz 9,.cons #[_,9] 464]],#[88,Br X G (Q (·.1.1.1.2.1.1.2) :),λH=>.inr #[_,_,_,(Q (·.1.1.1.2.1.2.1) :),9,9,Gen.wz 9,.cons #[_,9] 485]]];let MF:Lay.MgF mg:=#[dP];let MLy:Lay.adF mg:=#[jX,XS];let N2:Nm.Mg2 mg:=#[#[_,Br X G (Q (·.1.1.1.1.1.1.1) :)],#[_,Br X G (Q (·.1.1.1.1.1.1.2) :)],k0,XQ,jX,XR];let MU:Us.MgU w K mg:=#[yf,kj,Nr,#[49,Br X G (Q (·.1.1.1.2.1.2.2) :),#[_,_,(Q (·.1.1.1.2.2.1.1) :),(by first|rfl|decide),.cons #[rfl,#[_,rfl],.ref 50,rfl,λ_ _=>cj (vs:=[V.int 1]) (.inr #[_,_,_,(Q (·.1.1.2.1.1.2.1) :),9,9,Gen.wz 9,.cons #[_,9] (.nil)]) 506] (.cons #[9,#[_,9],.ref 51,9,λ_ _=>cj (vs:=[V.int 2]) (.inr #[_,_,_,(Q (·.1.1.2.1.1.1.2) :),9,9,Gen.wz 9,.cons #[_,9] (.nil)]) 506] (.cons #[9,#[_,9],.ref 52,9,λ_ _=>cj (vs:=[V.int 2,V.int 04]) (.inr #[_,_,_,(Q (·.1.1.2.1.1.1.1) :),9,9,Gen.wz 9,.cons #[_,9] 464]) (aD.cons bw 506)] (.cons #[9,#[_,9],.ref 53,9,λ_ _=>cj (vs:=[V.int 2,V.int 03]) (.inr #[_,_,_,(Q (·.1.1.1.2.2.2.2.2) :),9,9,Gen.wz 9,.cons #[_,9] 464]) (aD.cons bw 506)] (.cons #[9,#[_,9],.ref 54,9,λ_ _=>cj (vs:=[V.int 1,V.int 2,V.int 03]) (.inr #[_,_,_,(Q (·.1.1.1.2.2.2.2.1) :),9,9,Gen.wz 9,.cons #[_,9] 485]) (aD.cons bw (aD.cons bw 506))] (.cons #[9,#[_,9],.ref 55,9,λ_ _=>cj (vs:=[V.int 1]) (.inr #[_,_,_,(Q (·.1.1.1.2.2.2.1) :),9,9,Gen.wz 9,.cons #[_,9] (.nil)]) 506] (.cons #[9,#[_,9],.ref 56,9,λ_ _=>cj (vs:=[V.int 1]) (.inr #[_,_,_,(Q (·.1.1.1.2.2.1.2) :),9,9,Gen.wz 9,.cons #[_,9] (.nil)]) 506] (.nil))))))),by change ([("give":Str),("put":Str),("do":Str),("get":Str),("set":Str),("if":Str),("while":Str)]).Nodup;decide +kernel]],#[34,Br X G (Q (·.1.1.1.1.1.2.1) :),λH=>.inr #[_,_,_,(Q (·.1.1.1.1.1.2.2) :),9,9,Gen.wz 9,.cons #[_,9] 464]]];let MX:Nx.SV mg:=#[kj,Nr];let MP:iX.MgP mg:=#[dP,kj,gC,Nq];let MN:Nt.SV K mg:=#[yf,jX,gC,dP,#[35,Br X G (Q (·.1.1.1.1.2.1.1) :),λH=>.inr #[_,_,_,(Q (·.1.1.1.1.2.1.2) :),9,9,Gen.wz 9,.cons #[_,9] (.cons #[_,9] (.cons #[_,9] 485))]]];let MB:Nt.MgB mg:=#[dP];let MC:Nt.MgC K mg:=#[kj,jX,gC,#[36,Br X G (Q (·.1.1.1.1.2.2.1) :),λH=>.inr #[_,_,_,(Q (·.1.1.1.1.2.2.2.1) :),9,9,Gen.wz 9,.cons #[_,9] 485]]];let MS:Nt.MgS mg:=#[jX,gC,dP];let MG:fS.Xq mg:=#[jX,gC,AY,XT];let ML:i7.MgL mg:=#[jX,gC];let F:=qK (st:=i7.nD) (Q (·.2.1.2.1.1.2.2) :) (Q (·.2.1.2.1.2.1.1) :) (Q (·.2.1.2.1.2.1.2) :);let DL:Df K mg "law" i7.nD qbe 446 _:=#[F,hfa,F.binds (λ_ _ _ _ _ _=>aeO λ_=>rfl)];show#[W.fnOf "law" "law" (cn i7.nD) (bJ i7.nD) (ar i7.nD) .none (.none) (.none) (.str "law_slicewise_k44_slices_of_several_sets" 726) none (.ref 445) (.none),λs v=>.of_eq 9,λbase _ _=>?_];let zT:Tk l.prog w base:=trivial;let tG:=dN zT X G (Q (·.2.1.2.1.2.2.1) :) λD=>Nt.Hc D;let Nv:=dN zT X G (Q (·.2.1.2.1.2.2.2.1) :) λD=>iX.W0 D;let km:=dM X G (Q (·.2.1.2.1.2.2.2.2) :) λD=>iX.CM D MP Nv;let oQ:=dN zT X G (Q (·.2.1.2.2.1.1.1) :) λD=>Nm.Qp D N2;let tH:=dM X G (Q (·.2.1.2.2.1.1.2) :) λD=>Nm.zU D N2 oQ;let tI:=dM X G (Q (·.2.1.2.2.1.2.1) :) λD=>iX.Ah D tH;let Dv:=dM X G (Q (·.2.1.2.2.1.2.2.1) :) λD=>Us.Ar D MU tH;let XU:=dM X G (Q (·.2.1.2.2.1.2.2.2) :) λD=>Us.Q0 D MU Dv oQ;let Fo:=dN zT X G (Q (·.2.1.2.2.2.1.1) :) λD=>Nt.L5 D MN;let RI:=dM X G (Q (·.2.1.2.2.2.1.2) :) λD=>Us.Ma D MU oQ;let RJ:=dN zT X G (Q (·.2.1.2.2.2.2.1) :) λD=>K5V.KO D M5;let yg:=dN zT X G (Q (·.2.1.2.2.2.2.2.1) :) λD=>Lay.uf D MF;let A0:=Lay.GL HL MLy aj RJ yg;let Dw:=dN zT X G (Q (·.2.1.2.2.2.2.2.2) :) λD=>Nt.Az D MB aj;let HM:=dN zT X G (Q (·.2.2.1.1.1.1.1) :) λD=>Nx.Co D;let Ny:=dN zT X G (Q (·.2.2.1.1.1.1.2) :) λD=>Nx.GY D aj;let yh:=dN zT X G (Q (·.2.2.1.1.1.2.1) :) λD=>Nx.um D aj;let A3:=dM X G (Q (·.2.2.1.1.1.2.2) :) λD=>Nx.xm D MX aj HM Ny yh;let A4:=dM X G (Q (·.2.2.1.1.2.1.1) :) λD=>Nt.xP D MN aj A3;let Nz:=dM X G (Q (·.2.2.1.1.2.1.2) :) λD=>Nt.He D MN Nv tG Fo;let XW:=iX.QS (P:=l.prog) (w:=w) (base:=base) RH dC;let HN:=dN zT X G (Q (·.2.2.1.1.2.2.1) :) λD=>iX.CP D MP;let yi:=dM X G (Q (·.2.2.1.1.2.2.2.1) :) λD=>iX.ur D dC km;let yj:=dN zT X G (Q (·.2.2.1.1.2.2.2.2) :) λD=>iX.uu D MP aj;let RK:=dM X G (Q (·.2.2.1.2.1.1.1) :) λD=>iX.LZ D aj dC yi tI km yj;let RL:=dM X G (Q (·.2.2.1.2.1.1.2) :) λD=>iX.Ml D aj MP RK;let NA:=dM X G (Q (·.2.2.1.2.1.2.1) :) λD=>iX.Hi D aj dC A0 XW RL HN;let RM:=dN zT X G (Q (·.2.2.1.2.1.2.2.1) :) λD=>Nt.Mu D;let yk:=dM X G (Q (·.2.2.1.2.1.2.2.2) :) λD=>Nt.uA D br aj RM;let Dx:=dM X G (Q (·.2.2.1.2.2.1.1) :) λD=>Nt.AD D yk;let A5:=dM X G (Q (·.2.2.1.2.2.1.2) :) λD=>Nt.xY D MB br aj tI Dx;let yl:=dM X G (Q (·.2.2.1.2.2.2.1) :) λD=>Nt.uB D aj Dw;let tJ:=dM X G (Q (·.2.2.1.2.2.2.2.1) :) λD=>Nt.p6 D aj tG;let oR:=dM X G (Q (·.2.2.1.2.2.2.2.2) :) λD=>Nt.nz D aj tJ;let A6:=dM X G (Q (·.2.2.2.1.1.1.1) :) λD=>Nt.xZ D MB aj RI oR;let uD:=dM X G (Q (·.2.2.2.1.1.1.2) :) λD=>Nt.sD D MN aj A4 Fo Nz;let A7:=dM X G (Q (·.2.2.2.1.1.2.1) :) λD=>Nt.x_ D br aj XU Nv;let HP:=dM X G (Q (·.2.2.2.1.1.2.2) :) λD=>Nt.C6 D MC br aj A7 A5 yl A6;let RN:=Nt.ME Nu br aj A0 NA uD;let HQ:C5 K "net_of" "net_of" Nt.cL 269 (W.fnOf "net_of" "net_of" (cn Nt.cL) (bJ Nt.cL) (ar Nt.cL) (.ref 264) (.none) (.none) (.str "slicewise.net" 542) none (.ref 268) (.none)):=#[#[_,_,_,_,_,_,_,_,_,_,9,(Q (·.2.1.1.2.1.2.1) :),(Q (·.2.1.1.2.1.2.2) :)],(Q (·.2.1.1.2.2.1.1) :)];let HR:Binds K (W.fnOf "net_of" "net_of" (cn Nt.cL) (bJ Nt.cL) (ar Nt.cL) (.ref 264) (.none) (.none) (.str "slicewise.net" 542) none (.ref 268) (.none)) qaQ []:=qr (m:=2) 9 (Q (·.2.1.1.2.2.1.2) :) 9 9 (fA.tD λ_=>(fA.tD λ_=>(fA.Np #[_,9,9])));let HS:Binds K (W.fnOf "net_of" "net_of" (cn Nt.cL) (bJ Nt.cL) (ar Nt.cL) (.ref 264) (.none) (.none) (.str "slicewise.net" 542) none (.ref 268) (.none)) qaQ [.bool false]:=qr (m:=1) 9 (Q (·.2.1.1.2.2.1.2) :) 9 9 (fA.tD λ_=>(fA.Np #[_,9,9]));let A8:=Nt.Ht (P:=l.prog) (w:=w) (base:=base) HQ (Br X G (Q (·.2.1.1.2.1.1.2) :)) HR HS MS RN tG HP;let Dy:=dM X G (Q (·.2.2.2.1.2.1.1) :) λD=>Nt.Ru D MS km;let NB:=dM X G (Q (·.2.2.2.1.2.1.2) :) λD=>Nt.Hv D MS km;let RO:=dM X G (Q (·.2.2.2.1.2.2.1) :) λD=>Nt.M7 D MS Dy NB;let HU:=dM X G (Q (·.2.2.2.1.2.2.2.1) :) λD=>Nt.De D RO Dy;let A9:C5 K "slice_of" "slice_of" Nt.bR 364 (W.fnOf "slice_of" "slice_of" (cn Nt.bR) (bJ Nt.bR) (ar Nt.bR) (.ref 357) (.none) (.none) (.str "slicewise.slices" 676) none (.ref 363) (.none)):=#[#[_,_,_,_,_,_,_,_,_,_,9,(Q (·.2.1.1.2.2.2.2.1) :),(Q (·.2.1.1.2.2.2.2.2) :)],(Q (·.2.1.2.1.1.1.1) :)];let A_:Binds K (W.fnOf "slice_of" "slice_of" (cn Nt.bR) (bJ Nt.bR) (ar Nt.bR) (.ref 357) (.none) (.none) (.str "slicewise.slices" 676) none (.ref 363) (.none)) qaT []:=qr (m:=03) 9 (Q (·.2.1.2.1.1.1.2) :) 9 9 (fA.tD λ_=>(fA.tD λ_=>(fA.tD λ_=>(fA.Np #[_,9,9]))));let Ba:Binds K (W.fnOf "slice_of" "slice_of" (cn Nt.bR) (bJ Nt.bR) (ar Nt.bR) (.ref 357) (.none) (.none) (.str "slicewise.slices" 676) none (.ref 363) (.none)) qaT [.bool false]:=qr (m:=2) 9 (Q (·.2.1.2.1.1.1.2) :) 9 9 (fA.tD λ_=>(fA.tD λ_=>(fA.Np #[_,9,9])));let Dz:=Nt.AU (P:=l.prog) (w:=w) (base:=base) A9 (Br X G (Q (·.2.1.1.2.2.2.1) :)) A_ Ba Dy A8;let tK:=dN zT X G (Q (·.2.2.2.1.2.2.2.2) :) λD=>fS.Dj D MG;let ym:=dN zT X G (Q (·.2.2.2.2.1.1.1) :) λD=>fS.Na D MG;let dD:=dN zT X G (Q (·.2.2.2.2.1.1.2) :) λD=>fS.Dl D;let DA:=dM X G (Q (·.2.2.2.2.1.2.1) :) λD=>fS.Xs D dD;let Bb:=dM X G (Q (·.2.2.2.2.1.2.2.1) :) λD=>fS.Rz D MG dD;let uE:=dM X G (Q (·.2.2.2.2.1.2.2.2) :) λD=>fS.HA D dD DA Bb;let DB:=dM X G (Q (·.2.2.2.2.2.1.1) :) λD=>fS.Xz D MG dD uE;let Bc:=dN zT X G (Q (·.2.2.2.2.2.1.2) :) λD=>fS.RA D MG;let tM:=dM X G (Q (·.2.2.2.2.2.2.1) :) λD=>fS.Dn D MG dD DB;let Bd:=dN zT X G (Q (·.2.2.2.2.2.2.2.1) :) λD=>i7.RC D ML;let tO:=dN zT X G (Q (·.2.2.2.2.2.2.2.2) :) λD=>i7.Dr D ML;calc i7.XF DL ML tK ym Bc tM Bd tO Dz A8 HU
def walk{l:PySem.W.OpenLaw}{q:Program}{loose:χ}{XP:(qae)->Heap->Prop}{d:DefRec}{K:World->qaf}(hn:l.most\63)(hdf:d.params.defaults=[])(F:∀(w:World) (mg:qae) (fa:Addr) (h:Heap),(K w).In h->h.Ns mainGlobals mg->mg d.name\.ref fa ->
    ∃fd:FuncData,(∀(s:Shared) (u:Value),BindsTo s fd #[[u],[]] [("_law_script",u)])/\∀base:Heap,(K w).In base->base.Ns mainGlobals mg->eD l.prog w (K w) mg base iA 11 fa fd qbe (bQ (K w) 1 i7.RD)) :
  PySem.W.WalkO q loose XP (λw h=>(K w).In h) l.row.toRowW d [] (λf vs=>PySem.call f vs):=by
 show Att.yK hn hdf λw s₀ s₁ mg mb fa o pm cd doc a vs ns G Y ho hd fL ZA UZ hints hlen hg=>?_;let(fd,hb,hF):=F w mg fa _ Y G.T.g ZA;calc Jd (CX:=iA) (sp:=bQ (K w) 1 i7.RD) (k:=11) Y G.T.g G.T.b G.T.builtins G.T.nolimit hg UZ hints (kJ hlen 15) #[9,by decide,by decide] hF hb (λH _ hS=>
  #[[.lst (ns.map .int)],[],[],λ_ r=>r=.vw (.bl true),NJ,λ_ z=>(nomatch z),λ_ z=>(nomatch z),iL 9 (aD.cons (by
     erw[At];show#[a,ns.map V.int,9,hS.imp (λz=>#[z,λm=>nomatch m]) id,?_];clear hS;clear hints hlen;induction ns with
     |nil=>calc 451
     |cons n ns ih=>calc aD.cons bw ih) 451),#[ns,9,hlen,9],λus r hr v H' _ z=>by
     subst hr;have:=z.1;simpa only[At] using this]) λ_ _ _ z=>z
end fA
open PySem PySem.W PyProof.Rows
set_option maxRecDepth 100000 in
set_option maxHeartbeats 0 in
theorem PySem.Challenge.cw_slicewise_k44_slices_of_several_sets_holds : PySem.Challenge.rw_slicewise_k44_slices_of_several_sets.Holds := by
 w_on
 show PySem.W.holds_law fA.XM λXM=>?_;show PySem.W.holds_openX (q:=fA.qE) (loose:=fA.tF) (Xt:=HE.Py fA.qE [] []) (XP:=PySem.W.XL fA.qE []) (d:=fA.dE) (kwd:=[]) (N:=6042) fA.hd.1 (λs e=>PySem.W.xl_of s (Bool.and_eq_true_iff.mp e).1) PySem.W.XL.keeps 462 462 462 (λs e=>PySem.W.recFacts_of (Bool.and_eq_true_iff.mp e).2) 462 XM 462 #[9,9,9,9,9,by decide +kernel] ?hw ?hc
 (case hw=>w_witness2)
 calc HE.J1 (fA.walk (l:=PySem.Challenge.rw_slicewise_k44_slices_of_several_sets) (K:=fA.KE) 9 9 (λw mg fa h KX G ZA=>fA.XN KX G ZA (fA.hd.2 w)))
